import PyProof.Rows.All
import Wide.All
import OpenK.AllK
import Wide.FinOn
import Lean
import PyProof.EqAt
import PyProof.EqKinds
import PyProof.TupleCall
import PySem.Challenge.RW_readgrove_k74_tree_counts
open List renaming length_map->Aa,mem_cons_of_mem->Af,mem_cons_self->Ai,getElem?_eq_some_iff->Ak,mem_singleton->An,length_append->Ar,mem_map->Au,mem_append->Aw,getElem?_map->Ax,map_cons->Ay,length_cons->Az,mem_append_right->Ba,getElem?_eq_getElem->Bc,map_map->Bd,size_toArray->Bg,mem_append_left->Bh,mem_cons->Bj,map_append->Bk,mem_of_getElem?->Bl,range->Bp,lookup->Bu,filter_cons->Bx,length_singleton->Bz,take_length->Cb,length_take->Ce,append_nil->Cf,replicate->Cg,nil_append->Ci,nodup_append->Ck,length_range->Cm,filterMap_cons->Cp,mem_range->Cv,map_congr_left->Cy,nodup_iff_pairwise_ne->Cz,getElem?_cons_succ->De,mem_filter->Dh,append_assoc->Dj,length->Dv,sum_cons->Dy,nodup_cons->Ee,length_filter_le->Ef,any_cons->Ei,mem_flatMap->Ej,length_pos_iff->El,foldl_cons->Ex,find?_cons->Ey,filter_append->Fb,append_of_mem->Fc,mem_singleton_self->Fe,mem_nil_iff->Fp,length_drop->Fq,replicate_succ->Fy,mem_map_of_mem->Fz,all_eq_true->Gb,nodup_nil->Gf,getD_eq_getElem?_getD->Gg,take_append_drop->Gi,eq_nil_or_concat->Gj,concat_eq_append->Gk,drop_eq_getElem_cons->Gn,range_succ->Gs,map_nil->Gw,flatten_cons->Gx,lookup_cons->Hc,take_of_length_le->Hh,pairwise_map->Hu,forall_mem_cons->Ic,zipIdx_cons->Ij,getLastD_eq_getLast?->Ip,map->Ja,filter_nil->Jd,foldl_append->Jp,flatMap_cons->Jq,getElem?_eq_none->Jw,filterMap_append->Jx,all_cons->Jz,mem_of_mem_take->Ke,mem_zipIdx_iff_getElem?->Kh,all_map->Kl,mem_filterMap->Ks,getElem?_append_right->Kt,filterMap_map->Ku,pairwise_iff_getElem->Lf,getElem?_append_left->Lh,take_add_one->Lm,length_filterMap_le->Lp,length_eq_zero_iff->Lz,getElem_mem->Ma,any_eq_true->Mb,any_map->Mj,length_nil->Mr,map_take->Ng
open PySem.W renaming Frag->Ab,findIn->Cd,kia_one->Eo,fnOf->Ep,emptyDict->Fh,keepIn->Fs,instObj->Gm,kitOne->Jh,codeIn->Ji,mg_of->Ky,plainGet->Li,isFn->Lv,lookIn->Mp,plainGet_of->Mv
open PySem renaming wpAny_bind->Ac,Value->Ae,Shared->Aj,wpAny_pure->Ao,sizeLine->Ap,wpAny->Bo,starEach->Br,FuncData->Bv,model->Bw,Program->Ca,compareOp->Cq,World->Ct,bootBuiltins->Dc,Around->Dg,wpAny_holding->Du,mainGlobals->Eh,binaryOp->Ek,wpAny_newObj_type->Ew,tupleKind_room_in1->Ff,sysModules->Fg,wpAny_call_entry->Fi,DictEntry->Fn,cLine->Fo,tupleKind->Ga,wpAny_Call_Name_kw->Gq,assignEach->Gr,mem_of_lookup->Ha,foldedSetIterable->Hb,wpAny_callSpecial?_slot->Hj,backTo->Hk,wpAny_typeNameOfWhole_keyiter->Hr,wpAny_mono->Ht,wpAny_passesOwn->Hx,behindInMarks->Hz,attributeBase->Ia,wpAny_pyIter_list->Ih,wpAny_dictEntries->Ii,PyData->Iu,Paired->Iv,NameKind->Iw,wpAny_eqBool_int->Jb,call_meetsIn->Jc,wpAny_typeNameOf_keyiter->Jl,Scope->Jm,holding->Jn,swapsWith->Jt,wpAny_notOrdered_dict->Kg,wpAny_rule->Kj,wpAny_field->Km,sliceBounds->Kn,size_of_entries->Kw,wpAny_tupleItemsOf->Lr,wpAny_pyIter_tuple->Ls,rawInt->Lu,Expr->Mc,wpAny_pyIter_enum->Mf,sizeLine_eq->Mg,keywordEach->Mh,codeAny->Mi,pyNext->Ml,assign->Mo,atKey->Mu,call_meets->Mx,Builtin->Mz,wpAny_execs_nil->Nb,letOwnedTupleGo->Nc,wpAny_setField->Ni,firstArgMember->Nj,storedH->Nk,standAt->Nl,getMethod->Nm,wpAny_standAt->Nn
open Nat renaming le_refl->Ag,le_trans->Ah,zero_le->Bf,lt_of_lt_of_le->Bq,ne_of_lt->Bs,pow_le_pow_right->Dq,lt_irrefl->Dz,mul_le_mul->Eu,min_eq_left->Fm,min_eq_right->Ft,le_of_eq->Fv,lt_of_le_of_lt->Gh,mul_le_mul_right->Gy,le_of_lt->Gz,lt_succ_self->Hd,le_mul_of_pos_right->He,ne_of_gt->Hm,le_mul_of_pos_left->Hn,lt_succ_of_lt->Hw,zero_add->Il,succ_mul->Im,pow_add->Jk,zero_mul->Js,succ_le_succ->Jy,strongRecOn->Kk,mul_zero->Ko,lt_of_le_of_ne->Lb,eq_zero_or_pos->Lc,add_sub_cancel->Ld,le_succ_of_le->Lo,eq_zero_of_not_pos->Mq,add_le_add_left->Nf,add_assoc->Nh
open PySem.Heap renaming get?_push_of_some->Am,get?_push_size->Be,lt_size->Bi,size_push->Er,SameBut->Ez,get?_update_other->Hi,get?_update_self->Hs
open Bool renaming false_ne_true->Av,and_eq_true->Cw,eq_iff_iff->Dk,false_eq_true->Ea,not_not->Jr,not_true->Kb,not_false->Mw
open Option renaming map_eq_some_iff->Bb,isSome_iff_exists->Gv,map_some->Md
open PySem.PassesOwn renaming never->Bn
open Option.some renaming inj->Cj,injEq->Gd
open Ne renaming symm->Co
open Classical renaming byContradiction->Cr,not_forall->Hq,not_imp->Je
open Prod renaming fst->Cu,snd->Gu,ext->Iz
open PySem.F renaming plainAttrs_list->Dl,slot_list_append->Ds,type_list_append->Ec,slot_dict_keyiterator_next->Es,plainAttrs_dict->Fl,slot_tuple_iterator_next->Ir,entry_dict_get->Jj,slot_dict_get->Jo,type_dict_get->Kq,args_tuple_add_2->Kz,entry_tuple_add->Lj,slot_tuple_add->Lw,slot_list_getattribute->Me
open List.cons renaming injEq->Dn,inj->Ms
open PySem.Paired renaming length->Dr
open PySem.PyData renaming eqv->Dw,depth->Ib,eqvAll->My
open Prod.mk renaming injEq->Dx
open PyProof.Rows renaming callWith_type1->Eb,slot_tuple_getitem->Iy,seqObj->Jg,envOfC->Kx,lt_int->Ly,AllBare->Na
open PySem.Str renaming ofString->Eg
open Array renaming getElem?_toList->Em,length_toList->Fx,perm_iff_toList_perm->Hy,toArray_toList->Kd
open PySem.Heap.SameBut renaming update->Fd
open Int renaming toNat_natCast->Fj,emod_lt_of_pos->Fu,emod_nonneg->Fw,eq_ofNat_of_zero_le->Hf,le_refl->Ig,zero_add->Iq,natCast_add->Jf
open False renaming elim->Ge
open PySem.Builtin.Int renaming intBits->Gp
open PySem.Builtin.SmallTypes renaming nextOf->Hg
open PySem.Obj renaming mapSeq->Hl,data_mapDictKeys->Kf,data_mapFields->La
open PySem.Builtin.Slice renaming slicePlaces->Ho,sliceAdjust->Ka
open PySem.Builtin.Tuple renaming tupleExact->Hv
open PySem.Builtin.Range renaming rangeSize->Ie,small->Lx
open PySem.AutoSeq1 renaming wpAny_loadPart'->Ik
open Sum.inl renaming injEq->Ju
open Sum.inr renaming inj->Jv
open PySem.Builtin.List renaming listTooLong->Ki
open PySem.Builtin.Str renaming occurrences->Kr
open Function renaming comp->Kv
set_option Elab.async false
set_option compiler.extract_closed false
set_option bootstrap.genMatcherCode false
set_option linter.all false
noncomputable section
set_option genSizeOf false
set_option maxRecDepth 100000
namespace L2
open PySem Spec PyProof.Rows
def gY(s:Stmt)(j:Nat):Stmt:=match s with
 | .ClassDef _ _ _ body _ _ _ _ _ _ _=>body.getD j (.Pass ⟨0,0,0,0⟩)
 | _=>.Pass ⟨0,0,0,0⟩
def iZ(s:Stmt):Arguments:=match s with
 | .FunctionDef _ a _ _ _ _ _ _ _ _=>a
 | _=>{posonlyargs:=[],args:=[],vararg:=none,kwonlyargs:=[],kw_defaults:=[],kwarg:=none,defaults:=[]}
def gQ(s:Stmt):List Stmt:=match s with
 | .FunctionDef _ _ b _ _ _ _ _ _ _=>b
 | _=>[]
def d4(s:Stmt):Jm:=match s with
 | .FunctionDef _ _ _ _ _ _ sc _ _ _=>sc
 | _=>{kind:=.function,names:=[],isGenerator:=false,isCoroutine:=false}
end L2
namespace M74
open PySem Spec PyProof.Rows L2
def bF(i:Nat):Stmt:=PySem.Challenge.pw_readgrove_k74_tree_counts.main.body.getD i (.Pass ⟨0,0,0,0⟩)
abbrev AY:Stmt:=bF 1
abbrev AZ:Stmt:=bF 2
abbrev A5:Stmt:=bF 4
abbrev A6:Stmt:=bF 5
abbrev A7:Stmt:=bF 6
abbrev A8:Stmt:=gY (bF 8) 0
abbrev A9:Stmt:=gY (bF 8) 1
abbrev BA:Stmt:=gY (bF 8) 2
abbrev BB:Stmt:=gY (bF 8) 3
abbrev BC:Stmt:=gY (bF 8) 4
abbrev BD:Stmt:=bF 10
abbrev BE:Stmt:=gY (bF 11) 0
abbrev BF:Stmt:=gY (bF 11) 1
abbrev BG:Stmt:=gY (bF 11) 2
abbrev BH:Stmt:=gY (bF 11) 3
abbrev BI:Stmt:=gY (bF 11) 4
abbrev BJ:Stmt:=bF 12
abbrev BK:Stmt:=bF 14
abbrev BL:Stmt:=bF 15
abbrev BM:Stmt:=bF 16
abbrev BN:Stmt:=bF 18
abbrev BO:Stmt:=bF 20
abbrev BP:Stmt:=bF 22
abbrev BQ:Stmt:=bF 23
abbrev BR:Stmt:=bF 24
abbrev BS:Stmt:=gY (bF 25) 0
abbrev BU:Stmt:=gY (bF 25) 1
abbrev BV:Stmt:=gY (bF 25) 2
abbrev BW:Stmt:=gY (bF 25) 3
abbrev BX:Stmt:=gY (bF 25) 4
abbrev BY:Stmt:=bF 26
abbrev BZ:Stmt:=bF 27
abbrev B1:Stmt:=bF 29
abbrev B2:Stmt:=bF 30
abbrev B3:Stmt:=bF 31
abbrev B4:Stmt:=bF 33
abbrev B5:Stmt:=bF 34
abbrev B6:Stmt:=bF 35
def en(P:Params)(x:String)(t:Tok)(v:Ae):Fn:=⟨PyData.keyHash P (Eg x),.str (Eg x) t,v⟩
abbrev sT(x:String)(t:Tok):Ae:=.str (Eg x) t
abbrev cO(x:String)(a:Tok)(q:String)(b c:Tok)(l n:Int)(r:Addr)(u v w y z:Ae)(k:Int)(d:Tok):Obj:=⟨.type "code",none,.fields #[sT x a,sT q b,sT "/claim/cut.py" c,.int l 0,.int n 0,.int 0 0,.int 0 0,.int 3 0,.ref r,.bool true,.int 181 0,u,v,w,y,z,.int k 0,.int l 0,sT "/claim/cut.py" d],#[]⟩
abbrev fO(x q:Str)(s:Stmt)(m c:Ae):Bv:=Ep x q (iZ s) (gQ s) (d4 s) .none .none .none m none c .none
abbrev B7:Bv:=fO "names" "names" AY (sT "readgrove.grammars" 187) (.ref 20)
abbrev B8:Bv:=fO "rules_of" "rules_of" AZ (sT "readgrove.grammars" 187) (.ref 25)
abbrev B9:Bv:=fO "marks" "marks" A5 (sT "readgrove.covers" 204) (.ref 30)
abbrev CA:Bv:=fO "places_of" "places_of" A6 (sT "readgrove.covers" 204) (.ref 37)
abbrev CB:Bv:=fO "row_steps" "row_steps" A7 (sT "readgrove.covers" 204) (.ref 42)
abbrev CC:Bv:=fO "__init__" "Queue.__init__" A8 (sT "readgrove.queues" 225) (.ref 56)
abbrev CD:Bv:=fO "is_done" "Queue.is_done" A9 (sT "readgrove.queues" 225) (.ref 63)
abbrev CF:Bv:=fO "put" "Queue.put" BA (sT "readgrove.queues" 225) (.ref 70)
abbrev CG:Bv:=fO "place_of" "Queue.place_of" BB (sT "readgrove.queues" 225) (.ref 77)
abbrev CI:Bv:=fO "take" "Queue.take" BC (sT "readgrove.queues" 225) (.ref 84)
abbrev CJ:Bv:=fO "added" "added" BD (sT "readgrove.leasts" 293) (.ref 98)
abbrev CK:Bv:=fO "__init__" "Search.__init__" BE (sT "readgrove.leasts" 293) (.ref 112)
abbrev CL:Bv:=fO "reach" "Search.reach" BF (sT "readgrove.leasts" 293) (.ref 119)
abbrev CM:Bv:=fO "take_next" "Search.take_next" BG (sT "readgrove.leasts" 293) (.ref 126)
abbrev CN:Bv:=fO "step_by_name" "Search.step_by_name" BH (sT "readgrove.leasts" 293) (.ref 133)
abbrev CO:Bv:=fO "settle" "Search.settle" BI (sT "readgrove.leasts" 293) (.ref 140)
abbrev CP:Bv:=fO "least_trees" "least_trees" BJ (sT "readgrove.leasts" 293) (.ref 154)
abbrev CQ:Bv:=fO "row_trees" "row_trees" BK (sT "readgrove.spans" 406) (.ref 161)
abbrev CS:Bv:=fO "no_weights" "no_weights" BL (sT "readgrove.spans" 406) (.ref 166)
abbrev CT:Bv:=fO "facts" "facts" BM (sT "readgrove.spans" 406) (.ref 173)
abbrev CU:Bv:=fO "words_of" "words_of" BN (sT "readgrove.nexts" 431) (.ref 180)
abbrev CW:Bv:=fO "ringless" "ringless" BO (sT "readgrove.rings" 444) (.ref 185)
abbrev CY:Bv:=fO "times" "times" BP (sT "readgrove.counts" 452) (.ref 192)
abbrev CZ:Bv:=fO "total" "total" BQ (sT "readgrove.counts" 452) (.ref 199)
abbrev C0:Bv:=fO "whole_links" "whole_links" BR (sT "readgrove.counts" 452) (.ref 204)
abbrev C1:Bv:=fO "__init__" "Lengths.__init__" BS (sT "readgrove.counts" 452) (.ref 216)
abbrev C4:Bv:=fO "fill_rule" "Lengths.fill_rule" BU (sT "readgrove.counts" 452) (.ref 223)
abbrev C5:Bv:=fO "count_by_rules" "Lengths.count_by_rules" BV (sT "readgrove.counts" 452) (.ref 228)
abbrev C6:Bv:=fO "held_at" "Lengths.held_at" BW (sT "readgrove.counts" 452) (.ref 233)
abbrev C7:Bv:=fO "add_length" "Lengths.add_length" BX (sT "readgrove.counts" 452) (.ref 238)
abbrev C8:Bv:=fO "lengths_to" "lengths_to" BY (sT "readgrove.counts" 452) (.ref 252)
abbrev C9:Bv:=fO "tree_count" "tree_count" BZ (sT "readgrove.counts" 452) (.ref 259)
abbrev DA:Bv:=fO "_law_cell_at" "_law_cell_at" B1 (sT "law_readgrove_k74_tree_counts" 558) (.ref 266)
abbrev DB:Bv:=fO "_law_parts" "_law_parts" B2 (sT "law_readgrove_k74_tree_counts" 558) (.ref 273)
abbrev DC:Bv:=fO "_law_grammar" "_law_grammar" B3 (sT "law_readgrove_k74_tree_counts" 558) (.ref 280)
abbrev DD:Bv:=fO "_law_laid" "_law_laid" B4 (sT "law_readgrove_k74_tree_counts" 558) (.ref 292)
abbrev DE:Bv:=fO "_law_deeper" "_law_deeper" B5 (sT "law_readgrove_k74_tree_counts" 558) (.ref 299)
abbrev rN:Bv:=fO "law" "law" B6 (sT "law_readgrove_k74_tree_counts" 558) (.ref 304)
def hpK:Params->Ab:=λP=>[(nat_lit 3,⟨(.type "dict"),none,.dict [en P "__name__" 165 (sT "law_readgrove_k74_tree_counts" 558),en P "__doc__" 166 .none,en P "__package__" 167 .none,en P "__loader__" 168 (.builtin "__main__.__loader__#opaque"),en P "__spec__" 169 .none,en P "__annotations__" 170 (.ref 6),en P "__builtins__" 171 (.ref 4),en P "__file__" 173 (sT "/claim/cut.py" 172),en P "__cached__" 174 .none,en P "names" 197 (.ref 21),en P "rules_of" 203 (.ref 26),en P "marks" 211 (.ref 31),en P "places_of" 218 (.ref 38),en P "row_steps" 224 (.ref 43),en P "Queue" 292 (.ref 88),en P "added" 302 (.ref 99),en P "Search" 392 (.ref 144),en P "least_trees" 405 (.ref 155),en P "row_trees" 416 (.ref 162),en P "no_weights" 422 (.ref 167),en P "facts" 430 (.ref 174),en P "words_of" 443 (.ref 181),en P "ringless" 451 (.ref 186),en P "times" 461 (.ref 193),en P "total" 468 (.ref 200),en P "whole_links" 474 (.ref 205),en P "Lengths" 537 (.ref 242),en P "lengths_to" 547 (.ref 253),en P "tree_count" 557 (.ref 260),en P "_law_cell_at" 567 (.ref 267),en P "_law_parts" 578 (.ref 274),en P "_law_grammar" 591 (.ref 281),en P "_law_row" 597 (.ref 286),en P "_law_laid" 608 (.ref 293),en P "_law_deeper" 626 (.ref 300),en P "law" 632 (.ref 305)].toArray 36,#[]⟩),
 (nat_lit 20,cO "names" 189 "names" 190 191 2 1 15 (.ref 16) .none (.ref 17) (.ref 18) (.ref 19) 195 196),
 (nat_lit 21,⟨(.type "function"),none,.func B7,#[]⟩),
 (nat_lit 25,cO "rules_of" 198 "rules_of" 199 200 7 2 22 (.ref 23) .none .none .none (.ref 24) 201 202),
 (nat_lit 26,⟨(.type "function"),none,.func B8,#[]⟩),
 (nat_lit 30,cO "marks" 206 "marks" 207 208 10 1 27 (.ref 28) .none .none .none (.ref 29) 209 210),
 (nat_lit 31,⟨(.type "function"),none,.func B9,#[]⟩),
 (nat_lit 37,cO "places_of" 212 "places_of" 213 214 12 1 32 (.ref 33) .none (.ref 34) (.ref 35) (.ref 36) 216 217),
 (nat_lit 38,⟨(.type "function"),none,.func CA,#[]⟩),
 (nat_lit 42,cO "row_steps" 219 "row_steps" 220 221 14 1 39 (.ref 40) .none .none .none (.ref 41) 222 223),
 (nat_lit 43,⟨(.type "function"),none,.func CB,#[]⟩),
 (nat_lit 56,cO "__init__" 239 "Queue.__init__" 240 241 19 1 51 (.ref 52) .none (.ref 53) (.ref 54) (.ref 55) 243 244),
 (nat_lit 57,⟨(.type "function"),none,.func CC,#[]⟩),
 (nat_lit 63,cO "is_done" 246 "Queue.is_done" 247 248 23 1 58 (.ref 59) .none (.ref 60) (.ref 61) (.ref 62) 250 251),
 (nat_lit 64,⟨(.type "function"),none,.func CD,#[]⟩),
 (nat_lit 70,cO "put" 253 "Queue.put" 254 255 26 3 65 (.ref 66) .none (.ref 67) (.ref 68) (.ref 69) 259 260),
 (nat_lit 71,⟨(.type "function"),none,.func CF,#[]⟩),
 (nat_lit 77,cO "place_of" 262 "Queue.place_of" 263 264 32 2 72 (.ref 73) .none (.ref 74) (.ref 75) (.ref 76) 270 271),
 (nat_lit 78,⟨(.type "function"),none,.func CG,#[]⟩),
 (nat_lit 84,cO "take" 273 "Queue.take" 274 275 43 1 79 (.ref 80) .none (.ref 81) (.ref 82) (.ref 83) 280 281),
 (nat_lit 85,⟨(.type "function"),none,.func CI,#[]⟩),
 (nat_lit 87,⟨(.type "dict"),none,.dict [en P "__module__" 234 (sT "readgrove.queues" 225),en P "__firstlineno__" 238 (.int 17 237),en P "__init__" 245 (.ref 57),en P "is_done" 252 (.ref 64),en P "put" 261 (.ref 71),en P "place_of" 272 (.ref 78),en P "take" 282 (.ref 85),en P "__static_attributes__" 285 (.ref 86),en P "__dict__" 287 (.ref 89),en P "__weakref__" 289 (.ref 90),en P "__doc__" 290 .none].toArray 4,#[]⟩),
 (nat_lit 88,⟨(.type "type"),none,.cls ⟨(Eg "Queue"),[(.type "object")],[(.ref 88),(.type "object")],87,(Eg "Queue"),true,[],[],false,none,false⟩,#[none,none,some (sT "Queue" 227),some (sT "Queue" 235),some (.builtin "object.__new__"),some (.bool true)]⟩),
 (nat_lit 98,cO "added" 295 "added" 296 297 52 2 93 (.ref 94) .none (.ref 95) (.ref 96) (.ref 97) 300 301),
 (nat_lit 99,⟨(.type "function"),none,.func CJ,#[]⟩),
 (nat_lit 112,cO "__init__" 315 "Search.__init__" 316 317 56 3 107 (.ref 108) .none (.ref 109) (.ref 110) (.ref 111) 321 322),
 (nat_lit 113,⟨(.type "function"),none,.func CK,#[]⟩),
 (nat_lit 119,cO "reach" 324 "Search.reach" 325 326 66 4 114 (.ref 115) .none (.ref 116) (.ref 117) (.ref 118) 332 333),
 (nat_lit 120,⟨(.type "function"),none,.func CL,#[]⟩),
 (nat_lit 126,cO "take_next" 335 "Search.take_next" 336 337 72 1 121 (.ref 122) .none (.ref 123) (.ref 124) (.ref 125) 346 347),
 (nat_lit 127,⟨(.type "function"),none,.func CM,#[]⟩),
 (nat_lit 133,cO "step_by_name" 349 "Search.step_by_name" 350 351 88 5 128 (.ref 129) .none (.ref 130) (.ref 131) (.ref 132) 359 360),
 (nat_lit 134,⟨(.type "function"),none,.func CN,#[]⟩),
 (nat_lit 140,cO "settle" 362 "Search.settle" 363 364 93 4 135 (.ref 136) .none (.ref 137) (.ref 138) (.ref 139) 374 375),
 (nat_lit 141,⟨(.type "function"),none,.func CO,#[]⟩),
 (nat_lit 143,⟨(.type "dict"),none,.dict [en P "__module__" 310 (sT "readgrove.leasts" 293),en P "__firstlineno__" 314 (.int 54 313),en P "__init__" 323 (.ref 113),en P "reach" 334 (.ref 120),en P "take_next" 348 (.ref 127),en P "step_by_name" 361 (.ref 134),en P "settle" 376 (.ref 141),en P "__static_attributes__" 385 (.ref 142),en P "__dict__" 387 (.ref 145),en P "__weakref__" 389 (.ref 146),en P "__doc__" 390 .none].toArray 4,#[]⟩),
 (nat_lit 144,⟨(.type "type"),none,.cls ⟨(Eg "Search"),[(.type "object")],[(.ref 144),(.type "object")],143,(Eg "Search"),true,[],[],false,none,false⟩,#[none,none,some (sT "Search" 303),some (sT "Search" 311),some (.builtin "object.__new__"),some (.bool true)]⟩),
 (nat_lit 154,cO "least_trees" 393 "least_trees" 394 395 102 4 149 (.ref 150) .none (.ref 151) (.ref 152) (.ref 153) 403 404),
 (nat_lit 155,⟨(.type "function"),none,.func CP,#[]⟩),
 (nat_lit 161,cO "row_trees" 408 "row_trees" 409 410 111 3 156 (.ref 157) .none (.ref 158) (.ref 159) (.ref 160) 414 415),
 (nat_lit 162,⟨(.type "function"),none,.func CQ,#[]⟩),
 (nat_lit 166,cO "no_weights" 417 "no_weights" 418 419 113 1 163 (.ref 164) .none .none .none (.ref 165) 420 421),
 (nat_lit 167,⟨(.type "function"),none,.func CS,#[]⟩),
 (nat_lit 173,cO "facts" 423 "facts" 424 425 115 2 168 (.ref 169) .none (.ref 170) (.ref 171) (.ref 172) 428 429),
 (nat_lit 174,⟨(.type "function"),none,.func CT,#[]⟩),
 (nat_lit 180,cO "words_of" 433 "words_of" 434 435 118 1 175 (.ref 176) .none (.ref 177) (.ref 178) (.ref 179) 441 442),
 (nat_lit 181,⟨(.type "function"),none,.func CU,#[]⟩),
 (nat_lit 185,cO "ringless" 446 "ringless" 447 448 127 1 182 (.ref 183) .none .none .none (.ref 184) 449 450),
 (nat_lit 186,⟨(.type "function"),none,.func CW,#[]⟩),
 (nat_lit 192,cO "times" 454 "times" 455 456 142 2 187 (.ref 188) .none (.ref 189) (.ref 190) (.ref 191) 459 460),
 (nat_lit 193,⟨(.type "function"),none,.func CY,#[]⟩),
 (nat_lit 199,cO "total" 462 "total" 463 464 146 1 194 (.ref 195) .none (.ref 196) (.ref 197) (.ref 198) 466 467),
 (nat_lit 200,⟨(.type "function"),none,.func CZ,#[]⟩),
 (nat_lit 204,cO "whole_links" 469 "whole_links" 470 471 148 1 201 (.ref 202) .none .none .none (.ref 203) 472 473),
 (nat_lit 205,⟨(.type "function"),none,.func C0,#[]⟩),
 (nat_lit 216,cO "__init__" 487 "Lengths.__init__" 488 489 159 2 213 (.ref 214) .none .none .none (.ref 215) 490 491),
 (nat_lit 217,⟨(.type "function"),none,.func C1,#[]⟩),
 (nat_lit 223,cO "fill_rule" 493 "Lengths.fill_rule" 494 495 167 3 218 (.ref 219) .none (.ref 220) (.ref 221) (.ref 222) 504 505),
 (nat_lit 224,⟨(.type "function"),none,.func C4,#[]⟩),
 (nat_lit 228,cO "count_by_rules" 507 "Lengths.count_by_rules" 508 509 177 3 225 (.ref 226) .none .none .none (.ref 227) 510 511),
 (nat_lit 229,⟨(.type "function"),none,.func C5,#[]⟩),
 (nat_lit 233,cO "held_at" 513 "Lengths.held_at" 514 515 182 2 230 (.ref 231) .none .none .none (.ref 232) 516 517),
 (nat_lit 234,⟨(.type "function"),none,.func C6,#[]⟩),
 (nat_lit 238,cO "add_length" 519 "Lengths.add_length" 520 521 192 2 235 (.ref 236) .none .none .none (.ref 237) 522 523),
 (nat_lit 239,⟨(.type "function"),none,.func C7,#[]⟩),
 (nat_lit 241,⟨(.type "dict"),none,.dict [en P "__module__" 482 (sT "readgrove.counts" 452),en P "__firstlineno__" 486 (.int 157 485),en P "__init__" 492 (.ref 217),en P "fill_rule" 506 (.ref 224),en P "count_by_rules" 512 (.ref 229),en P "held_at" 518 (.ref 234),en P "add_length" 524 (.ref 239),en P "__static_attributes__" 530 (.ref 240),en P "__dict__" 532 (.ref 243),en P "__weakref__" 534 (.ref 244),en P "__doc__" 535 .none].toArray 4,#[]⟩),
 (nat_lit 242,⟨(.type "type"),none,.cls ⟨(Eg "Lengths"),[(.type "object")],[(.ref 242),(.type "object")],241,(Eg "Lengths"),true,[],[],false,none,false⟩,#[none,none,some (sT "Lengths" 475),some (sT "Lengths" 483),some (.builtin "object.__new__"),some (.bool true)]⟩),
 (nat_lit 252,cO "lengths_to" 538 "lengths_to" 539 540 203 2 247 (.ref 248) .none (.ref 249) (.ref 250) (.ref 251) 545 546),
 (nat_lit 253,⟨(.type "function"),none,.func C8,#[]⟩),
 (nat_lit 259,cO "tree_count" 548 "tree_count" 549 550 208 3 254 (.ref 255) .none (.ref 256) (.ref 257) (.ref 258) 555 556),
 (nat_lit 260,⟨(.type "function"),none,.func C9,#[]⟩),
 (nat_lit 266,cO "_law_cell_at" 560 "_law_cell_at" 561 562 212 2 261 (.ref 262) .none (.ref 263) (.ref 264) (.ref 265) 565 566),
 (nat_lit 267,⟨(.type "function"),none,.func DA,#[]⟩),
 (nat_lit 273,cO "_law_parts" 568 "_law_parts" 569 570 216 2 268 (.ref 269) .none (.ref 270) (.ref 271) (.ref 272) 576 577),
 (nat_lit 274,⟨(.type "function"),none,.func DB,#[]⟩),
 (nat_lit 280,cO "_law_grammar" 579 "_law_grammar" 580 581 225 1 275 (.ref 276) .none (.ref 277) (.ref 278) (.ref 279) 589 590),
 (nat_lit 281,⟨(.type "function"),none,.func DC,#[]⟩),
 (nat_lit 292,cO "_law_laid" 598 "_law_laid" 599 600 240 3 287 (.ref 288) .none (.ref 289) (.ref 290) (.ref 291) 606 607),
 (nat_lit 293,⟨(.type "function"),none,.func DD,#[]⟩),
 (nat_lit 299,cO "_law_deeper" 609 "_law_deeper" 610 611 250 5 294 (.ref 295) .none (.ref 296) (.ref 297) (.ref 298) 624 625),
 (nat_lit 300,⟨(.type "function"),none,.func DE,#[]⟩),
 (nat_lit 304,cO "law" 627 "law" 628 629 260 1 301 (.ref 302) .none .none .none (.ref 303) 630 631),
 (nat_lit 305,⟨(.type "function"),none,.func rN,#[]⟩)]
def NX:List Addr:=[nat_lit 3,nat_lit 20,nat_lit 21,nat_lit 25,nat_lit 26,nat_lit 30,nat_lit 31,nat_lit 37,nat_lit 38,nat_lit 42,nat_lit 43,nat_lit 56,nat_lit 57,nat_lit 63,nat_lit 64,nat_lit 70,nat_lit 71,nat_lit 77,nat_lit 78,nat_lit 84,nat_lit 85,nat_lit 87,nat_lit 88,nat_lit 98,nat_lit 99,nat_lit 112,nat_lit 113,nat_lit 119,nat_lit 120,nat_lit 126,nat_lit 127,nat_lit 133,nat_lit 134,nat_lit 140,nat_lit 141,nat_lit 143,nat_lit 144,nat_lit 154,nat_lit 155,nat_lit 161,nat_lit 162,nat_lit 166,nat_lit 167,nat_lit 173,nat_lit 174,nat_lit 180,nat_lit 181,nat_lit 185,nat_lit 186,nat_lit 192,nat_lit 193,nat_lit 199,nat_lit 200,nat_lit 204,nat_lit 205,nat_lit 216,nat_lit 217,nat_lit 223,nat_lit 224,nat_lit 228,nat_lit 229,nat_lit 233,nat_lit 234,nat_lit 238,nat_lit 239,nat_lit 241,nat_lit 242,nat_lit 252,nat_lit 253,nat_lit 259,nat_lit 260,nat_lit 266,nat_lit 267,nat_lit 273,nat_lit 274,nat_lit 280,nat_lit 281,nat_lit 292,nat_lit 293,nat_lit 299,nat_lit 300,nat_lit 304,nat_lit 305]
def qv:Ca:={PySem.Challenge.pw_readgrove_k74_tree_counts with main:={PySem.Challenge.pw_readgrove_k74_tree_counts.main with body:=[bF 1,bF 2,bF 4,bF 5,bF 6,bF 8,bF 10,bF 11,bF 12,bF 14,bF 15,bF 16,bF 18,bF 20,bF 22,bF 23,bF 24,bF 25,bF 26,bF 27,bF 29,bF 30,bF 31,bF 32,bF 33,bF 34,bF 35]}}
def hk:PySem.W.Hook:=PySem.W.kHook hpK NX (λ_=>by kernel_rfl)
theorem NY{Z O J:Type}{o:Option Z}{f:Z->O}{g:Z->J}{a:O}{b:J}(h:o.map f=some a)(k:o.map g=some b):o.map (λs=>(f s,g s))=some (a,b):=by
 cases o with
 | none=>cases h
 | some s=>cases h;cases k;rfl
set_option maxHeartbeats 0 in
open PySem.W in
theorem DF(w:Ct):(openEnds treeTable PySem.Challenge.rw_readgrove_k74_tree_counts.row.prog w 3886).map hk.obs=some (hk.val w):=by kernel_rfl
set_option maxHeartbeats 0 in
open PySem.W in
theorem pI(w:Ct):(openEnds treeTable PySem.Challenge.rw_readgrove_k74_tree_counts.row.prog w 3886).map (λs=>openSeen qv [] (importedModules PySem.Challenge.rw_readgrove_k74_tree_counts.row.prog.main.body) (λs=>xlAt qv [] s&&recOk (RowW.records (OpenRow.toRowW PySem.Challenge.rw_readgrove_k74_tree_counts.row)) s) true s)=some (openGood qv []):=by kernel_rfl
set_option maxHeartbeats 0 in
theorem hws:PySem.Challenge.rw_readgrove_k74_tree_counts.wellSaid=true:=by kernel_rfl
open PySem.W in
theorem hlx:LeftO PySem.Challenge.rw_readgrove_k74_tree_counts.row.prog qv [] (λs=>xlAt qv [] s&&recOk (RowW.records (OpenRow.toRowW PySem.Challenge.rw_readgrove_k74_tree_counts.row)) s) hk.obs hk.val 3886:=λw=>NY (pI w) (DF w)
end M74
namespace L2
open PySem Spec PyProof.Rows
abbrev aC:=Sum Int Str
def mN:aC->Ae->Bool
 | .inl k,v=>Value.isInt k v
 | .inr x,v=>Value.isStrOf x v
def NZ(w:Ct):aC->Int
 | .inl k=>hashInt k
 | .inr x=>hashStr w x
theorem j8:∀{k:aC} {v:Ae},mN k v=true->(∃i t,k=Sum.inl i/\v=Value.int i t)\/(∃x t,k=Sum.inr x/\v=Value.str x t)
 | .inl i,v,h=>by
  obtain⟨t,e⟩:=Value.isInt_shape (k:=i) (v:=v) h;exact .inl ⟨i,t,rfl,e⟩
 | .inr x,v,h=>by
  obtain⟨t,e⟩:=Value.isStrOf_shape (x:=x) (v:=v) h;exact .inr ⟨x,t,rfl,e⟩
theorem N0(i:Int)(t:Tok):mN (.inl i) (.int i t)=true:=by simp[mN,Value.isInt]
theorem N2(x:Str)(t:Tok):mN (.inr x) (.str x t)=true:=by simp[mN,Value.isStrOf]
theorem N5(a b:Int):decide ((Sum.inl a:aC)=Sum.inl b)=(a==b):=by
 by_cases e:a=b
 .subst e;simp
 .have h:¬(Sum.inl a:aC)=Sum.inl b:=λq=>e (Sum.inl.inj q);rw[decide_eq_false h];exact(beq_eq_false_iff_ne.mpr e).symm
theorem N7(a b:Str):decide ((Sum.inr a:aC)=Sum.inr b)=decide (a=b):=by
 by_cases e:a=b
 .subst e;simp
 .have h:¬(Sum.inr a:aC)=Sum.inr b:=λq=>e (Jv q);rw[decide_eq_false h,decide_eq_false e]
theorem N8(a:Int)(b:Str):decide ((Sum.inl a:aC)=Sum.inr b)=false:=decide_eq_false (λq=>nomatch q)
theorem N9(a:Str)(b:Int):decide ((Sum.inr a:aC)=Sum.inl b)=false:=decide_eq_false (λq=>nomatch q)
def cR(prog:Ca)(w:Ct):PySem.KeyKind prog w aC where
 is:=mN
 hash:=NZ w
 inj:=λv a b ha hb=>by
  rcases j8 ha with⟨i,t,rfl,rfl⟩|⟨x,t,rfl,rfl⟩
  .rcases j8 hb with⟨j,u,rfl,e⟩|⟨y,u,rfl,e⟩
   .injection e with e1 _;rw[e1]
   .exact nomatch e
  .rcases j8 hb with⟨j,u,rfl,e⟩|⟨y,u,rfl,e⟩
   .exact nomatch e
   .injection e with e1 _;rw[e1]
 byValue:=λk v h=>by
  rcases j8 h with⟨i,t,rfl,rfl⟩|⟨x,t,rfl,rfl⟩<;>rfl
 pyHash:=λhv h=>by
  rcases j8 hv with⟨i,t,rfl,rfl⟩|⟨x,t,rfl,rfl⟩
  .exact wpAny_pyHash_int h
  .exact wpAny_pyHash_str h
 eqBool:=λhu hv h=>by
  rcases j8 hu with⟨i,t,rfl,rfl⟩|⟨x,t,rfl,rfl⟩
  .rcases j8 hv with⟨j,u,rfl,rfl⟩|⟨y,u,rfl,rfl⟩
   .rw[N5]at h;exact Jb h
   .rw[N8]at h;exact SeqAt.EqAt.int_str i t y u _ _ _ _ h
  .rcases j8 hv with⟨j,u,rfl,rfl⟩|⟨y,u,rfl,rfl⟩
   .rw[N9]at h;exact SeqAt.EqAt.str_int x t j u _ _ _ _ h
   .rw[N7]at h;exact wpAny_eqBool_str h
 «strs»:=λk x t v h=>by
  rcases j8 h with⟨i,u,rfl,e⟩|⟨y,u,rfl,e⟩
  .exact nomatch e
  .injection e with e1 _;subst e1;cases v<;>rfl
theorem OA(prog:Ca)(w:Ct)(i:Int)(t:Tok):(cR prog w).is (.inl i) (.int i t)=true:=N0 i t
theorem OB(prog:Ca)(w:Ct)(x:Str)(t:Tok):(cR prog w).is (.inr x) (.str x t)=true:=N2 x t
inductive V where
 | non|bl (b:Bool)|int (i:Int)|str (x:Str)|byt (b:Array UInt8)|flt (b:UInt64)|ref (a:Addr)|ty (n:String)
 deriving DecidableEq
def RelV:V->Ae->Prop
 | .non,u=>u=Value.none
 | .bl b,u=>u=Value.bool b
 | .int i,u=>∃t,u=Value.int i t
 | .str x,u=>∃t,u=Value.str x t
 | .byt b,u=>∃t,u=Value.bytes b t
 | .flt b,u=>∃t,u=Value.float b t
 | .ref a,u=>u=Value.ref a
 | .ty n,u=>u=Value.type n
abbrev aW:List V->List Ae->Prop:=Iv RelV
theorem aW.length{xs:List V}{us:List Ae}(r:aW xs us):xs.length=us.length:=Dr r
theorem aW.get:∀{xs:List V} {us:List Ae} {i:Nat} {x:V},aW xs us->xs[i]? = some x->∃u,us[i]? = some u/\RelV x u
 | _,_,_,_,.nil,e=>by simp at e
 | _,_,0,_,.cons r _,e=>by simp at e;subst e;exact⟨_,rfl,r⟩
 | _,_,i+1,x,.cons _ t,e=>by
  obtain⟨u,h1,h2⟩:=aW.get (i:=i) (x:=x) t (by simpa using e);exact⟨u,by simpa using h1,h2⟩
theorem aW.set{x:V}{u:Ae}(r:RelV x u):∀{xs:List V} {us:List Ae} (i:Nat),aW xs us->aW (xs.set i x) (us.set i u)
 | _,_,_,.nil=>.nil
 | _,_,0,.cons _ t=>.cons r t
 | _,_,i+1,.cons q t=>.cons q (aW.set r i t)
theorem aW.append:∀{xs ys:List V} {us ws:List Ae},aW xs us->aW ys ws->aW (xs++ys) (us++ws)
 | _,_,_,_,.nil,s=>s
 | _,_,_,_,.cons r t,s=>.cons r (aW.append t s)
theorem aW.take:∀{xs:List V} {us:List Ae} (n:Nat),aW xs us->aW (xs.take n) (us.take n)
 | _,_,0,_=>.nil
 | _,_,_+1,.nil=>.nil
 | _,_,n+1,.cons r t=>.cons r (aW.take n t)
theorem aW.drop:∀{xs:List V} {us:List Ae} (n:Nat),aW xs us->aW (xs.drop n) (us.drop n)
 | _,_,0,r=>r
 | _,_,_+1,.nil=>.nil
 | _,_,n+1,.cons _ t=>aW.drop n t
def fV:Option V->Option Ae->Prop
 | some v,some u=>RelV v u
 | none,none=>True
 | _,_=>False
def KV{U:Type}:List (U×V)->List (U×Ae)->Prop:=Iv λ(p:U×V) (q:U×Ae)=>p.1=q.1/\RelV p.2 q.2
def kV:aC->V
 | .inl i=>.int i
 | .inr x=>.str x
inductive HO where
 | lst (xs:List V)
 | tup (xs:List V)
 | dK (kvs:List (aC×V))|dT (kvs:List (List aC×V))
 | set (S:Int->Bool) (n:Nat)
 | ins (C dx:Addr) (fs:List (Str×V))
 | own (x:Addr)
 | xd (fs:List (Str×V))
 | met (f x:Addr)
 | rng (lo hi:Int)
 | frz (o:Obj) (u:HO)
 | tbl (ps:Array Ae)
 | ext (φ:Heap->Prop)
abbrev Hp:=Addr->Option HO
def aQ(H:Hp)(a:Addr)(o:HO):Hp:=λb=>if b=a then some o else H b
theorem cU{H:Hp}{a:Addr}{o:HO}:aQ H a o a=some o:=by unfold aQ;rw[if_pos rfl]
theorem bI{H:Hp}{a b:Addr}{o:HO}(h:b≠a):aQ H a o b=H b:=by unfold aQ;rw[if_neg h]
theorem vI{H:Hp}{a b:Addr}{o u:HO}(h:H a=some o)(h':H b=some u)(d:o≠u):a≠b:=by
 intro e;subst e;rw[h]at h';exact d (Cj h')
theorem e7{H:Hp}{a b:Addr}{o:HO}(h:H a=some o)(h':H b=none):a≠b:=by
 intro e;subst e;rw[h]at h';cases h'
section
variable (P:Ca)(w:Ct)
def b8(H:Hp)(h:Heap)(a:Addr):HO->Prop
 | .lst xs=>xs.length<=Ap/\∃(its:List Ae) (n:Nat),aW xs its/\h.get? a=some {cls:=.type "list",data:=.seq its.toArray n}
 | .tup xs=>xs.length<=Ap/\∃its:List Ae,aW xs its/\IsTup h a its.toArray
 | .dK kvs=>kvs.length<=Ap/\(a==Fg)=false/\∃vs,KV kvs vs/\h.DictOf (cR P w) a vs
 | .dT kvs=>kvs.length<=Ap/\(a==Fg)=false/\∃xs:List (List aC×Addr×Ae),
   Iv (λ(p:List aC×V) (q:List aC×Addr×Ae)=>p.1=q.1/\H q.2.1=some (.tup (p.1.map kV))/\RelV p.2 q.2.2) kvs xs/\
   ∃o es ep,h.get? a=some o/\o.ExactDict/\o.data=.dict es ep/\es.toList=xs.map (entryOfKey (Ga (cR P w)))/\(xs.map (·.1)).Nodup
 | .set S n=>h.SetOf (intKind P w) a S n
 | .ins C dx fs=>H dx=some (.own a)/\fs.length<=1000/\dx≠a/\h.get? a=some (Gm C dx)/\
   ∃mA,h.Ns1 dx mA/\(∀f,fV (fs.lookup f) (mA f))/\PySem.Within mA (fs.map (·.1))
 | .own _=>∃o,h.get? a=some o
 | .xd fs=>∃mA,h.Ns1 a mA/\∀f,fV (fs.lookup f) (mA f)
 | .rng lo hi=>∃t u v,h.get? a=some {cls:=.type "range",data:=.fields #[.int lo t,.int hi u,.int 1 v]}
 | .frz o u=>h.get? a=some o/\b8 H h a u
 | .tbl ps=>h.get? a=some {cls:=.none,data:=.fields ps}
 | .met f x=>h.get? a=some (PySem.W.methodObj (.ref f) (.ref x))
 | .ext φ=>φ h/\(∃o,h.get? a=some o)/\∀h1 h2:Heap,φ h1->(∀o,h1.get? a=some o->h2.get? a=some o)->φ h2
def cI(H:Hp)(h:Heap):Prop:=∀a o,H a=some o->b8 P w H h a o
end
section
variable {P:Ca}{w:Ct}{H H':Hp}{h h':Heap}{a:Addr}{o:HO}
theorem b8.lt(x:b8 P w H h a o):a<h.objs.size:=by
 cases o with
 | lst xs=>obtain⟨_,_,_,_,e⟩:=x;exact Bi e
 | tup xs=>obtain⟨_,_,_,p⟩:=x;exact p.lt
 | dK kvs=>obtain⟨_,_,_,_,o,_,_,e,_⟩:=x;exact Bi e
 | dT kvs=>obtain⟨_,_,_,_,o,_,_,e,_⟩:=x;exact Bi e
 | set S n=>obtain⟨o,_,_,_,e,_⟩:=x;exact Bi e
 | ins C dx fs=>obtain⟨_,_,_,e,_⟩:=x;exact Bi e
 | own y=>obtain⟨_,e⟩:=x;exact Bi e
 | xd fs=>obtain⟨_,⟨_,_,_,e,_⟩,_⟩:=x;exact Bi e
 | rng lo hi=>obtain⟨_,_,_,e⟩:=x;exact Bi e
 | frz ob u=>obtain⟨e,_⟩:=x;exact Bi e
 | tbl ps=>exact Bi (show h.get? a=some _ from x)
 | met f y=>exact Bi (show h.get? a=some _ from x)
 | ext φ=>obtain⟨_,⟨_,e⟩,_⟩:=x;exact Bi e
theorem Paired.mapP{O J:Type}{F G:O->J->Prop}:∀{l1:List O} {l2:List J},Iv F l1 l2->(∀a b,F a b->G a b)->Iv G l1 l2
 | _,_,.nil,_=>.nil
 | _,_,.cons r t,f=>.cons (f _ _ r) (Paired.mapP t f)
theorem b8.stay(x:b8 P w H h a o)(k:∀b u,(b=a\/H b=some (.own a))->h.get? b=some u->h'.get? b=some u)(ho:∀b,H b=some (.own a)->H' b=some (.own a))(ht:∀b xs,H b=some (.tup xs)->H' b=some (.tup xs)):b8 P w H' h' a o:=by
 induction o with
 | lst xs=>obtain⟨z,its,n,r,e⟩:=x;exact⟨z,its,n,r,k _ _ (.inl rfl) e⟩
 | tup xs=>obtain⟨z,its,r,ob,e,c⟩:=x;exact⟨z,its,r,ob,k _ _ (.inl rfl) e,c⟩
 | dK kvs=>obtain⟨z,y,vs,r,ob,es,ep,e,c⟩:=x;exact⟨z,y,vs,r,ob,es,ep,k _ _ (.inl rfl) e,c⟩
 | dT kvs=>
  obtain⟨z,y,xs,r,ob,es,ep,e,c⟩:=x;exact⟨z,y,xs,Paired.mapP r λp q z=>⟨z.1,ht _ _ z.2.1,z.2.2⟩,ob,es,ep,k _ _ (.inl rfl) e,c⟩
 | set S n=>obtain⟨ob,es,ep,t,e,c⟩:=x;exact⟨ob,es,ep,t,k _ _ (.inl rfl) e,c⟩
 | ins C dx fs=>
  obtain⟨d,z,ne,e,mA,⟨od,es,ep,e2,c⟩,r⟩:=x;exact⟨ho _ d,z,ne,k _ _ (.inl rfl) e,mA,⟨od,es,ep,k _ _ (.inr d) e2,c⟩,r⟩
 | own y=>obtain⟨ob,e⟩:=x;exact⟨ob,k _ _ (.inl rfl) e⟩
 | xd fs=>obtain⟨mA,⟨od,es,ep,e,c⟩,r⟩:=x;exact⟨mA,⟨od,es,ep,k _ _ (.inl rfl) e,c⟩,r⟩
 | rng lo hi=>obtain⟨t,u,v,e⟩:=x;exact⟨t,u,v,k _ _ (.inl rfl) e⟩
 | frz ob u ih=>obtain⟨e,q⟩:=x;exact⟨k _ _ (.inl rfl) e,ih q⟩
 | tbl ps=>
  have e:h.get? a=some {cls:=.none,data:=.fields ps}:=x;show h'.get? a=some {cls:=.none,data:=.fields ps};exact k a _ (.inl rfl) e
 | met f y=>
  have e:h.get? a=some (PySem.W.methodObj (.ref f) (.ref y)):=x;show h'.get? a=some (PySem.W.methodObj (.ref f) (.ref y));exact k a _ (.inl rfl) e
 | ext φ=>obtain⟨p,⟨o,e⟩,st⟩:=x;exact⟨st _ _ p λo q=>k _ _ (.inl rfl) q,⟨o,k _ _ (.inl rfl) e⟩,st⟩
theorem cI.lt(x:cI P w H h)(e:H a=some o):a<h.objs.size:=(x a o e).lt
theorem cI.fresh(x:cI P w H h)(e:h.objs.size<=a):H a=none:=by
 cases q:H a with
 | none=>rfl
 | some u=>exact absurd (Bq (x.lt q) e) (Dz _)
theorem cI.kept(x:cI P w H h)(k:∀b u,h.get? b=some u->h'.get? b=some u):cI P w H h':=λa o e=>
 (x a o e).stay (λb u _ q=>k b u q) (λ_ q=>q) λ_ _ q=>q
theorem cI.laid(x:cI P w H h)(k:∀b u,h.get? b=some u->h'.get? b=some u)(hp:h.objs.size<=a)(new:b8 P w (aQ H a o) h' a o):cI P w (aQ H a o) h':=λb u e=>by
 have hn:=x.fresh hp
 by_cases hb:b=a
 .subst hb;rw[cU]at e;cases e;exact new
 .rw[bI hb]at e;exact(x b u e).stay (λc v _ q=>k c v q) (λc q=>by rw[bI (e7 q hn)];exact q) λc xs q=>by rw[bI (e7 q hn)];exact q
end
def Rd(H:Hp)(a:Addr)(u:HO):Prop:=H a=some u\/∃o,H a=some (.frz o u)
theorem Rd.ok{P:Ca}{w:Ct}{H:Hp}{h:Heap}{a:Addr}{u:HO}(r:Rd H a u)(x:cI P w H h):b8 P w H h a u:=by
 rcases r with r|⟨o,r⟩
 .exact x a u r
 .obtain⟨_,q⟩:=x a _ r;exact q
def pJ:Option HO->Prop
 | some (.lst _)=>True
 | some (.dK _)=>True
 | some (.dT _)=>True
 | some (.set _ _)=>True
 | some (.ins _ _ _)=>True
 | some (.ext _)=>True
 | _=>False
section
variable {P:Ca}{w:Ct}{H:Hp}{h h':Heap}{x e:Addr}{o':HO}
theorem cI.write(ok:cI P w H h)(mu:pJ (H x))(he:e=x\/H e=some (.own x))(k:∀b u,b≠e->h.get? b=some u->h'.get? b=some u)(heo:∃u,h'.get? e=some u)(new:b8 P w (aQ H x o') h' x o'):cI P w (aQ H x o') h':=λb u q=>by
 have nown:∀c y,H c=some (.own y)->c≠x:=λc y r z=>by subst z;rw[r]at mu;exact mu
 have ntup:∀c xs,H c=some (.tup xs)->c≠x:=λc xs r z=>by subst z;rw[r]at mu;exact mu
 by_cases hb:b=x
 .subst hb;rw[cU]at q;cases q;exact new
 .rw[bI hb]at q
  by_cases hbe:b=e
  .have q':H b=some (.own x):=by
    rcases he with z|z
    .exact absurd (hbe.trans z) hb
    .rw[hbe];exact z
   rw[q]at q';cases q';obtain⟨v,hv⟩:=heo;exact⟨v,by rw[hbe];exact hv⟩
  .refine(ok b u q).stay (λc v hc r=>k c v ?_ r) (λc r=>by rw[bI (nown c b r)];exact r) λc xs r=>by rw[bI (ntup c xs r)];exact r
   rcases hc with rfl|hc
   .exact hbe
   .rintro rfl;rcases he with z|z
    .exact nown c b hc z
    .rw[hc]at z;cases z;exact hb rfl
end
structure Un(fs ex:List Addr)(H H':Hp)(h h':Heap):Prop where
 keep:∀b o,h.get? b=some o->H b=none->b∉fs->b∉ex->h'.get? b=some o
 slot:∀b o,h.get? b=some o->H b=none->b∈fs->b∉ex->∃sl,h'.get? b=some {o with slots:=sl}
 free:∀b o,h.get? b=some o->H b=none->b∉ex->H' b=none
 there:∀b o,h.get? b=some o->b∉ex->∃o',h'.get? b=some o'
 tups:∀b xs,H b=some (.tup xs)->H' b=some (.tup xs)
 frzs:∀b o u,H b=some (.frz o u)->H' b=some (.frz o u)
 tbls:∀b ps,H b=some (.tbl ps)->∃more,H' b=some (.tbl (ps++more))
section
variable {fs fs' ex ex':List Addr}{H H1 H2:Hp}{h h1 h2 h':Heap}{a x e:Addr}{o:HO}
theorem Un.any(u:Un fs ex H H1 h h1){b:Addr}{ob:Obj}(q:h.get? b=some ob)(n:H b=none)(hx:b∉ex):∃sl,h1.get? b=some {ob with slots:=sl}:=by
 by_cases hb:b∈fs
 .exact u.slot b ob q n hb hx
 .exact⟨ob.slots,u.keep b ob q n hb hx⟩
theorem Un.kept(k:∀b u,h.get? b=some u->h'.get? b=some u):Un fs ex H H h h':=
 ⟨λb ob q _ _ _=>k b ob q,λb ob q _ _ _=>⟨ob.slots,k b ob q⟩,λ_ _ _ n _=>n,λb ob q _=>⟨ob,k b ob q⟩,λ_ _ q=>q,λ_ _ _ q=>q,λ_ ps q=>⟨#[],by rw[q];simp⟩⟩
theorem Un.refl:Un fs ex H H h h:=Un.kept λ_ _ q=>q
theorem Un.laid(k:∀b u,h.get? b=some u->h'.get? b=some u)(hp:h.objs.size<=a)(hn:H a=none):Un fs ex H (aQ H a o) h h' where
 keep:=λb u q _ _ _=>k b u q
 slot:=λb u q _ _ _=>⟨u.slots,k b u q⟩
 free:=λb u q n _=>by rw[bI (Bs (Bq (Bi q) hp))];exact n
 there:=λb u q _=>⟨u,k b u q⟩
 tups:=λb xs q=>by rw[bI (e7 q hn)];exact q
 frzs:=λb u xs q=>by rw[bI (e7 q hn)];exact q
 tbls:=λb ps q=>⟨#[],by rw[bI (e7 q hn),q];simp⟩
theorem Un.write(mu:pJ (H x))(he:e=x\/H e=some (.own x))(k:∀b u,b≠e->h.get? b=some u->h'.get? b=some u)(heo:∃u,h'.get? e=some u):Un fs ex H (aQ H x o) h h':=by
 have hx:∀b,H b=none->b≠x:=λb n z=>by subst z;rw[n]at mu;exact mu
 have hb:∀b,H b=none->b≠e:=λb n z=>by
  subst z;rcases he with r|r
  .exact hx b n r
  .rw[n]at r;cases r
 have hm:∀b u,H b=some u->¬pJ (some u)->b≠x:=λb u q nm z=>by subst z;rw[q]at mu;exact nm mu
 refine⟨λb u q n _ _=>k b u (hb b n) q,λb u q n _ _=>⟨u.slots,k b u (hb b n) q⟩,λb u q n _=>by rw[bI (hx b n)];exact n,λb u q _=>?_,
  λb xs q=>by rw[bI (hm b _ q λz=>z)];exact q,λb u xs q=>by rw[bI (hm b _ q λz=>z)];exact q,λb ps q=>⟨#[],by rw[bI (hm b _ q λz=>z),q];simp⟩⟩
 by_cases hbe:b=e
 .subst hbe;exact heo
 .exact⟨u,k b u hbe q⟩
end
def rO(h:Heap)(H:Hp):List Addr:=(Bp h.objs.size).filter λa=>(H a).isSome
def kS(h:Heap)(H:Hp):Heap:=PySem.W.hideAll h (rO h H)
theorem OC(h:Heap)(H:Hp):(kS h H).objs.size=h.objs.size:=PySem.W.hideAll_size _ _
theorem OD{h:Heap}{H:Hp}{b:Addr}{o:Obj}(e:h.get? b=some o)(n:H b=none):(kS h H).get? b=some o:=
 PySem.W.hideAll_get _ e λhm=>by
  have q:(H b).isSome=true:=(Dh.mp hm).2;rw[n]at q;simp at q
theorem OE{h:Heap}{H:Hp}{b:Addr}{o:Obj}(e:(kS h H).get? b=some o):h.get? b=some o/\H b=none:=by
 have e':h.get? b=some o:=PySem.W.of_hideAll (rO h H) e;refine⟨e',?_⟩;cases q:H b with
 | none=>rfl
 | some x=>
  have hm:b∈rO h H:=Dh.mpr ⟨Cv.mpr (Bi e'),by simp[q]⟩;have z:(kS h H).get? b=none:=PySem.W.hideAll_none (rO h H) hm;rw[z]at e;cases e
structure Mod(K:Ab)(mg:Str->Option Ae)(base:Heap):Prop where
 kin:K.In base
 glob:base.Ns Eh mg
 blt:∃mb,base.Ns builtinsNs mb/\∀x:Str,x≠"__name__"->mb x=Dc x
 nolimit:base.NoLimit
structure Cx where
 prog:Ca
 w:Ct
 K:Ab
 mg:Str->Option Ae
 base:Heap
 A:Dg
 N:List Str
 s₀:Aj
 H₀:Hp
 env:Env
 outer:List Env
 stack:List Env
 ex:List Addr
 fn:Str->Bool
 calm:Bool
 pn:List (Addr×Obj)
 xe:Ae->Aj->Prop
def iF(l:List Env):List Addr:=l.filterMap (·.frame)
abbrev Cx.fs(X:Cx):List Addr:=iF X.outer
def vJ(sc:Jm)(x:Str):Prop:=sc.names.lookup x=some .local\/sc.names.lookup x=some .cell\/sc.names.lookup x=some .free
def Loc(sc:Jm)(x:Str):Prop:=sc.names.lookup x=some .local\/sc.names.lookup x=some .cell
def Look(env:Env)(h:Heap)(m:Str->Option Ae)(x:Str)(u:Ae):Prop:=
 (env.kindOf x=some .local/\m x=some u)\/((env.kindOf x=some .cell\/env.kindOf x=some .free)/\∃c,env.cells.lookup x=some c/\h.IsCell c (some u))
structure Cx.Ok(X:Cx):Prop where
 mod:Mod X.K X.mg X.base
 kind:X.env.scope.kind=.function
 glob:X.env.globals=Eh
 blt:X.env.builtins=builtinsNs
 above:X.s₀.heap.objs.size<=X.env.locals
 inj:∀x y c,X.env.cells.lookup x=some c->X.env.cells.lookup y=some c->x=y
 has:∀x,(X.env.kindOf x=some .cell\/X.env.kindOf x=some .free)->∃c,X.env.cells.lookup x=some c
 cab:∀x c,X.fn x=true->X.env.cells.lookup x=some c->X.s₀.heap.objs.size<=c
 hd:X.calm=true->X.A.handled=none
 frames:X.A.frames=some X.stack
 stk:X.stack=X.outer\/(X.stack=X.env::X.outer/\X.env.frame=some X.env.locals)
 exf:∀b∈X.ex,b≠X.env.locals/\∀x c,X.env.cells.lookup x=some c->c≠b
 bs:∀b o,X.base.get? b=some o->X.s₀.heap.get? b=some o/\X.H₀ b=none
 bsz:X.base.objs.size<=X.s₀.heap.objs.size
 noex:∀b o,X.base.get? b=some o->b∉X.ex
 exfs:∀b∈X.ex,b∉X.fs
 funs:X.s₀.heap.FunFrames X.base X.outer
 frf:∀b∈X.fs,X.H₀ b=none
structure Inv(X:Cx)(pins:List (Addr×Obj))(Z:List (Option V))(H:Hp)(s:Aj):Prop where
 ok:X.Ok
 os:s.os=X.s₀.os
 bare:Na s.gens
 base:Un X.fs X.ex X.H₀ H X.s₀.heap s.heap
 loc:∃m,s.heap.Ns X.env.locals m/\∀(i:Nat) (x:Str) (v:V),X.N[i]? = some x->Z[i]? = some (some v)->vJ X.env.scope x->∃u,RelV v u/\Look X.env s.heap m x u
 cell:∀x c,X.env.cells.lookup x=some c->∃v,s.heap.IsCell c v
 free:H X.env.locals=none
 freeC:∀x c,X.env.cells.lookup x=some c->H c=none
 pin:∀p∈X.pn++pins,s.heap.get? p.1=some p.2/\H p.1=none/\p.1≠X.env.locals/\p.1∉X.fs/\∀v,p.2.data≠.cell v
 hok:cI X.prog X.w H s.heap
 len:Z.length=X.N.length
section
variable {X:Cx}{pins:List (Addr×Obj)}{Z:List (Option V)}{H H':Hp}{s:Aj}{h':Heap}
theorem Cx.Ok.nofr(ok:X.Ok){b:Addr}{o:Obj}(e:X.base.get? b=some o):b∉X.fs:=λhb=>by
 have:=(ok.funs.mem hb).1;rw[e]at this;cases this
theorem Inv.bs(I:Inv X pins Z H s):∀b o,X.base.get? b=some o->s.heap.get? b=some o/\H b=none:=λb o e=>
 ⟨I.base.keep b o (I.ok.bs b o e).1 (I.ok.bs b o e).2 (I.ok.nofr e) (I.ok.noex b o e),I.base.free b o (I.ok.bs b o e).1 (I.ok.bs b o e).2 (I.ok.noex b o e)⟩
theorem Inv.bk(I:Inv X pins Z H s):∀b o,X.base.get? b=some o->s.heap.get? b=some o:=λb o e=>(I.bs b o e).1
theorem Inv.mod(I:Inv X pins Z H s):Mod X.K X.mg X.base:=I.ok.mod
theorem Inv.kIn(I:Inv X pins Z H s):X.K.In s.heap:=I.ok.mod.kin.keeps I.bk
theorem Inv.lt(I:Inv X pins Z H s):X.env.locals<s.heap.objs.size:=let ⟨_,hn,_⟩:=I.loc;hn.lt
theorem Inv.sz(I:Inv X pins Z H s):X.s₀.heap.objs.size<=s.heap.objs.size:=Ah I.ok.above (Gz I.lt)
theorem Inv.nofs(I:Inv X pins Z H s){a:Addr}(h:s.heap.objs.size<=a):a∉X.fs:=λhb=>by
 obtain⟨_,o,ho,_⟩:=I.ok.funs.mem hb;exact absurd (Bq (Bi ho) (Ah I.sz h)) (Dz _)
theorem Inv.cne(I:Inv X pins Z H s):∀x c,X.env.cells.lookup x=some c->c≠X.env.locals:=λx c e z=>by
 obtain⟨v,o,ho,hd⟩:=I.cell x c e;obtain⟨m,⟨o',es,ep,ho',hd',_⟩,_⟩:=I.loc;rw[z,ho']at ho;cases ho;rw[hd']at hd;cases hd
theorem Inv.funs(I:Inv X pins Z H s):s.heap.FunFrames X.base X.outer:=by
 have all:∀(l:List Env),(∀b∈iF l,b∈X.fs)->X.s₀.heap.FunFrames X.base l->s.heap.FunFrames X.base l:=by
  intro l
  induction l with
  | nil=>intro _ _;trivial
  | cons env r ih=>
   intro hs hl;obtain⟨hk,⟨L,o,hf,hn,ho,hd⟩,hr⟩:=hl;have hL:L∈X.fs:=hs L (by unfold iF;rw[Cp,hf];exact Ai);obtain⟨sl,e⟩:=I.base.slot L o ho (I.ok.frf L hL) hL λz=>I.ok.exfs L z hL;exact⟨hk,⟨L,_,hf,hn,e,hd⟩,ih (λb hb=>hs b (by unfold iF;rw[Cp,hf];exact Af _ hb)) hr⟩
 exact all X.outer (λ_ hb=>hb) I.ok.funs
theorem Inv.stack(I:Inv X pins Z H s):s.heap.FunFrames X.base X.stack:=by
 rcases I.ok.stk with e|⟨e,hf⟩
 .rw[e];exact I.funs
 .rw[e];obtain⟨m,hn,_⟩:=I.loc;refine .cons (by rw[I.ok.kind];decide) hf hn ?_ I.funs;exact Heap.get?_none_of_le (Ah I.ok.bsz I.ok.above)
theorem Inv.stkSub(I:Inv X pins Z H s):∀b∈iF X.stack,b∈X.env.locals::X.fs:=λb hb=>by
 rcases I.ok.stk with e|⟨e,hf⟩
 .rw[e]at hb;exact Af _ hb
 .rw[e]at hb;unfold iF at hb;rw[Cp,hf]at hb;exact hb
theorem Inv.stkFree(I:Inv X pins Z H s):∀b∈iF X.stack,H b=none:=λb hb=>by
 rcases Bj.mp (I.stkSub b hb) with e|hb
 .rw[e];exact I.free
 .obtain⟨_,o,ho,_⟩:=I.ok.funs.mem hb;exact I.base.free b o ho (I.ok.frf b hb) λz=>I.ok.exfs b z hb
theorem Inv.step{g':Array GenState}{t':Nat}{d':Drawn}{ch:List Addr}(I:Inv X pins Z H s)(hch:∀b∈ch,(b∈X.ex\/X.s₀.heap.objs.size<=b)/\b≠X.env.locals/\(∀x c,X.env.cells.lookup x=some c->c≠b)/\∀p∈X.pn++pins,p.1≠b)(keep:∀b o,b≠X.env.locals->b∉X.fs->b∉ch->s.heap.get? b=some o->H b=none->h'.get? b=some o)(slot:∀b o,b≠X.env.locals->b∈X.fs->b∉ch->s.heap.get? b=some o->H b=none->∃sl,h'.get? b=some {o with slots:=sl})(free:∀b o,b∉ch->s.heap.get? b=some o->H b=none->H' b=none)(there:∀b o,b∉ch->s.heap.get? b=some o->∃o',h'.get? b=some o')(tups:∀b xs,H b=some (.tup xs)->H' b=some (.tup xs))(frzs:∀b o u,H b=some (.frz o u)->H' b=some (.frz o u))(tbls:∀b ps,H b=some (.tbl ps)->∃more,H' b=some (.tbl (ps++more)))(ns:∀m,s.heap.Ns X.env.locals m->h'.Ns X.env.locals m)(hok:cI X.prog X.w H' h')(hg:Na g'):
  Inv X pins Z H' {s with heap:=h',gens:=g',drawn:=d',toks:=t'}:=by
 have neL:∀b o,X.s₀.heap.get? b=some o->b≠X.env.locals:=λb o e=>Bs (Bq (Bi e) I.ok.above);have neC:∀b o,X.s₀.heap.get? b=some o->b∉X.ex->b∉ch:=λb o e hx hb=>by
  rcases(hch b hb).1 with z|z
  .exact hx z
  .exact absurd (Bq (Bi e) z) (Dz _)
 have cellK:∀x c,X.env.cells.lookup x=some c->∀v,s.heap.IsCell c v->h'.IsCell c v:=λx c e v ⟨o,ho,hd⟩=>by
  have nch:c∉ch:=λz=>(hch c z).2.2.1 x c e rfl
  by_cases hc:c∈X.fs
  .obtain⟨sl,q⟩:=slot c o (I.cne x c e) hc nch ho (I.freeC x c e);exact⟨_,q,hd⟩
  .exact⟨o,keep c o (I.cne x c e) hc nch ho (I.freeC x c e),hd⟩
 refine⟨I.ok,I.os,hg,⟨λb o e n hb hx=>?_,λb o e n hb hx=>?_,λb o e n hx=>?_,λb o e hx=>?_,λb xs e=>tups b xs (I.base.tups b xs e),λb o xs e=>frzs b o xs (I.base.frzs b o xs e),λb ps e=>?_⟩,?_,λx c e=>?_,?_,λx c e=>?_,λp hp=>?_,hok,I.len⟩
 .exact keep b o (neL b o e) hb (neC b o e hx) (I.base.keep b o e n hb hx) (I.base.free b o e n hx)
 .obtain⟨sl,e1⟩:=I.base.slot b o e n hb hx;obtain⟨sl',e2⟩:=slot b _ (neL b o e) hb (neC b o e hx) e1 (I.base.free b o e n hx);exact⟨sl',e2⟩
 .obtain⟨o',e1⟩:=I.base.there b o e hx;exact free b o' (neC b o e hx) e1 (I.base.free b o e n hx)
 .obtain⟨o',e1⟩:=I.base.there b o e hx;exact there b o' (neC b o e hx) e1
 .obtain⟨m1,e1⟩:=I.base.tbls b ps e;obtain⟨m2,e2⟩:=tbls b _ e1;exact⟨m1++m2,by rw[e2,Array.append_assoc]⟩
 .obtain⟨m,hn,hl⟩:=I.loc;refine⟨m,ns m hn,λi x v e1 e2 e3=>?_⟩;obtain⟨u,r,l⟩:=hl i x v e1 e2 e3;refine⟨u,r,?_⟩;rcases l with l|⟨k,c,e,z⟩
  .exact .inl l
  .exact .inr ⟨k,c,e,cellK x c e _ z⟩
 .obtain⟨v,z⟩:=I.cell x c e;exact⟨v,cellK x c e v z⟩
 .obtain⟨m,⟨o,_,_,ho,_⟩,_⟩:=I.loc;exact free _ o (λz=>(hch _ z).2.1 rfl) ho I.free
 .obtain⟨v,o,ho,hd⟩:=I.cell x c e;exact free c o (λz=>(hch c z).2.2.1 x c e rfl) ho (I.freeC x c e)
 .obtain⟨e,n,ne,nf,d⟩:=I.pin p hp;have nch:p.1∉ch:=λz=>(hch p.1 z).2.2.2 p hp rfl;exact⟨keep p.1 p.2 ne nf nch e n,free p.1 p.2 nch e n,ne,nf,d⟩
theorem Inv.un{t':Nat}(I:Inv X pins Z H s)(u:Un X.fs [] H H' s.heap h')(hok:cI X.prog X.w H' h'):Inv X pins Z H' {s with heap:=h',toks:=t'}:=by
 obtain⟨m,⟨o,es,ep,ho,r⟩,_⟩:=id I.loc;obtain⟨sl,hL⟩:=u.any ho I.free (by simp);exact I.step (g':=s.gens) (d':=s.drawn) (ch:=[]) (λ_ z=>nomatch z) (λb o _ hb _ e n=>u.keep b o e n hb (by simp)) (λb o _ hb _ e n=>u.slot b o e n hb (by simp)) (λb o _ e n=>u.free b o e n (by simp)) (λb o _ e=>u.there b o e (by simp)) u.tups u.frzs u.tbls (λm' hm=>by
  obtain⟨o',es',ep',ho',r'⟩:=hm;rw[ho]at ho';cases ho';exact⟨_,es',ep',hL,r'⟩) hok I.bare
theorem Inv.call{g':Array GenState}{t':Nat}{d':Drawn}{ch:List Addr}(I:Inv X pins Z H s)(u:Un (iF X.stack) ch H H' s.heap h')(hok:cI X.prog X.w H' h')(hg:Na g')(hch:∀b∈ch,(b∈X.ex\/X.s₀.heap.objs.size<=b)/\b≠X.env.locals/\(∀x c,X.env.cells.lookup x=some c->c≠b)/\∀p∈X.pn++pins,p.1≠b):
  Inv X pins Z H' {s with heap:=h',gens:=g',drawn:=d',toks:=t'}:=by
 obtain⟨m,⟨o,es,ep,ho,r⟩,_⟩:=id I.loc;obtain⟨sl,hL⟩:=u.any ho I.free λz=>(hch _ z).2.1 rfl;exact I.step (ch:=ch) hch (λb o hL hb hc e n=>u.keep b o e n (λz=>(Bj.mp (I.stkSub b z)).elim hL hb) hc) (λb o _ _ hc e n=>u.any e n hc) (λb o hc e n=>u.free b o e n hc) (λb o hc e=>u.there b o e hc) u.tups u.frzs u.tbls (λm' hm=>by
  obtain⟨o',es',ep',ho',r'⟩:=hm;rw[ho]at ho';cases ho';exact⟨_,es',ep',hL,r'⟩) hok hg
theorem Inv.turned{t':Nat}{it:Addr}(I:Inv X pins Z H s)(k:∀b o,b≠it->s.heap.get? b=some o->h'.get? b=some o)(hn:H it=none)(hL:it≠X.env.locals)(h1:it∈X.ex\/X.s₀.heap.objs.size<=it)(h2:∀x c,X.env.cells.lookup x=some c->c≠it)(h3:∀p∈X.pn++pins,p.1≠it):Inv X pins Z H {s with heap:=h',toks:=t'}:=by
 have nit:∀b u,H b=some u->b≠it:=λb u e z=>by rw[z,hn]at e;cases e
 refine I.step (g':=s.gens) (d':=s.drawn) (ch:=[it]) (λb hb=>?_) (λb o _ _ hc e _=>k b o (λz=>hc (by simp[z])) e) (λb o _ _ hc e _=>⟨o.slots,k b o (λz=>hc (by simp[z])) e⟩) (λ_ _ _ _ n=>n)
  (λb o hc e=>⟨o,k b o (λz=>hc (by simp[z])) e⟩) (λ_ _ e=>e) (λ_ _ _ e=>e) (λb ps e=>⟨#[],by rw[e];simp⟩) (λm hm=>?_) (λb u e=>?_) I.bare
 .have e:b=it:=by simpa using hb
  subst e;exact⟨h1,hL,h2,h3⟩
 .obtain⟨o,es,ep,ho,r⟩:=hm;exact⟨o,es,ep,k _ o (Co hL) ho,r⟩
 .refine(I.hok b u e).stay (λc v hc q=>k c v ?_ q) (λ_ q=>q) λ_ _ q=>q;rcases hc with z|z
  .rw[z];exact nit b u e
  .exact nit c _ z
theorem Inv.tok(I:Inv X pins Z H s)(t:Nat):Inv X pins Z H {s with toks:=t}:=I.un (h':=s.heap) (t':=t) Un.refl I.hok
theorem Inv.kept{t':Nat}(I:Inv X pins Z H s)(k:∀b u,s.heap.get? b=some u->h'.get? b=some u):Inv X pins Z H {s with heap:=h',toks:=t'}:=I.un (Un.kept k) (I.hok.kept k)
theorem Inv.laid{a:Addr}{o:HO}{t':Nat}(I:Inv X pins Z H s)(k:∀b u,s.heap.get? b=some u->h'.get? b=some u)(hp:s.heap.objs.size<=a)(new:b8 X.prog X.w (aQ H a o) h' a o):
  Inv X pins Z (aQ H a o) {s with heap:=h',toks:=t'}:=I.un (Un.laid k hp (I.hok.fresh hp)) (I.hok.laid k hp new)
theorem Inv.write{x e:Addr}{o:HO}{t':Nat}(I:Inv X pins Z H s)(mu:pJ (H x))(he:e=x\/H e=some (.own x))(k:∀b u,b≠e->s.heap.get? b=some u->h'.get? b=some u)(heo:∃u,h'.get? e=some u)(new:b8 X.prog X.w (aQ H x o) h' x o):Inv X pins Z (aQ H x o) {s with heap:=h',toks:=t'}:=I.un (Un.write mu he k heo) (I.hok.write mu he k heo new)
theorem Inv.pins_of{pins':List (Addr×Obj)}(I:Inv X pins Z H s)(h:∀p∈pins',s.heap.get? p.1=some p.2/\H p.1=none/\p.1≠X.env.locals/\p.1∉X.fs/\∀v,p.2.data≠.cell v):Inv X pins' Z H s:=
 ⟨I.ok,I.os,I.bare,I.base,I.loc,I.cell,I.free,I.freeC,λp hp=>(Aw.mp hp).elim (λz=>I.pin p (Bh _ z)) (h p),I.hok,I.len⟩
theorem DG{N:List Str}(hN:N.Nodup){i j:Nat}{x:Str}(a:N[i]? = some x)(b:N[j]? = some x):i=j:=by
 obtain⟨h1,e1⟩:=Ak.mp a;obtain⟨h2,e2⟩:=Ak.mp b;exact(List.getElem_inj hN).mp (e1.trans e2.symm)
theorem DH{M:Model}{A:Dg}{E:Ae->Aj->Prop}{i:Nat}{x:Str}{v:V}{u:Ae}{Q:Unit->Aj->Prop}(I:Inv X pins Z H s)(hN:X.N.Nodup)(hi:X.N[i]? = some x)(hx:Loc X.env.scope x)(r:RelV v u)(h:∀s',Inv X pins (Z.set i (some v)) H s'->(∃a,Ez a s.heap s'.heap/\(a=X.env.locals\/X.env.cells.lookup x=some a))->Q () s')(hf:X.fn x=true\/X.env.scope.names.lookup x=some .local:=by first|exact .inl rfl|exact .inr rfl|assumption):Bo M A (storeName X.env x u) Q E s:=by
 obtain⟨m,hn,hl⟩:=id I.loc;have hcls:(X.env.scope.kind==.class||(X.env.scope.kind==.module&&X.env.locals !=X.env.globals))=false:=by rw[I.ok.kind];rfl
 have hiσ:i<Z.length:=by rw[I.len];exact(Ak.mp hi).1
 have cne:=I.cne;have tracked:∀{a:Addr} {h':Heap},(∃o,s.heap.get? a=some o/\H a=none)->Ez a s.heap h'->cI X.prog X.w H h':=λ{a h'} ha hs b ob e=>by
  obtain⟨_,_,hfree⟩:=ha;refine(I.hok b ob e).stay (λc w' hc q=>(hs.2 c ?_).trans q) (λ_ q=>q) λ_ _ q=>q;rintro rfl;rcases hc with rfl|hc
  .rw[hfree]at e;cases e
  .rw[hfree]at hc;cases hc
 rcases hx with hk|hk
 .refine wpAny_storeName_local hk hn (λh' hn' hs=>?_) hcls;obtain⟨oL,_,_,hoL,_⟩:=id hn;refine h _ ⟨I.ok,I.os,I.bare,⟨λb o e n hb hx=>?_,λb o e n hb hx=>?_,I.base.free,λb o e hx=>?_,I.base.tups,I.base.frzs,I.base.tbls⟩,⟨_,hn',λj y v' e1 e2 e3=>?_⟩,λy c e=>?_,I.free,I.freeC,λp hp=>?_,tracked ⟨oL,hoL,I.free⟩ hs,by simpa using I.len⟩ ⟨_,hs,.inl rfl⟩
  .exact(hs.2 b (Bs (Bq (Bi e) I.ok.above))).trans (I.base.keep b o e n hb hx)
  .obtain⟨sl,e1⟩:=I.base.slot b o e n hb hx;exact⟨sl,(hs.2 b (Bs (Bq (Bi e) I.ok.above))).trans e1⟩
  .obtain⟨o',e1⟩:=I.base.there b o e hx;exact⟨o',(hs.2 b (Bs (Bq (Bi e) I.ok.above))).trans e1⟩
  .by_cases hj:j=i
   .subst hj;rw[hi]at e1;cases e1;rw[List.getElem?_set_self hiσ]at e2;cases e2;exact⟨u,r,.inl ⟨hk,by simp⟩⟩
   .rw[List.getElem?_set_ne (Co hj)]at e2;obtain⟨u',r',q⟩:=hl j y v' e1 e2 e3;refine⟨u',r',?_⟩;rcases q with⟨k,e⟩|⟨k,c,e,z⟩
    .refine .inl ⟨k,?_⟩;have:y≠x:=λe=>hj (DG hN e1 (e▸hi));simp[this,e]
    .exact .inr ⟨k,c,e,z.sameBut hs (cne y c e)⟩
  .obtain⟨w',z⟩:=I.cell y c e;exact⟨w',z.sameBut hs (cne y c e)⟩
  .obtain⟨e,n,ne,nf,d⟩:=I.pin p hp;exact⟨(hs.2 p.1 ne).trans e,n,ne,nf,d⟩
 .have hfn:X.fn x=true:=by
   rcases hf with z|z
   .exact z
   .rw[z]at hk;cases hk
  obtain⟨c,hc⟩:=I.ok.has x (.inl hk);obtain⟨w',z⟩:=I.cell x c hc;refine wpAny_storeName_cell I.ok.kind hk hc z (λh' hc' hs=>?_);obtain⟨oc,hoc,hocd⟩:=id z;refine h {s with heap:=h'} ⟨I.ok,I.os,I.bare,⟨λb o e n hb hx=>?_,λb o e n hb hx=>?_,I.base.free,λb o e hx=>?_,I.base.tups,I.base.frzs,I.base.tbls⟩,⟨m,hn.sameBut hs (Co (cne x c hc)),λj y v' e1 e2 e3=>?_⟩,λy c' e=>?_,I.free,I.freeC,λp hp=>?_,tracked ⟨oc,hoc,I.freeC x c hc⟩ hs,by simpa using I.len⟩ ⟨c,hs,.inr hc⟩
  .exact(hs.2 b (Bs (Bq (Bi e) (I.ok.cab x c hfn hc)))).trans (I.base.keep b o e n hb hx)
  .obtain⟨sl,e1⟩:=I.base.slot b o e n hb hx;exact⟨sl,(hs.2 b (Bs (Bq (Bi e) (I.ok.cab x c hfn hc)))).trans e1⟩
  .obtain⟨o',e1⟩:=I.base.there b o e hx;exact⟨o',(hs.2 b (Bs (Bq (Bi e) (I.ok.cab x c hfn hc)))).trans e1⟩
  .by_cases hj:j=i
   .subst hj;rw[hi]at e1;cases e1;rw[List.getElem?_set_self hiσ]at e2;cases e2;exact⟨u,r,.inr ⟨.inl hk,c,hc,hc'⟩⟩
   .rw[List.getElem?_set_ne (Co hj)]at e2;obtain⟨u',r',q⟩:=hl j y v' e1 e2 e3;refine⟨u',r',?_⟩;rcases q with q|⟨k,c',e,z'⟩
    .exact .inl q
    .refine .inr ⟨k,c',e,z'.sameBut hs ?_⟩;rintro rfl;exact hj (DG hN e1 (I.ok.inj _ _ _ e hc▸hi))
  .by_cases hcc:c'=c
   .subst hcc;exact⟨_,hc'⟩
   .obtain⟨w2,z2⟩:=I.cell y c' e;exact⟨w2,z2.sameBut hs hcc⟩
  .obtain⟨e,n,ne,nf,d⟩:=I.pin p hp;refine⟨(hs.2 p.1 ?_).trans e,n,ne,nf,d⟩;intro q;rw[q,hoc]at e;have q':oc=p.2:=Cj e;exact d w' (by rw[<-q'];exact hocd)
theorem DJ{M:Model}{A:Dg}{E:Ae->Aj->Prop}{i:Nat}{x:Str}{v:V}{u:Ae}{Q:Unit->Aj->Prop}(I:Inv X pins Z H s)(hN:X.N.Nodup)(hi:X.N[i]? = some x)(hx:Loc X.env.scope x)(r:RelV v u)(h:∀s',Inv X pins (Z.set i (some v)) H s'->Q () s')(hf:X.fn x=true\/X.env.scope.names.lookup x=some .local:=by first|exact .inl rfl|exact .inr rfl|assumption):Bo M A (storeName X.env x u) Q E s:=
 DH I hN hi hx r (λs' I' _=>h s' I') hf
theorem Inv.call'{s':Aj}{ch:List Addr}(I:Inv X pins Z H s)(ho:s'.os=s.os)(u:Un (iF X.stack) ch H H' s.heap s'.heap)(hok:cI X.prog X.w H' s'.heap)(hg:Na s'.gens)(hch:∀b∈ch,(b∈X.ex\/X.s₀.heap.objs.size<=b)/\b≠X.env.locals/\(∀x c,X.env.cells.lookup x=some c->c≠b)/\∀p∈X.pn++pins,p.1≠b):Inv X pins Z H' s':=by
 obtain⟨h',g',d',t',o'⟩:=s';have e:o'=s.os:=ho;subst e;exact I.call (g':=g') (t':=t') (d':=d') u hok hg hch
end
abbrev XK:=Ae->Option Addr->Hp->Prop
abbrev St:=List (Option V)
abbrev VK:=V->Hp->Prop
abbrev TE:=St->Hp->VK->Prop
abbrev TT:=St->Hp->(Bool->Hp->Prop)->Prop
abbrev TA:=St->Hp->(List V->Hp->Prop)->Prop
structure kU where
 nx:St->Hp->Prop
 rt:VK
 bk:St->Hp->Prop:=λ_ _=>False
 ct:St->Hp->Prop:=λ_ _=>False
abbrev TS:=kU->St->Hp->Prop
def EP(X:Cx)(pins:List (Addr×Obj))(Z:St)(Q:VK)(u:Ae)(s':Aj):Prop:=∃v H',Inv X pins Z H' s'/\RelV v u/\Q v H'
def TP(X:Cx)(pins:List (Addr×Obj))(Z:St)(Q:Bool->Hp->Prop)(b:Bool)(s':Aj):Prop:=∃H',Inv X pins Z H' s'/\Q b H'
def AP(X:Cx)(pins:List (Addr×Obj))(Z:St)(Q:List V->Hp->Prop)(us:List Ae)(s':Aj):Prop:=∃vs H',Inv X pins Z H' s'/\aW vs us/\Q vs H'
def SP(X:Cx)(pins:List (Addr×Obj))(D:kU)(f:Flow)(s':Aj):Prop:=
 match f with
 | .next=>∃σ' H',Inv X pins σ' H' s'/\D.nx σ' H'
 | .brk=>∃σ' H',Inv X pins σ' H' s'/\D.bk σ' H'
 | .cont=>∃σ' H',Inv X pins σ' H' s'/\D.ct σ' H'
 | .ret u=>∃v σ' H',Inv X pins σ' H' s'/\RelV v u/\D.rt v H'
def PE(X:Cx)(e:Expr)(t:TE):Prop:=
 ∀(pins:List (Addr×Obj)) (s:Aj) (Z:St) (H:Hp) (Q:VK),Inv X pins Z H s->t Z H Q->Bo (Bw X.prog X.w) X.A (eval e X.env) (EP X pins Z Q) X.xe s
def PT(X:Cx)(e:Expr)(t:TT):Prop:=
 ∀(pins:List (Addr×Obj)) (s:Aj) (Z:St) (H:Hp) (Q:Bool->Hp->Prop),Inv X pins Z H s->t Z H Q->Bo (Bw X.prog X.w) X.A (isTrue e X.env (eval e X.env)) (TP X pins Z Q) X.xe s
def PW(X:Cx)(e:Expr)(t:TT):Prop:=
 ∀(whole:Sem Ae) (pins:List (Addr×Obj)) (s:Aj) (Z:St) (H:Hp) (Q:Bool->Hp->Prop),Inv X pins Z H s->t Z H Q->Bo (Bw X.prog X.w) X.A (isTrue e X.env whole) (TP X pins Z Q) X.xe s
theorem PW.pt{X:Cx}{e:Expr}{t:TT}(h:PW X e t):PT X e t:=h _
def PA(X:Cx)(es:List Expr)(t:TA):Prop:=
 ∀(pos:Pos) (pins:List (Addr×Obj)) (s:Aj) (Z:St) (H:Hp) (Q:List V->Hp->Prop),Inv X pins Z H s->t Z H Q->Bo (Bw X.prog X.w) X.A (spliced (Hk pos (Br es X.env))) (AP X pins Z Q) X.xe s
def PS(X:Cx)(st:Stmt)(t:TS):Prop:=
 ∀(pins:List (Addr×Obj)) (s:Aj) (Z:St) (H:Hp) (D:kU),Inv X pins Z H s->t D Z H->Bo (Bw X.prog X.w) X.A (exec st X.env) (SP X pins D) X.xe s
def gB(X:Cx)(st:List Stmt)(t:TS):Prop:=
 ∀(pins:List (Addr×Obj)) (s:Aj) (Z:St) (H:Hp) (D:kU),Inv X pins Z H s->t D Z H->Bo (Bw X.prog X.w) X.A (execs st X.env) (SP X pins D) X.xe s
theorem a8{O:Type}{t:Sem O}{Q Q':O->Aj->Prop}{M:Model}{A:Dg}{E:Ae->Aj->Prop}{s:Aj}(h:Bo M A t Q E s)(hQ:∀a s,Q a s->Q' a s):Bo M A t Q' E s:=Ht h hQ λ_ _ x=>x
section
variable {X:Cx}
def OF(i:Nat):TE:=λZ H Q=>∃v,Z[i]? = some (some v)/\Q v H
def tC(v:V):TE:=λ_ H Q=>Q v H
theorem OG{i:Nat}{x:Str}{pos:Pos}(hN:X.N[i]? = some x)(hv:vJ X.env.scope x)(hd:(x==("__debug__" : Str))=false:=by decide)(hcd:(x==("__classdict__" : Str))=false:=by decide):PE X (.Name x pos) (OF i):=by
 intro pins s Z H Q I h;obtain⟨v,e,h⟩:=h;obtain⟨m,hn,hl⟩:=I.loc;obtain⟨u,r,l⟩:=hl i x v hN e hv;have fin:EP X pins Z Q u s:=⟨v,H,I,r,h⟩;rcases l with⟨hk,hm⟩|⟨hk,c,hc,hcell⟩
 .exact wpAny_Name (wpAny_loadName_local I.ok.kind hk hn hm fin) hd
 .rcases hk with hk|hk
  .exact wpAny_Name (wpAny_loadName_cell I.ok.kind hk hc hcell fin) hd
  .exact wpAny_Name (wpAny_loadName_free I.ok.kind hk hc hcell fin hcd) hd
theorem OH{i j pos}:PE X (.Constant (.int i) j pos) (tC (.int i)):=λ_ _ _ H _ I h=>wpAny_Constant_int ⟨.int i,H,I.tok _,⟨_,rfl⟩,h⟩
theorem OI{b j pos}:PE X (.Constant (.bool b) j pos) (tC (.bl b)):=λ_ _ _ H _ I h=>Constant_bool ⟨.bl b,H,I,rfl,h⟩
theorem OJ{j pos}:PE X (.Constant .none j pos) (tC .non):=λ_ _ _ H _ I h=>Constant_none ⟨.non,H,I,rfl,h⟩
theorem OK{x j pos}:PE X (.Constant (.str x) j pos) (tC (.str x)):=λ_ _ _ H _ I h=>Calls.Constant_str ⟨.str x,H,I.tok _,⟨_,rfl⟩,h⟩
def Gl(X:Cx)(x:Str):Prop:=X.env.kindOf x=some .globalImplicit
theorem vK{E:Ae->Aj->Prop}{pins:List (Addr×Obj)}{s:Aj}{Z:St}{H:Hp}{x:Str}{u:Ae}{pos:Pos}{Q:Ae->Aj->Prop}(I:Inv X pins Z H s)(hg:Gl X x)(hm:X.mg x=some u)(h:Q u s)(hd:(x==("__debug__" : Str))=false:=by decide):Bo (Bw X.prog X.w) X.A (eval (.Name x pos) X.env) Q E s:=
 Calls.Name_function_global I.ok.kind hg (Calls.loadGlobal_global (by rw[I.ok.glob];exact I.mod.glob.keeps I.bk) hm h) hd
theorem kW{E:Ae->Aj->Prop}{pins:List (Addr×Obj)}{s:Aj}{Z:St}{H:Hp}{x:Str}{u:Ae}{pos:Pos}{Q:Ae->Aj->Prop}(I:Inv X pins Z H s)(hg:Gl X x)(hm:X.mg x=none)(hv:Dc x=some u)(h:Q u s)(hn:x≠"__name__":=by decide)(hd:(x==("__debug__" : Str))=false:=by decide):Bo (Bw X.prog X.w) X.A (eval (.Name x pos) X.env) Q E s:=by
 obtain⟨mb,h1,h2⟩:=I.mod.blt;exact Calls.Name_function_global I.ok.kind hg (Calls.loadGlobal_builtin (by rw[I.ok.glob];exact I.mod.glob.keeps I.bk) hm (by rw[I.ok.blt];exact h1.keeps I.bk) ((h2 x hn).trans hv) h) hd
theorem OL{x:Str}{v:V}{u:Ae}{pos:Pos}(hg:Gl X x)(hm:X.mg x=none)(hv:Dc x=some u)(r:RelV v u)(hn:x≠"__name__":=by decide)(hd:(x==("__debug__" : Str))=false:=by decide):PE X (.Name x pos) (tC v):=
 λ_ _ _ H _ I h=>kW I hg hm hv ⟨v,H,I,r,h⟩ hn hd
variable {a b:Expr}{ta tb:TE}{pos:Pos}
variable {tA tB':TT}{rest:List Expr}
def OM(t u:TT):TT:=λZ H Q=>t Z H λc H1=>if c=true then u Z H1 Q else Q false H1
def ON(t u:TT):TT:=λZ H Q=>t Z H λc H1=>if c=true then Q true H1 else u Z H1 Q
def OO(t:TT):TT:=λZ H Q=>t Z H λc H1=>Q (!c) H1
theorem OP(ha:PT X a tA):PW X (.BoolOp .And [a] pos) tA:=by
 intro wh pins s Z H Q I h;refine isTrue_and (a8 (ha pins s Z H Q I h) λc s1 e=>?_);cases c with
 | true=>exact isTrue_and_nil e
 | false=>exact e
theorem OQ(ha:PT X a tA):PW X (.BoolOp .Or [a] pos) tA:=by
 intro wh pins s Z H Q I h;refine isTrue_or (a8 (ha pins s Z H Q I h) λc s1 e=>?_);cases c with
 | false=>exact isTrue_or_nil e
 | true=>exact e
theorem OR(ha:PT X a tA)(hb:PW X (.BoolOp .And (b::rest) pos) tB'):PW X (.BoolOp .And (a::b::rest) pos) (OM tA tB'):=by
 intro wh pins s Z H Q I h;refine isTrue_and (a8 (ha pins s Z H _ I h) λc s1 ⟨H1,I1,q1⟩=>?_);cases c with
 | true=>exact hb wh pins s1 Z H1 Q I1 q1
 | false=>exact⟨H1,I1,q1⟩
theorem OS(ha:PT X a tA)(hb:PW X (.BoolOp .Or (b::rest) pos) tB'):PW X (.BoolOp .Or (a::b::rest) pos) (ON tA tB'):=by
 intro wh pins s Z H Q I h;refine isTrue_or (a8 (ha pins s Z H _ I h) λc s1 ⟨H1,I1,q1⟩=>?_);cases c with
 | true=>exact⟨H1,I1,q1⟩
 | false=>exact hb wh pins s1 Z H1 Q I1 q1
theorem OT(ha:PT X a tA):PT X (.UnaryOp .Not a pos) (OO tA):=by
 intro pins s Z H Q I h;exact isTrue_not (ha pins s Z H (λc H1=>Q (!c) H1) I h)
def OU(t:TT)(ta tb:TE):TE:=λZ H Q=>t Z H λc H1=>if c=true then ta Z H1 Q else tb Z H1 Q
theorem OV{c:Expr}(hc:PT X c tA)(ha:PE X a ta)(hb:PE X b tb):PE X (.IfExp c a b pos) (OU tA ta tb):=by
 intro pins s Z H Q I h;refine wpAny_IfExp (a8 (hc pins s Z H _ I h) λd s1 ⟨H1,I1,q1⟩=>?_);cases d with
 | true=>exact ha pins s1 Z H1 Q I1 q1
 | false=>exact hb pins s1 Z H1 Q I1 q1
end
def bH(K:Ab)(H:Hp)(a:Addr)(xs:List V):Prop:=
 Rd H a (.lst xs)\/
  ∃(o:Obj) (its:Array Ae) (n:Nat),K.lookup a=some o/\o.cls=.type "list"/\o.dict=none/\o.data=.seq its n/\its.size<=Ap/\aW xs its.toList
def bU(K:Ab)(H:Hp)(a:Addr)(xs:List V):Prop:=
 Rd H a (.tup xs)\/
  ∃(o:Obj) (its:Array Ae) (n:Nat),K.lookup a=some o/\o.cls=.type "tuple"/\o.data=.seq its n/\its.size<=Ap/\aW xs its.toList
def OW:Ae->Option V
 | .none=>some .non
 | .bool b=>some (.bl b)
 | .int i _=>some (.int i)
 | .str x _=>some (.str x)
 | .bytes b _=>some (.byt b)
 | .float b _=>some (.flt b)
 | .ref a=>some (.ref a)
 | .type n=>some (.ty n)
 | _=>none
theorem RelV.abs{x:V}{u:Ae}(r:RelV x u):OW u=some x:=by
 cases x with
 | non=>cases r;rfl
 | bl _=>cases r;rfl
 | int _=>obtain⟨t,rfl⟩:=r;rfl
 | str _=>obtain⟨t,rfl⟩:=r;rfl
 | byt _=>obtain⟨t,rfl⟩:=r;rfl
 | flt _=>obtain⟨t,rfl⟩:=r;rfl
 | ref _=>cases r;rfl
 | ty _=>cases r;rfl
theorem RelV.inj{x y:V}{u:Ae}(r:RelV x u)(q:RelV y u):x=y:=Cj (r.abs.symm.trans q.abs)
theorem aW.inj:∀{xs ys:List V} {us:List Ae},aW xs us->aW ys us->xs=ys
 | _,_,_,.nil,.nil=>rfl
 | _,_,_,.cons r t,.cons r' t'=>by rw[r.inj r',aW.inj t t']
section
variable {X:Cx}{pins:List (Addr×Obj)}{Z:St}{H:Hp}{s:Aj}{a:Addr}{xs ys:List V}
theorem bH.of{K:Ab}(h:H a=some (.lst xs)):bH K H a xs:=.inl (.inl h)
theorem bU.of{K:Ab}(h:H a=some (.tup xs)):bU K H a xs:=.inl (.inl h)
theorem Inv.list(I:Inv X pins Z H s)(h:bH X.K H a xs):∃its:List Ae,aW xs its/\PlainL s.heap a its.toArray/\xs.length<=Ap:=by
 rcases h with h|⟨o,its,n,hk,hc,hd,hs,hz,r⟩
 .obtain⟨z,its,n,r,e⟩:=h.ok I.hok;exact⟨its,r,⟨_,n,e,rfl,rfl,rfl⟩,z⟩
 .refine⟨its.toList,r,⟨o,n,I.kIn a o hk,hc,hd,by simpa using hs⟩,?_⟩;have e:=r.length;simp only[Fx]at e;lia
theorem Inv.tuple(I:Inv X pins Z H s)(h:bU X.K H a xs):∃its:List Ae,aW xs its/\IsTup s.heap a its.toArray/\xs.length<=Ap:=by
 rcases h with h|⟨o,its,n,hk,hc,hs,hz,r⟩
 .obtain⟨z,its,r,p⟩:=h.ok I.hok;exact⟨its,r,p,z⟩
 .refine⟨its.toList,r,⟨o,I.kIn a o hk,hc,n,by simpa using hs⟩,?_⟩;have e:=r.length;simp only[Fx]at e;lia
theorem Inv.list_inj(I:Inv X pins Z H s)(h:bH X.K H a xs)(h':bH X.K H a ys):xs=ys:=by
 obtain⟨its,r,⟨o,n,e,_,_,d⟩,_⟩:=I.list h;obtain⟨its',r',⟨o',n',e',_,_,d'⟩,_⟩:=I.list h';rw[e]at e';cases e';rw[d]at d';injection d' with d1 _;have:its=its':=by simpa using congrArg Array.toList d1
 subst this;exact r.inj r'
theorem Inv.tuple_inj(I:Inv X pins Z H s)(h:bU X.K H a xs)(h':bU X.K H a ys):xs=ys:=by
 obtain⟨its,r,⟨o,e,_,n,d⟩,_⟩:=I.tuple h;obtain⟨its',r',⟨o',e',_,n',d'⟩,_⟩:=I.tuple h';rw[e]at e';cases e';rw[d]at d';injection d' with d1 _;have:its=its':=by simpa using congrArg Array.toList d1
 subst this;exact r.inj r'
end
abbrev Cx.wish(X:Cx)(E:Ae->Aj->Prop):Cx:={X with xe:=E}
abbrev Cx.nox(X:Cx):Cx:=X.wish λ_ _=>False
theorem Cx.Ok.wish{X:Cx}(ok:X.Ok)(E:Ae->Aj->Prop):(X.wish E).Ok:=
 ⟨ok.mod,ok.kind,ok.glob,ok.blt,ok.above,ok.inj,ok.has,ok.cab,ok.hd,ok.frames,ok.stk,ok.exf,ok.bs,ok.bsz,ok.noex,ok.exfs,ok.funs,ok.frf⟩
theorem Cx.Ok.unwish{X:Cx}{E:Ae->Aj->Prop}(ok:(X.wish E).Ok):X.Ok:=
 ⟨ok.mod,ok.kind,ok.glob,ok.blt,ok.above,ok.inj,ok.has,ok.cab,ok.hd,ok.frames,ok.stk,ok.exf,ok.bs,ok.bsz,ok.noex,ok.exfs,ok.funs,ok.frf⟩
section
variable {X:Cx}{pins:List (Addr×Obj)}{Z:St}{H:Hp}{s:Aj}{E:Ae->Aj->Prop}
theorem Inv.wish(I:Inv X pins Z H s)(E:Ae->Aj->Prop):Inv (X.wish E) pins Z H s:=⟨I.ok.wish E,I.os,I.bare,I.base,I.loc,I.cell,I.free,I.freeC,I.pin,I.hok,I.len⟩
theorem Inv.unwish(I:Inv (X.wish E) pins Z H s):Inv X pins Z H s:=⟨I.ok.unwish,I.os,I.bare,I.base,I.loc,I.cell,I.free,I.freeC,I.pin,I.hok,I.len⟩
theorem SP.unwish{D:kU}{f:Flow}{s':Aj}(h:SP (X.wish E) pins D f s'):SP X pins D f s':=by
 cases f with
 | next=>obtain⟨σ',H',I,q⟩:=h;exact⟨σ',H',I.unwish,q⟩
 | brk=>obtain⟨σ',H',I,q⟩:=h;exact⟨σ',H',I.unwish,q⟩
 | cont=>obtain⟨σ',H',I,q⟩:=h;exact⟨σ',H',I.unwish,q⟩
 | ret u=>obtain⟨v,σ',H',I,r,q⟩:=h;exact⟨v,σ',H',I.unwish,r,q⟩
theorem gB.nox{st:List Stmt}{t:TS}(h:gB X.nox st t):gB X st t:=λpins s Z H D I hw=>
 Ht (h pins s Z H D (I.wish _) hw) (λ_ _ q=>q.unwish) λ_ _ z=>Ge z
end
section
variable {X:Cx}{st:Stmt}{rest:List Stmt}{t u:TS}{e:Expr}{te:TE}{pos:Pos}
def OX:TS:=λD Z H=>D.nx Z H
def OY(t u:TS):TS:=λD Z H=>t {D with nx:=u D} Z H
theorem OZ:gB X [] OX:=λ_ _ Z H _ I h=>Nb ⟨Z,H,I,h⟩
theorem O0(h1:PS X st t)(h2:gB X rest u):gB X (st::rest) (OY t u):=by
 intro pins s Z H D I h;refine wpAny_execs_cons (a8 (h1 pins s Z H {D with nx:=u D} I h) λf s1 q=>?_);cases f with
 | next=>
  obtain⟨σ',H',I',q⟩:=q;exact h2 pins s1 σ' H' D I' q
 | ret v=>exact q
 | brk=>exact q
 | cont=>exact q
theorem O1(h1:PS X st t):gB X [st] t:=by
 intro pins s Z H D I h;refine wpAny_execs_cons (a8 (h1 pins s Z H D I h) λf s1 q=>?_);cases f with
 | next=>exact Nb q
 | ret v=>exact q
 | brk=>exact q
 | cont=>exact q
theorem Inv.quiet{pins:List (Addr×Obj)}{Z:St}{H:Hp}{s:Aj}(I:Inv X pins Z H s):interactive X.env=false:=by simp[interactive,I.ok.kind]
def O2(te:TE):TS:=λD Z H=>te Z H λ_ H1=>D.nx Z H1
theorem O3(he:PE X e te)(hs:Jt e none pos.line X.env=pure false:=by rfl):PS X (.Expr e pos) (O2 te):=by
 intro pins s Z H D I h;exact wpAny_Expr_any (a8 (he pins s Z H _ I h) λv s1 ⟨x,H1,I1,r1,q1⟩=>⟨Z,H1,I1,q1⟩) I.quiet hs
def O4(te:TE):TS:=λD Z H=>te Z H D.rt
theorem O5(he:PE X e te):PS X (.Return (some e) pos) (O4 te):=by
 intro pins s Z H D I h;exact wpAny_Return_some (a8 (he pins s Z H _ I h) λv s1 ⟨x,H1,I1,r1,q1⟩=>⟨x,Z,H1,I1,r1,q1⟩)
def O6:TS:=λD _ H=>D.rt .non H
theorem O7:PS X (.Return none pos) O6:=λ_ _ Z H _ I h=>wpAny_Return_none ⟨.non,Z,H,I,rfl,h⟩
def O8(c:TT)(t u:TS):TS:=λD Z H=>c Z H λb H1=>if b=true then t D Z H1 else u D Z H1
theorem O9{c:Expr}{a b:List Stmt}{tc:TT}(hc:PT X c tc)(ha:gB X a t)(hb:gB X b u):PS X (.If c a b pos) (O8 tc t u):=by
 intro pins s Z H D I h;refine wpAny_If (a8 (hc pins s Z H _ I h) λd s1 ⟨H1,I1,q1⟩=>?_);cases d with
 | true=>exact ha pins s1 Z H1 D I1 q1
 | false=>exact hb pins s1 Z H1 D I1 q1
end
abbrev TG:=V->St->Hp->(St->Hp->Prop)->Prop
abbrev jK:=List V->St->Hp->(St->Hp->Prop)->Prop
def PG(X:Cx)(target:Expr)(t:TG):Prop:=
 ∀(pins:List (Addr×Obj)) (s:Aj) (Z:St) (H:Hp) (v:V) (u:Ae) (Q:St->Hp->Prop),Inv X pins Z H s->RelV v u->t v Z H Q->
  Bo (Bw X.prog X.w) X.A (Mo target X.env u) (λ_ s'=>∃σ' H',Inv X pins σ' H' s'/\Q σ' H') X.xe s
def i0(X:Cx)(ts:List Expr)(t:jK):Prop:=
 ∀(pins:List (Addr×Obj)) (s:Aj) (Z:St) (H:Hp) (vs:List V) (us:List Ae) (Q:St->Hp->Prop),Inv X pins Z H s->aW vs us->t vs Z H Q->
  Bo (Bw X.prog X.w) X.A (assignInOrder ((Gr ts X.env).map (·.2)) us) (λ_ s'=>∃σ' H',Inv X pins σ' H' s'/\Q σ' H') X.xe s
abbrev rP:=V->V->V->Hp->(Hp->Prop)->Prop
def rQ(X:Cx)(t:rP):Prop:=
 ∀(pins:List (Addr×Obj)) (s:Aj) (Z:St) (H:Hp) (o i v:V) (ov iv u:Ae) (Q:Hp->Prop),Inv X pins Z H s->RelV o ov->RelV i iv->RelV v u->t o i v H Q->
  Bo (Bw X.prog X.w) X.A (setItem ov iv u) (λ_ s'=>∃H',Inv X pins Z H' s'/\Q H') X.xe s
section
variable {X:Cx}{pos:Pos}
def vL(i:Nat):TG:=λv Z H Q=>Q (Z.set i (some v)) H
theorem PB{i:Nat}{x:Str}(hN:X.N.Nodup)(hi:X.N[i]? = some x)(hx:Loc X.env.scope x)(hf:X.fn x=true\/X.env.scope.names.lookup x=some .local:=by first|exact .inl rfl|exact .inr rfl|assumption):PG X (.Name x pos) (vL i):=by
 intro pins s Z H v u Q I r h;exact wpAny_assign_Name (DJ I hN hi hx r (λs' I'=>⟨_,H,I',h⟩) hf)
def PC:jK:=λvs Z H Q=>vs=[]/\Q Z H
def PD(t:TG)(u:jK):jK:=λvs Z H Q=>∃v r,vs=v::r/\t v Z H λσ' H'=>u r σ' H' Q
theorem PF:i0 X [] PC:=by
 intro pins s Z H vs us Q I r h;obtain⟨e,h⟩:=h;subst e;cases r;exact assignInOrder_nil ⟨Z,H,I,h⟩
theorem PH{e:Expr}{es:List Expr}{t:TG}{u:jK}(h1:PG X e t)(h2:i0 X es u)(hs:(Gr (e::es) X.env).map (·.2)=Mo e X.env::(Gr es X.env).map (·.2):=by rfl):i0 X (e::es) (PD t u):=by
 intro pins s Z H vs us Q I r h;obtain⟨v,vr,e1,h⟩:=h;subst e1;cases r with
 | cons r rr=>
  rw[hs];refine assignInOrder_cons (a8 (h1 pins s Z H _ _ _ I r h) λ_ s1 ⟨σ1,H1,I1,q1⟩=>?_);exact h2 pins s1 σ1 H1 _ _ Q I1 rr q1
def PJ(K:Ab)(n:Nat)(t:jK):TG:=λv Z H Q=>∃a xs,v=.ref a/\bU K H a xs/\xs.length=n/\t xs Z H Q
theorem PK{es:List Expr}{k:Nat}{t:jK}{n:Nat}(hc:X.calm=true)(h:i0 X es t)(hn:(Gr es X.env).length=n:=by rfl)(hst:(Gr es X.env).findIdx? (·.1)=none:=by rfl):PG X (.Tuple es k pos) (PJ X.K n t):=by
 intro pins s Z H v u Q I r hw;obtain⟨a,xs,e1,hq,hl,hw⟩:=hw;subst e1;cases r;obtain⟨its,rv,ht,hz⟩:=I.tuple hq;refine assign_Tuple_tuple (I.ok.hd hc) ht (by simp[hn,<-hl,rv.length]) hst λh' hx=>?_;have I1:Inv X pins Z H {s with heap:=h'}:=I.kept (t':=s.toks) λb o e=>hx b o (Bs (Bi e)) e;exact h pins _ Z H xs _ Q I1 (by simpa using rv) hw
def PL(to ti:TE)(t:rP):TG:=λv Z H Q=>to Z H λo H1=>ti Z H1 λi H2=>t o i v H2 λH3=>Q Z H3
theorem PM{o i:Expr}{to ti:TE}{t:rP}(ho:PE X o to)(hi:PE X i ti)(hs:rQ X t)(ha:∀v,Mo (.Subscript o i pos) X.env v=(do
   let ov <-Jn [v] (eval o X.env)
   let iv <-Jn [v,ov] (eval i X.env)
   Nl pos
   Jn [v,ov,iv] (setItem ov iv v)
   release [v,ov,iv] []):=by intro _;rfl):PG X (.Subscript o i pos) (PL to ti t):=by
 intro pins s Z H v u Q I r h;rw[ha];refine Ac (Du (a8 (ho pins s Z H _ I h) λov s1 ⟨x,H1,I1,r1,q1⟩=>?_));refine Ac (Du (a8 (hi pins s1 Z H1 _ I1 q1) λiv s2 ⟨y,H2,I2,r2,q2⟩=>?_));refine Ac (Nn (Ac (Du (a8 (hs pins s2 Z H2 x y v ov iv u _ I2 r1 r2 r q2) λ_ s3 ⟨H3,I3,q3⟩=>?_))));exact wpAny_release ⟨Z,H3,I3,q3⟩
def rR(te:TE)(g:TG):TS:=λD Z H=>te Z H λx H1=>g x Z H1 D.nx
theorem PN{tg e:Expr}{te:TE}{g:TG}(he:PE X e te)(hg:PG X tg g)(hs:swapsWithSole [tg] e pos.line X.env=pure false:=by rfl)(hw:swappedStores [tg] e X.env=pure none:=by rfl)(h1:(Gr [tg] X.env).map (·.2)=[Mo tg X.env]:=by rfl):PS X (.Assign [tg] e pos) (rR te g):=by
 intro pins s Z H D I h;refine wpAny_Assign_stores (a8 (he pins s Z H _ I h) λv s1 ⟨x,H1,I1,r1,q1⟩=>?_) hs hw;rw[h1];exact a8 (hg pins s1 Z H1 x v _ I1 r1 q1) λ_ s2 q=>q
theorem PQ{i:Nat}{x:Str}{e:Expr}{te:TE}{pos':Pos}(hN:X.N.Nodup)(hi:X.N[i]? = some x)(hx:Loc X.env.scope x)(he:PE X e te)(hs:Jt e (some (.Name x pos')) pos.line X.env=pure false:=by rfl)(hf:X.fn x=true\/X.env.scope.names.lookup x=some .local:=by first|exact .inl rfl|exact .inr rfl|assumption):
  PS X (.Assign [.Name x pos'] e pos) (rR te (vL i)):=by
 intro pins s Z H D I h;refine wpAny_Assign_Name (a8 (he pins s Z H _ I h) λv s1 ⟨y,H1,I1,r1,q1⟩=>?_) hs;exact DJ I1 hN hi hx r1 (λs2 I2=>⟨_,H1,I2,q1⟩) hf
end
section
variable {X:Cx}{pos:Pos}
def PU(c:TT)(tb:TS):TS:=λD Z H=>∃W:Nat->St->Hp->Prop,(∃m,W m Z H)/\∀m Z H,W m Z H->
 c Z H λb H1=>if b=true then ∃N:St->Hp->Prop,(∀σ' H',N σ' H'->∃m',m'<m/\W m' σ' H')/\tb {D with nx:=N,ct:=N,bk:=D.nx} Z H1 else D.nx Z H1
theorem PV{c:Expr}{body:List Stmt}{tc:TT}{tb:TS}(hp:PassesOwn (Bw X.prog X.w) X.A X.env X.xe)(hc:PT X c tc)(hb:gB X body tb):PS X (.While c body [] pos) (PU tc tb):=by
 intro pins s Z H D I h;obtain⟨W,⟨m0,w0⟩,turn⟩:=h;refine wpAny_While (codeAny_whileLoop (λn s'=>∃σ' H',Inv X pins σ' H' s'/\W n σ' H') ?_ m0 ⟨Z,H,I,w0⟩);rintro n s1 ⟨σ1,H1,I1,w1⟩;refine Hx hp (a8 (hc pins s1 σ1 H1 _ I1 (turn n σ1 H1 w1)) λb s2 ⟨H2,I2,q2⟩=>?_);cases b with
 | true=>
  obtain⟨N,hN,q2⟩:=q2;rw[if_pos rfl];refine Hx hp (a8 (hb pins s2 σ1 H2 _ I2 q2) λf s3 q3=>?_);cases f with
  | next=>
   obtain⟨σ3,H3,I3,n3⟩:=q3;obtain⟨m',hm,w3⟩:=hN σ3 H3 n3;exact⟨m',hm,σ3,H3,I3,w3⟩
  | cont=>
   obtain⟨σ3,H3,I3,n3⟩:=q3;obtain⟨m',hm,w3⟩:=hN σ3 H3 n3;exact⟨m',hm,σ3,H3,I3,w3⟩
  | brk=>exact q3
  | ret v=>exact q3
 | false=>
  rw[if_neg Av];exact Nb ⟨σ1,H2,I2,q2⟩
end
structure It where
 go:Nat->Hp->Prop
 yld:Nat->Hp->V->Hp->Prop
 stop:Nat->Hp->Prop
def gZ(X:Cx)(pins:List (Addr×Obj))(H:Hp)(b:Addr):Prop:=
 H b=none/\b≠X.env.locals/\b∉X.fs/\(b∈X.ex\/X.s₀.heap.objs.size<=b)/\(∀x c,X.env.cells.lookup x=some c->c≠b)/\∀p∈X.pn++pins,p.1≠b
theorem Inv.fpOk{X:Cx}{pins:List (Addr×Obj)}{Z:St}{H H':Hp}{s:Aj}{b:Addr}(I:Inv X pins Z H s)(hb:s.heap.objs.size<=b)(hn:H' b=none):gZ X pins H' b:=by
 refine⟨hn,Hm (Bq I.lt hb),I.nofs hb,.inr (Ah I.sz hb),λx c e z=>?_,λp hp z=>?_⟩
 .obtain⟨v,q⟩:=I.cell x c e;exact absurd (Bq q.lt (by rw[z];exact hb)) (Dz _)
 .exact absurd (Bq (Bi (I.pin p hp).1) (by rw[z];exact hb)) (Dz _)
structure jL(P:Ca)(w:Ct)(K:Ab)(tg:Expr)(J:It)(fp:List Addr)(it:Addr)(tn:Nat->Heap->Prop):Prop where
 mem:it∈fp
 obj:∀i h,tn i h->∀b∈fp,∃o,h.get? b=some o/\∀v,o.data≠.cell v
 keep:∀i h h',tn i h->(∀b∈fp,∀o,h.get? b=some o->h'.get? b=some o)->tn i h'
 item:∀(X:Cx),X.prog=P->X.w=w->X.K=K->X.calm=true->∀(i:Nat) (pins:List (Addr×Obj)) (s:Aj) (Z:St) (H:Hp) (E:Ae->Aj->Prop),Inv X pins Z H s->(∀b∈fp,gZ X pins H b)->tn i s.heap->J.go i H->
  Bo (Bw P w) X.A (Ml (.ref it)) (λr s1=>∃u,r=some u/\
   Bo (Bw P w) X.A (Nc tg (.ref it) u) (λ_ s2=>∃x H',Inv X pins Z H' s2/\RelV x u/\J.yld i H x H'/\tn (i+1) s2.heap/\∀b∈fp,H' b=none) E s1) E s
 done:∀(X:Cx),X.prog=P->X.w=w->X.K=K->X.calm=true->∀(i:Nat) (pins:List (Addr×Obj)) (s:Aj) (Z:St) (H:Hp) (E:Ae->Aj->Prop),Inv X pins Z H s->(∀b∈fp,gZ X pins H b)->tn i s.heap->J.stop i H->
  Bo (Bw P w) X.A (Ml (.ref it)) (λr s1=>r=none/\Inv X pins Z H s1) E s
 self:∀(A:Dg) (i:Nat) (s:Aj) (Q:Ae->Aj->Prop) (E:Ae->Aj->Prop),tn i s.heap->Q (.ref it) s->Bo (Bw P w) A (pyIter (.ref it)) Q E s
abbrev TI:=St->Hp->(It->Hp->Prop)->Prop
def rS(X:Cx)(pins:List (Addr×Obj))(Z:St)(tg:Expr)(R:It->Hp->Prop)(itv:Ae)(s2:Aj):Prop:=
 ∃(it:Addr) (fp:List Addr) (tn:Nat->Heap->Prop) (J:It) (H':Hp),itv=.ref it/\Inv X pins Z H' s2/\jL X.prog X.w X.K tg J fp it tn/\tn 0 s2.heap/\(∀b∈fp,gZ X pins H' b)/\R J H'
def PI(X:Cx)(tg iter:Expr)(wi:TI):Prop:=
 ∀(pins:List (Addr×Obj)) (s:Aj) (Z:St) (H:Hp) (R:It->Hp->Prop),Inv X pins Z H s->wi Z H R->
  Bo (Bw X.prog X.w) X.A (eval iter X.env) (λv s1=>Bo (Bw X.prog X.w) X.A (pyIter v) (rS X pins Z tg R) X.xe s1) X.xe s
theorem pK{M:Model}{A:Dg}{E:Ae->Aj->Prop}{s:Aj}{tg:Expr}{it:Addr}{u:Ae}{o:Obj}{n:String}{vs:Array Ae}{Q:Unit->Aj->Prop}(ho:s.heap.get? it=some o)(hc:o.cls=.type n)(hd:o.data=.fields vs)(hn : ["enumerate","zip","dict_itemiterator","dict_reverseitemiterator","odict_iterator","itertools.zip_longest","itertools.pairwise"].contains n=false)(hQ:Q () s):Bo M A (Nc tg (.ref it) u) Q E s:=by
 unfold Nc;cases tg<;>first
  | exact Ao hQ
  | (cases u<;>first
    | exact Ao hQ
    | (refine Ac (wpAny_load ho ?_)
       rw[hc,hd];show Bo M A (if (["enumerate","zip","dict_itemiterator","dict_reverseitemiterator","odict_iterator","itertools.zip_longest","itertools.pairwise"].contains n&&vs[0]?==some (Lu _))=true then _ else _) Q E s;rw[if_neg (by intro h;rw[hn,Bool.false_and]at h;cases h)];exact Ao hQ))
def nU(K:Ab)(a:Addr):It:=
 ⟨λi H=>∃xs x,bH K H a xs/\xs[i]? = some x,λi H x H'=>H'=H/\∀xs,bH K H a xs->xs[i]? = some x,λi H=>∃xs,bH K H a xs/\xs.length<=i⟩
def vM(K:Ab)(a:Addr):It:=
 ⟨λi H=>∃xs x,bU K H a xs/\xs[i]? = some x,λi H x H'=>H'=H/\∀xs,bU K H a xs->xs[i]? = some x,λi H=>∃xs,bU K H a xs/\xs.length<=i⟩
def rT(lo:Int)(n:Nat):It:=⟨λi _=>i<n,λi H x H'=>H'=H/\x=.int (lo+i),λi _=>n<=i⟩
theorem PX{P:Ca}{w:Ct}{K:Ab}{tg:Expr}(a it:Addr):jL P w K tg (nU K a) [it] it (λi h=>h.IsListIter it a i) where
 mem:=by simp
 obj:=λi h st b hb=>by
  have e:b=it:=by simpa using hb
  subst e;obtain⟨o,e,c,d⟩:=st;exact⟨o,e,λv z=>by rw[d]at z;cases z⟩
 keep:=λi h h' st k=>st.at λo e=>k it (by simp) o e
 item:=by
  intro X hP hw hK hc i pins s Z H E I hf st hg;subst hP hw hK;obtain⟨xs,x,hq,hx⟩:=hg;obtain⟨its,rv,p,hz⟩:=I.list hq;obtain⟨u,hu,ru⟩:=rv.get hx;obtain⟨f0,f1,f2,f3,f4,f5⟩:=hf it (by simp);refine wpAny_pyNext_list_item st p.isList (x:=u) (by simpa using hu) λh' st' sb=>?_;have I1:Inv X pins Z H {s with heap:=h'}:=I.turned (t':=s.toks) (λb o hb e=>(sb.2 b hb).trans e) f0 f1 f3 f4 f5;obtain⟨o,e,c,d⟩:=id st';exact⟨u,rfl,pK (s:={s with heap:=h'}) e c d (by decide) ⟨x,H,I1,ru,⟨rfl,λys hy=>by rw[I.list_inj hy hq];exact hx⟩,st',λb hb=>(hf b hb).1⟩⟩
 done:=by
  intro X hP hw hK hc i pins s Z H E I hf st hg;subst hP hw hK;obtain⟨xs,hq,hx⟩:=hg;obtain⟨its,rv,p,hz⟩:=I.list hq;obtain⟨f0,f1,f2,f3,f4,f5⟩:=hf it (by simp);have hl:=rv.length;exact wpAny_pyNext_list_end (I.ok.hd hc) st p.isList (by simp;lia) λh' eb=>⟨rfl,I.turned (t':=s.toks) (λb o hb e=>eb b o hb e) f0 f1 f3 f4 f5⟩
 self:=λ_ _ _ _ _ st h=>wpAny_pyIter_listiter st h
theorem PY{P:Ca}{w:Ct}{K:Ab}{tg:Expr}(a it:Addr):jL P w K tg (vM K a) [it] it (λi h=>h.IsTupleIter it a i) where
 mem:=by simp
 obj:=λi h st b hb=>by
  have e:b=it:=by simpa using hb
  subst e;obtain⟨o,e,c,d⟩:=st;exact⟨o,e,λv z=>by rw[d]at z;cases z⟩
 keep:=λi h h' st k=>st.at λo e=>k it (by simp) o e
 item:=by
  intro X hP hw hK hc i pins s Z H E I hf st hg;subst hP hw hK;obtain⟨xs,x,hq,hx⟩:=hg;obtain⟨its,rv,p,hz⟩:=I.tuple hq;obtain⟨u,hu,ru⟩:=rv.get hx;obtain⟨f0,f1,f2,f3,f4,f5⟩:=hf it (by simp);refine wpAny_pyNext_tuple_item st (show s.heap.IsTuple a its.toArray from p) (x:=u) (by simpa using hu) λh' st' sb=>?_;have I1:Inv X pins Z H {s with heap:=h'}:=I.turned (t':=s.toks) (λb o hb e=>(sb.2 b hb).trans e) f0 f1 f3 f4 f5;obtain⟨o,e,c,d⟩:=id st';exact⟨u,rfl,pK (s:={s with heap:=h'}) e c d (by decide) ⟨x,H,I1,ru,⟨rfl,λys hy=>by rw[I.tuple_inj hy hq];exact hx⟩,st',λb hb=>(hf b hb).1⟩⟩
 done:=by
  intro X hP hw hK hc i pins s Z H E I hf st hg;subst hP hw hK;obtain⟨xs,hq,hx⟩:=hg;obtain⟨its,rv,p,hz⟩:=I.tuple hq;obtain⟨f0,f1,f2,f3,f4,f5⟩:=hf it (by simp);have hl:=rv.length;exact wpAny_pyNext_tuple_end (I.ok.hd hc) st (show s.heap.IsTuple a its.toArray from p) (by simp;lia) λh' eb=>⟨rfl,I.turned (t':=s.toks) (λb o hb e=>eb b o hb e) f0 f1 f3 f4 f5⟩
 self:=λ_ _ _ _ _ st h=>wpAny_pyIter_tupleiter st h
theorem PZ{P:Ca}{w:Ct}{K:Ab}{tg:Expr}(it:Addr)(lo:Int)(n:Nat):jL P w K tg (rT lo n) [it] it (λi h=>IsRangeIter h it (lo+(i:Nat)*1) ((n:Int)-(i:Nat)) 1) where
 mem:=by simp
 obj:=λi h st b hb=>by
  have e:b=it:=by simpa using hb
  subst e;exact⟨_,st,λv z=>by
   have z':Data.fields _=Data.cell v:=z;cases z'⟩
 keep:=λi h h' st k=>k it (by simp) _ st
 item:=by
  intro X hP hw hK hc i pins s Z H E I hf st hg;subst hP hw hK;obtain⟨f0,f1,f2,f3,f4,f5⟩:=hf it (by simp);have W:=Walks.range (prog:=X.prog) (w:=X.w) (I.ok.hd hc) it lo 1 n;refine W.item i s _ _ hg st λv h' tk hv st' kk=>?_;obtain⟨t,rfl⟩:=hv;have I1:Inv X pins Z H {s with heap:=h',toks:=tk}:=I.turned (λb o hb e=>kk b o (by simpa using hb) e) f0 f1 f3 f4 f5;refine⟨_,rfl,pK (s:={s with heap:=h',toks:=tk}) (n:="range_iterator") st' rfl rfl (by decide) ⟨.int (lo+i),H,I1,⟨t,?_⟩,⟨rfl,rfl⟩,st',λb hb=>(hf b hb).1⟩⟩;rw[Int.mul_one]
 done:=by
  intro X hP hw hK hc i pins s Z H E I hf st hg;subst hP hw hK;obtain⟨f0,f1,f2,f3,f4,f5⟩:=hf it (by simp);exact wpAny_pyNext_range_end (I.ok.hd hc) st (by have:n<=i:=hg;lia) λh' eb=>⟨rfl,I.turned (t':=s.toks) (λb o hb e=>eb b o hb e) f0 f1 f3 f4 f5⟩
 self:=λ_ _ _ _ _ st h=>wpAny_pyIter_rangeiter st h
section
variable {X:Cx}{tg:Expr}
theorem P0{pins:List (Addr×Obj)}{Z:St}{H:Hp}{s:Aj}{R:It->Hp->Prop}{E:Ae->Aj->Prop}{lo hi:Int}{t u v:Tok}{tk:Nat}(I:Inv X pins Z H s)(h1 : -(2 ^ 62)<=lo)(h2:lo<2 ^ 62)(h3 : -(2 ^ 62)<=hi)(h4:hi<2 ^ 62)(q:R (rT lo (hi-lo).toNat) H):Bo (Bw X.prog X.w) X.A (pyIter (.ref s.heap.objs.size)) (rS X pins Z tg R) E {s with heap:=s.heap.push {cls:=.type "range",data:=.fields #[.int lo t,.int hi u,.int 1 v]},toks:=tk}:=by
 refine wpAny_pyIter_range (IsRange.new ..) (small_one h1 h2 h3 h4) ?_;have I1:Inv X pins Z H {s with heap:=s.heap.push {cls:=.type "range",data:=.fields #[.int lo t,.int hi u,.int 1 v]},toks:=tk}:=I.kept λb o e=>Am _ e;refine⟨(s.heap.push {cls:=.type "range",data:=.fields #[.int lo t,.int hi u,.int 1 v]}).objs.size,[(s.heap.push {cls:=.type "range",data:=.fields #[.int lo t,.int hi u,.int 1 v]}).objs.size],_,_,H,rfl,
  I1.kept (t':=tk) λb o e=>Am _ e,PZ _ lo (hi-lo).toNat,?_,λb hb=>?_,q⟩
 .have e1:lo+((0:Nat):Int)*1=lo:=by simp
  have e2:(((hi-lo).toNat:Nat):Int)-((0:Nat):Int)=Ie lo hi 1:=by rw[rangeSize_one];split<;>lia
  show IsRangeIter _ _ (lo+((0:Nat):Int)*1) ((((hi-lo).toNat:Nat):Int)-((0:Nat):Int)) 1;rw[e1,e2];exact Be _ rfl
 .have e:b=(s.heap.push {cls:=.type "range",data:=.fields #[.int lo t,.int hi u,.int 1 v]}).objs.size:=by simpa using hb
  subst e;exact I1.fpOk (Ag _) (I1.hok.fresh (Ag _))
def P1(ta:TA):TI:=λZ H R=>ta Z H λvs H1=>∃j:Int,vs=[.int j]/\-(2 ^ 62)<=j/\j<2 ^ 62/\R (rT 0 j.toNat) H1
theorem P2{a:Expr}{ta:TA}{p pos:Pos}(hg:Gl X "range")(hm:X.mg "range" = none)(ha:PA X [a] ta)(hs:Br [a] X.env=[(false,eval a X.env)]:=by rfl):PI X tg (.Call (.Name "range" p) [a] [] pos) (P1 ta):=by
 intro pins s Z H R I h;refine Call_ (kW I hg hm boot_range (Eb (a8 (ha pos pins s Z H _ I h) λus s1 ⟨vs,H1,I1,r1,q1⟩=>?_) hs rfl));obtain⟨j,e,q1,q2,q⟩:=q1;subst e;cases r1 with
 | cons r rr=>
  cases rr;obtain⟨t,rfl⟩:=r;exact call_range_1 (P0 I1 (by lia) (by lia) q1 q2 (by simpa using q))
def P4(wi:TI)(g:TG)(tb:TS):TS:=λD Z H=>wi Z H λJ H1=>∃W:Nat->Nat->St->Hp->Prop,(∃m,W 0 m Z H1)/\∀i m Z H,W i m Z H->
 (J.stop i H/\D.nx Z H)\/(J.go i H/\∃N:St->Hp->Prop,(∀σ' H',N σ' H'->∃m',m'<m/\W (i+1) m' σ' H')/\∀x H',J.yld i H x H'->g x Z H' λσ2 H2=>tb {D with nx:=N,ct:=N,bk:=D.nx} σ2 H2)
def pL(fp:List Addr)(h:Heap):List (Addr×Obj):=fp.filterMap λb=>(h.get? b).map λo=>(b,o)
theorem rV{fp:List Addr}{h:Heap}{b:Addr}{o:Obj}(hb:b∈fp)(e:h.get? b=some o):(b,o)∈pL fp h:=Ks.mpr ⟨b,hb,by rw[e];rfl⟩
theorem P5{fp:List Addr}{h:Heap}{p:Addr×Obj}(hp:p∈pL fp h):p.1∈fp/\h.get? p.1=some p.2:=by
 obtain⟨b,hb,e⟩:=Ks.mp hp;cases q:h.get? b with
 | none=>rw[q]at e;cases e
 | some o=>
  rw[q]at e;have e':(b,o)=p:=Cj e;subst e';exact⟨hb,q⟩
theorem Inv.pinned{pins:List (Addr×Obj)}{Z:St}{H:Hp}{s:Aj}{fp:List Addr}(I:Inv X pins Z H s)(hf:∀b∈fp,gZ X pins H b)(ho:∀b∈fp,∃o,s.heap.get? b=some o/\∀v,o.data≠.cell v):Inv X (pins++pL fp s.heap) Z H s:=
 I.pins_of λp hp=>(Aw.mp hp).elim (λz=>I.pin p (Ba _ z)) λz=>by
  obtain⟨hb,e⟩:=P5 z;obtain⟨f0,f1,f2,_⟩:=hf p.1 hb;obtain⟨o,e',d⟩:=ho p.1 hb;rw[e]at e';cases e';exact⟨e,f0,f1,f2,d⟩
theorem Inv.unpinned{pins pl:List (Addr×Obj)}{Z:St}{H:Hp}{s:Aj}(I:Inv X (pins++pl) Z H s):Inv X pins Z H s:=I.pins_of λp hp=>I.pin p (Ba _ (Bh _ hp))
theorem P6{iter:Expr}{body:List Stmt}{wi:TI}{g:TG}{tb:TS}{pos:Pos}(hp:PassesOwn (Bw X.prog X.w) X.A X.env X.xe)(hc:X.calm=true)(hi:PI X tg iter wi)(hg:PG X tg g)(hb:gB X body tb)(hs:∀x,Hb iter X.env x=pure x:=by intro _;rfl):PS X (.For tg iter body [] pos) (P4 wi g tb):=by
 intro pins s Z H D I h;refine wpAny_For (a8 (hi pins s Z H _ I h) λv s1 h1=>a8 h1 λitv s2 h2=>?_) hs;obtain⟨it,fp,tn,J,H2,e,I2,T,st2,f2,W,⟨m0,w0⟩,turn⟩:=h2;subst e;have stat:∀{H':Hp},(∀b∈fp,H' b=none)->∀b∈fp,gZ X pins H' b:=λhn b hb=>⟨hn b hb,(f2 b hb).2⟩
 refine codeAny_forLoop_any (λn s'=>∃i σ' H',Inv X pins σ' H' s'/\tn i s'.heap/\(∀b∈fp,H' b=none)/\W i n σ' H') ?_ m0 ⟨0,Z,H2,I2,st2,λb hb=>(f2 b hb).1,w0⟩;rintro n s3 ⟨i,σ3,H3,I3,st3,fr3,w3⟩;rcases turn i n σ3 H3 w3 with⟨stop,qn⟩|⟨go,N,hN,step⟩
 .refine Hx hp (a8 (T.done X rfl rfl rfl hc i pins s3 σ3 H3 X.xe I3 (stat fr3) st3 stop) λr s4 ⟨hr,I4⟩=>?_);subst hr;exact Nb ⟨σ3,H3,I4,qn⟩
 .refine Hx hp (a8 (T.item X rfl rfl rfl hc i pins s3 σ3 H3 X.xe I3 (stat fr3) st3 go) λr s4 ⟨u,hr,h4⟩=>?_);subst hr;refine Hx hp (a8 h4 λ_ s5 ⟨x,H5,I5,r5,y5,st5,fr5⟩=>?_);have I5':=I5.pinned (stat fr5) (T.obj _ _ st5);refine Hx hp (a8 (hg _ s5 σ3 H5 x u _ I5' r5 (step x H5 y5)) λ_ s6 ⟨σ6,H6,I6,q6⟩=>?_);refine Hx hp (a8 (hb _ s6 σ6 H6 _ I6 q6) λf s7 q7=>?_);have again:∀{σ7:St} {H7:Hp},Inv X (pins++pL fp s5.heap) σ7 H7 s7->N σ7 H7->∃m,m<n/\∃i σ' H',Inv X pins σ' H' s7/\tn i s7.heap/\(∀b∈fp,H' b=none)/\W i m σ' H':=λ{σ7 H7} I7 n7=>by
   obtain⟨m',hm,w7⟩:=hN σ7 H7 n7;refine⟨m',hm,i+1,σ7,H7,I7.unpinned,T.keep _ _ _ st5 λb hb o e=>(I7.pin (b,o) (Ba _ (Ba _ (rV hb e)))).1,λb hb=>?_,w7⟩;obtain⟨o,e,d⟩:=T.obj _ _ st5 b hb;exact(I7.pin (b,o) (Ba _ (Ba _ (rV hb e)))).2.1
  cases f with
  | next=>obtain⟨σ7,H7,I7,n7⟩:=q7;exact again I7 n7
  | cont=>obtain⟨σ7,H7,I7,n7⟩:=q7;exact again I7 n7
  | brk=>obtain⟨σ7,H7,I7,q7⟩:=q7;exact⟨σ7,H7,I7.unpinned,q7⟩
  | ret v=>obtain⟨x7,σ7,H7,I7,r7,q7⟩:=q7;exact⟨x7,σ7,H7,I7.unpinned,r7,q7⟩
end
abbrev R2:=V->V->Hp->VK->Prop
def a9(X:Cx)(f:Ae->Ae->Sem Ae)(r:R2):Prop:=
 ∀(pins:List (Addr×Obj)) (s:Aj) (Z:St) (H:Hp) (x y:V) (v u:Ae) (Q:VK),Inv X pins Z H s->RelV x v->RelV y u->r x y H Q->
  Bo (Bw X.prog X.w) X.A (f v u) (EP X pins Z Q) X.xe s
def pM(X:Cx)(f:Ae->Sem Ae)(r:V->Hp->VK->Prop):Prop:=
 ∀(pins:List (Addr×Obj)) (s:Aj) (Z:St) (H:Hp) (x:V) (v:Ae) (Q:VK),Inv X pins Z H s->RelV x v->r x H Q->
  Bo (Bw X.prog X.w) X.A (f v) (EP X pins Z Q) X.xe s
def b7(X:Cx)(f:Ae)(r:List V->Hp->VK->Prop):Prop:=
 ∀(pins:List (Addr×Obj)) (s:Aj) (Z:St) (H:Hp) (xs:List V) (us:List Ae) (Q:VK),Inv X pins Z H s->aW xs us->r xs H Q->
  Bo (Bw X.prog X.w) X.A (call f us) (EP X pins Z Q) X.xe s
def P7(X:Cx)(r:V->Hp->(Bool->Hp->Prop)->Prop):Prop:=
 ∀(pins:List (Addr×Obj)) (s:Aj) (Z:St) (H:Hp) (x:V) (v:Ae) (Q:Bool->Hp->Prop),Inv X pins Z H s->RelV x v->r x H Q->
  Bo (Bw X.prog X.w) X.A (truthy v) (TP X pins Z Q) X.xe s
def pN(r:R2)(ta tb:TE):TE:=λZ H Q=>ta Z H λx H1=>tb Z H1 λy H2=>r x y H2 Q
def P8(r:V->Hp->VK->Prop)(ta:TE):TE:=λZ H Q=>ta Z H λx H1=>r x H1 Q
def rI(C:Int->Int->Prop)(g:Int->Int->V):R2:=λx y H Q=>∃i j,x=.int i/\y=.int j/\C i j/\Q (g i j) H
def lM(g:Int->Int->V):R2:=λx y H Q=>∃i j,x=.int i/\y=.int j/\Q (g i j) H
def rU(g:Int->V):V->Hp->VK->Prop:=λx H Q=>∃i,x=.int i/\Q (g i) H
section
variable {X:Cx}{a b c:Expr}{ta tb tc:TE}{pos:Pos}
theorem vN(ha:PE X a ta)(hb:PE X b tb){pins:List (Addr×Obj)}{s:Aj}{Z:St}{H:Hp}{R:V->V->Hp->Prop}(I:Inv X pins Z H s)(h:ta Z H λx H1=>tb Z H1 λy H2=>R x y H2){Q:Ae->Aj->Prop}{f:Ae->Ae->Sem Ae}(hf:∀v u s2 x y H2,Inv X pins Z H2 s2->RelV x v->RelV y u->R x y H2->Bo (Bw X.prog X.w) X.A (f v u) Q X.xe s2):
  Bo (Bw X.prog X.w) X.A (eval a X.env) (λv s₁=>Bo (Bw X.prog X.w) X.A (eval b X.env) (λu s₂=>Bo (Bw X.prog X.w) X.A (f v u) Q X.xe s₂) X.xe s₁) X.xe s:=by
 refine a8 (ha pins s Z H _ I h) λv s1 ⟨x,H1,I1,r1,q1⟩=>?_;refine a8 (hb pins s1 Z H1 _ I1 q1) λu s2 ⟨y,H2,I2,r2,q2⟩=>?_;exact hf v u s2 x y H2 I2 r1 r2 q2
theorem P9{op:Operator}{r:R2}(ho:a9 X (Ek op) r)(ha:PE X a ta)(hb:PE X b tb):PE X (.BinOp a op b pos) (pN r ta tb):=by
 intro pins s Z H Q I h;exact wpAny_BinOp (vN ha hb I h λv u s2 x y H2 I2 rx ry q=>ho pins s2 Z H2 x y v u Q I2 rx ry q)
theorem QA{op:UnaryOp}{r:V->Hp->VK->Prop}(ho:pM X (unaryOp op) r)(ha:PE X a ta):PE X (.UnaryOp op a pos) (P8 r ta):=by
 intro pins s Z H Q I h;exact UnaryOp_ (a8 (ha pins s Z H _ I h) λv s1 ⟨x,H1,I1,r1,q1⟩=>ho pins s1 Z H1 x v Q I1 r1 q1)
theorem nV{f:Ae->Ae->Sem Ae}{C:Int->Int->Prop}{g:Int->Int->Int}(rule:∀(i j:Int) (t u:Tok) (s:Aj) (Q:Ae->Aj->Prop) (E:Ae->Aj->Prop),C i j->Q (.int (g i j) s.toks) {s with toks:=s.toks+1}->Bo (Bw X.prog X.w) X.A (f (.int i t) (.int j u)) Q E s):
  a9 X f (rI C λi j=>.int (g i j)):=by
 intro pins s Z H x y v u Q I rx ry h;obtain⟨i,j,rfl,rfl,hc,q⟩:=h;obtain⟨t,rfl⟩:=rx;obtain⟨t',rfl⟩:=ry;exact rule i j t t' s _ _ hc ⟨.int (g i j),H,I.tok _,⟨_,rfl⟩,q⟩
theorem DK{f:Ae->Ae->Sem Ae}{g:Int->Int->Int}(rule:∀(i j:Int) (t u:Tok) (s:Aj) (Q:Ae->Aj->Prop) (E:Ae->Aj->Prop),Q (.int (g i j) s.toks) {s with toks:=s.toks+1}->Bo (Bw X.prog X.w) X.A (f (.int i t) (.int j u)) Q E s):
  a9 X f (lM λi j=>.int (g i j)):=by
 intro pins s Z H x y v u Q I rx ry h;obtain⟨i,j,rfl,rfl,q⟩:=h;obtain⟨t,rfl⟩:=rx;obtain⟨t',rfl⟩:=ry;exact rule i j t t' s _ _ ⟨.int (g i j),H,I.tok _,⟨_,rfl⟩,q⟩
theorem vO{f:Ae->Ae->Sem Ae}{g:Int->Int->Bool}(rule:∀(i j:Int) (t u:Tok) (s:Aj) (Q:Ae->Aj->Prop) (E:Ae->Aj->Prop),Q (.bool (g i j)) s->Bo (Bw X.prog X.w) X.A (f (.int i t) (.int j u)) Q E s):
  a9 X f (lM λi j=>.bl (g i j)):=by
 intro pins s Z H x y v u Q I rx ry h;obtain⟨i,j,rfl,rfl,q⟩:=h;obtain⟨t,rfl⟩:=rx;obtain⟨t',rfl⟩:=ry;exact rule i j t t' s _ _ ⟨.bl (g i j),H,I,rfl,q⟩
def DL(i j:Int):Prop:=0<=j/\j<=1000000/\i.natAbs<2 ^ 64
def nW(i j:Int):Prop:=(-(2 ^ 64)<i/\i<2 ^ 64)\/(-(2 ^ 64)<j/\j<2 ^ 64)
theorem nW.ok{i j:Int}(h:nW i j):IntMulOk i j:=by
 rcases h with⟨h1,h2⟩|⟨h1,h2⟩
 .exact .of_left (intBits_le_64 h1 h2)
 .exact .of_right (intBits_le_64 h1 h2)
theorem QB:a9 X (Ek .Add) (lM λi j=>.int (i+j)):=DK λ_ _ _ _ _ _ _ q=>add_int q
theorem QC:a9 X (Ek .Sub) (lM λi j=>.int (i-j)):=DK λ_ _ _ _ _ _ _ q=>sub_int q
theorem QD:a9 X (Ek .Mult) (rI nW λi j=>.int (i*j)):=nV λ_ _ _ _ _ _ _ hc q=>mul_int q hc.ok
theorem QE:a9 X (Ek .Mod) (rI (λ_ j=>0<j) λi j=>.int (i % j)):=nV λi j _ _ _ _ _ hc q=>by
 have h1:(0:Int)<j:=hc;exact mod_int' (by lia) (by rw[Int.fmod_eq_emod_of_nonneg i (by lia)];exact q)
theorem QF:a9 X (Ek .Pow) (rI DL λi j=>.int (i ^ j.toNat)):=nV λ_ _ _ _ _ _ _ hc q=>pow_int_small hc.1 hc.2.1 hc.2.2 q
theorem QG{f:Ae->Sem Ae}{g:Int->Int}(rule:∀(i:Int) (t:Tok) (s:Aj) (Q:Ae->Aj->Prop) (E:Ae->Aj->Prop),Q (.int (g i) s.toks) {s with toks:=s.toks+1}->Bo (Bw X.prog X.w) X.A (f (.int i t)) Q E s):
  pM X f (rU λi=>.int (g i)):=by
 intro pins s Z H x v Q I rx h;obtain⟨i,rfl,q⟩:=h;obtain⟨t,rfl⟩:=rx;exact rule i t s _ _ ⟨.int (g i),H,I.tok _,⟨_,rfl⟩,q⟩
theorem QH:pM X (unaryOp .USub) (rU λi=>.int (-i)):=QG λ_ _ _ _ _ q=>neg_int q
end
def rW:V->V->Bool
 | .non,.non=>true|.non,.int _=>true|.int _,.non=>true|.non,.bl _=>true|.bl _,.non=>true|.non,.str _=>true|.str _,.non=>true
 | .int _,.int _=>true|.bl _,.bl _=>true|.str _,.str _=>true|.byt _,.byt _=>true
 | .int _,.str _=>true|.str _,.int _=>true|.bl _,.str _=>true|.str _,.bl _=>true
 | _,_=>false
def rEq:R2:=λx y H Q=>rW x y=true/\Q (.bl (decide (x=y))) H
def QI:R2:=λx y H Q=>rW x y=true/\Q (.bl (!decide (x=y))) H
theorem DM{i j:Int}:decide (V.int i=V.int j)=(i==j):=by
 rw[Dk];simp
theorem DN{i j:Bool}:decide (V.bl i=V.bl j)=(i==j):=by
 rw[Dk];simp
theorem DO{i j:Str}:decide (V.str i=V.str j)=(i==j):=by
 rw[Dk];simp
theorem DP{i j:Array UInt8}:decide (V.byt i=V.byt j)=(i.toList==j.toList):=by
 rw[Dk];cases i;cases j;simp
section
variable {X:Cx}{a b c:Expr}{ta tb tc:TE}{pos:Pos}
theorem cV{pins:List (Addr×Obj)}{Z:St}{H:Hp}{s:Aj}{Q:VK}{k k':Bool}(I:Inv X pins Z H s)(q:Q (.bl k) H)(e:k=k'):EP X pins Z Q (.bool k') s:=by
 subst e;exact⟨.bl k,H,I,rfl,q⟩
theorem QJ:a9 X (Cq .Eq) rEq:=by
 intro pins s Z H x y v u Q I rx ry h;obtain⟨hs,q⟩:=h;cases x with
 | non=>
  cases rx;cases y with
  | non=>cases ry;exact PySem.EqNone.eq_none_none (cV I q (by simp))
  | bl j=>cases ry;exact PySem.EqNone.eq_none_bool (cV I q (by simp))
  | int j=>obtain⟨t',rfl⟩:=ry;exact PySem.EqNone.eq_none_int (cV I q (by simp))
  | str j=>obtain⟨t',rfl⟩:=ry;exact PySem.EqNone.eq_none_str (cV I q (by simp))
  | _=>exact absurd (show false=true from hs) Av
 | bl i=>
  cases rx;cases y with
  | non=>cases ry;exact PySem.EqNone.eq_bool_none (cV I q (by simp))
  | bl j=>cases ry;exact eq_bool (cV I q DN)
  | str j=>obtain⟨t',rfl⟩:=ry;exact PySem.EqMixed.eq_bool_str (cV I q (by simp))
  | _=>exact absurd (show false=true from hs) Av
 | int i=>
  obtain⟨t,rfl⟩:=rx;cases y with
  | non=>cases ry;exact PySem.EqNone.eq_int_none (cV I q (by simp))
  | int j=>obtain⟨t',rfl⟩:=ry;exact eq_int (cV I q DM)
  | str j=>obtain⟨t',rfl⟩:=ry;exact PySem.EqMixed.eq_int_str (cV I q (by simp))
  | _=>exact absurd (show false=true from hs) Av
 | str i=>
  obtain⟨t,rfl⟩:=rx;cases y with
  | non=>cases ry;exact PySem.EqNone.eq_str_none (cV I q (by simp))
  | bl j=>cases ry;exact PySem.EqMixed.eq_str_bool (cV I q (by simp))
  | int j=>obtain⟨t',rfl⟩:=ry;exact PySem.EqMixed.eq_str_int (cV I q (by simp))
  | str j=>obtain⟨t',rfl⟩:=ry;exact eq_str (cV I q DO)
  | _=>exact absurd (show false=true from hs) Av
 | byt i=>
  obtain⟨t,rfl⟩:=rx;cases y with
  | byt j=>obtain⟨t',rfl⟩:=ry;exact PySem.W.eq_bytes (cV I q DP)
  | _=>exact absurd (show false=true from hs) Av
 | _=>cases y<;>exact absurd (show false=true from hs) Av
theorem QK:a9 X (Cq .NotEq) QI:=by
 intro pins s Z H x y v u Q I rx ry h;obtain⟨hs,q⟩:=h;cases x with
 | non=>
  cases rx;cases y with
  | non=>cases ry;exact PySem.EqNone.ne_none_none (cV I q (by simp))
  | bl j=>cases ry;exact PySem.EqNone.ne_none_bool (cV I q (by simp))
  | int j=>obtain⟨t',rfl⟩:=ry;exact PySem.EqNone.ne_none_int (cV I q (by simp))
  | str j=>obtain⟨t',rfl⟩:=ry;exact PySem.EqNone.ne_none_str (cV I q (by simp))
  | _=>exact absurd (show false=true from hs) Av
 | bl i=>
  cases rx;cases y with
  | non=>cases ry;exact PySem.EqNone.ne_bool_none (cV I q (by simp))
  | bl j=>cases ry;exact ne_bool (cV I q (congrArg not DN))
  | str j=>obtain⟨t',rfl⟩:=ry;exact PySem.EqMixed.ne_bool_str (cV I q (by simp))
  | _=>exact absurd (show false=true from hs) Av
 | int i=>
  obtain⟨t,rfl⟩:=rx;cases y with
  | non=>cases ry;exact PySem.EqNone.ne_int_none (cV I q (by simp))
  | int j=>obtain⟨t',rfl⟩:=ry;exact ne_int (cV I q (congrArg not DM))
  | str j=>obtain⟨t',rfl⟩:=ry;exact PySem.EqMixed.ne_int_str (cV I q (by simp))
  | _=>exact absurd (show false=true from hs) Av
 | str i=>
  obtain⟨t,rfl⟩:=rx;cases y with
  | non=>cases ry;exact PySem.EqNone.ne_str_none (cV I q (by simp))
  | bl j=>cases ry;exact PySem.EqMixed.ne_str_bool (cV I q (by simp))
  | int j=>obtain⟨t',rfl⟩:=ry;exact PySem.EqMixed.ne_str_int (cV I q (by simp))
  | str j=>obtain⟨t',rfl⟩:=ry;exact ne_str (cV I q (congrArg not DO))
  | _=>exact absurd (show false=true from hs) Av
 | byt i=>
  obtain⟨t,rfl⟩:=rx;cases y with
  | byt j=>obtain⟨t',rfl⟩:=ry;exact PySem.W.ne_bytes (cV I q (congrArg not DP))
  | _=>exact absurd (show false=true from hs) Av
 | _=>cases y<;>exact absurd (show false=true from hs) Av
theorem QL:a9 X (Cq .Lt) (lM λi j=>.bl (decide (i<j))):=vO λ_ _ _ _ _ _ _ q=>lt_int q
theorem QM:a9 X (Cq .LtE) (lM λi j=>.bl (decide (i<=j))):=vO λ_ _ _ _ _ _ _ q=>le_int q
theorem QN:a9 X (Cq .Gt) (lM λi j=>.bl (decide (j<i))):=vO λ_ _ _ _ _ _ _ q=>gt_int q
theorem QO:a9 X (Cq .In) (λx y H Q=>∃i j,x=.str i/\y=.str j/\Q (.bl (!(Kr j i 0 j.length 1).isEmpty)) H):=by
 intro pins s Z H x y v u Q I rx ry h;obtain⟨i,j,rfl,rfl,q⟩:=h;obtain⟨t,rfl⟩:=rx;obtain⟨t',rfl⟩:=ry;exact in_str (cV I q rfl)
theorem QP:a9 X (Cq .Is) (λx y H Q=>y=.non/\Q (.bl (decide (x=.non))) H):=by
 intro pins s Z H x y v u Q I rx ry h;obtain⟨rfl,q⟩:=h;cases ry;refine is_none_gen (cV I q ?_);cases x<;>first
  | (cases rx;rfl)
  | (obtain⟨t,rfl⟩:=rx;rfl)
theorem QQ:a9 X (Cq .IsNot) (λx y H Q=>y=.non/\Q (.bl (!decide (x=.non))) H):=by
 intro pins s Z H x y v u Q I rx ry h;obtain⟨rfl,q⟩:=h;cases ry;refine isnot_none_gen (cV I q ?_);cases x<;>first
  | (cases rx;rfl)
  | (obtain⟨t,rfl⟩:=rx;rfl)
theorem QS:a9 X (Cq .NotIn) (λx y H Q=>∃i j,x=.str i/\y=.str j/\Q (.bl (!(!(Kr j i 0 j.length 1).isEmpty))) H):=by
 intro pins s Z H x y v u Q I rx ry h;obtain⟨i,j,rfl,rfl,q⟩:=h;obtain⟨t,rfl⟩:=rx;obtain⟨t',rfl⟩:=ry;exact notIn_str (cV I q rfl)
theorem a9.or{f:Ae->Ae->Sem Ae}{r r':R2}(h:a9 X f r)(h':a9 X f r'):a9 X f (λx y H Q=>r x y H Q\/r' x y H Q):=by
 intro pins s Z H x y v u Q I rx ry q;rcases q with q|q
 .exact h pins s Z H x y v u Q I rx ry q
 .exact h' pins s Z H x y v u Q I rx ry q
theorem DQ(b:Expr){op:CmpOp}(h:op≠.In:=by decide)(h2:op≠.NotIn:=by decide):Hz op b=false:=by
 have e1:(op==CmpOp.In)=false:=by cases op<;>first|rfl|exact absurd rfl h
 have e2:(op==CmpOp.NotIn)=false:=by cases op<;>first|rfl|exact absurd rfl h2
 cases b<;>simp[Hz,e1,e2]
theorem QT{op:CmpOp}{r:R2}(ho:a9 X (Cq op) r)(ha:PE X a ta)(hb:PE X b tb)(hm:Hz op b=false):PE X (.Compare a [op] [b] pos) (pN r ta tb):=by
 intro pins s Z H Q I h;exact wpAny_Compare1 (vN ha hb I h λv u s2 x y H2 I2 rx ry q=>ho pins s2 Z H2 x y v u Q I2 rx ry q) hm
def QU(t:TE):TT:=λZ H Q=>t Z H λx H'=>∃k,x=.bl k/\Q k H'
theorem QV{op:CmpOp}{r:R2}(ho:a9 X (Cq op) r)(ha:PE X a ta)(hb:PE X b tb)(hm:Hz op b=false):PT X (.Compare a [op] [b] pos) (QU (pN r ta tb)):=by
 intro pins s Z H Q I h;refine wpAny_isTrue_Compare1 (a8 (ha pins s Z H _ I h) λv s1 ⟨x,H1,I1,r1,q1⟩=>a8 (hb pins s1 Z H1 _ I1 q1) λu s2 ⟨y,H2,I2,r2,q2⟩=>
  a8 (ho pins s2 Z H2 x y v u _ I2 r1 r2 q2) λc s3 ⟨z,H3,I3,r3,k,e,q3⟩=>?_) hm
 subst e;cases r3;exact wpAny_truthy_bool ⟨H3,I3,q3⟩
def DR(K:Ab)(x:V)(H:Hp)(k:Bool):Prop:=
 match x with
 | .non=>k=false
 | .bl b=>k=b
 | .int i=>k=(i !=0)
 | .str y=>y.length<=Ap/\k=((y.length:Int) !=0)
 | .byt y=>y.size<=Ap/\k=((y.size:Int) !=0)
 | .ref p=>(∃xs,bH K H p xs/\k = !xs.isEmpty)\/(∃xs,bU K H p xs/\k = !xs.isEmpty)\/∃kvs,H p=some (.dK kvs)/\k = !kvs.isEmpty
 | _=>False
theorem QW{U:Type}{kvs:List (U×V)}{vs:List (U×Ae)}(r:KV kvs vs):(!vs.isEmpty) = !kvs.isEmpty:=by
 cases r<;>rfl
theorem DS{xs:List V}{its:List Ae}(r:aW xs its):(!its.toArray.isEmpty) = !xs.isEmpty:=by
 cases r<;>simp
theorem mO:(Ap:Nat)<2 ^ 63:=by rw[Mg];decide
theorem QX:P7 X (λx H Q=>∃k,DR X.K x H k/\Q k H):=by
 intro pins s Z H x v Q I rx h;obtain⟨k,e,q⟩:=h;have hl:=mO;have hs:Ap=16777216:=Mg;cases x with
 | non=>
  cases rx;have e':k=false:=e;subst e';exact truthy_none ⟨H,I,q⟩
 | bl b=>
  cases rx;have e':k=b:=e;subst e';exact wpAny_truthy_bool ⟨H,I,q⟩
 | int i=>
  obtain⟨t,rfl⟩:=rx;have e':k=(i !=0):=e;subst e';exact PySem.P.truthy_int ⟨H,I,q⟩
 | str y=>
  obtain⟨t,rfl⟩:=rx;obtain⟨hy,e'⟩:y.length<=Ap/\k=((y.length:Int) !=0):=e;subst e';exact PySem.P.truthy_str (by lia) ⟨H,I.tok _,q⟩
 | byt y=>
  obtain⟨t,rfl⟩:=rx;obtain⟨hy,e'⟩:y.size<=Ap/\k=((y.size:Int) !=0):=e;subst e';exact PySem.W.truthy_bytes (by lia) ⟨H,I.tok _,q⟩
 | ref p=>
  cases rx;have e':(∃xs,bH X.K H p xs/\k = !xs.isEmpty)\/(∃xs,bU X.K H p xs/\k = !xs.isEmpty)\/∃kvs,H p=some (.dK kvs)/\k = !kvs.isEmpty:=e;rcases e' with⟨xs,hx,e'⟩|⟨xs,hx,e'⟩|⟨kvs,hx,e'⟩
  .subst e';obtain⟨its,r,pl,hz⟩:=I.list hx;have hlen:=r.length;exact wpAny_truthy_list pl.isList (by simp only[Bg];lia) ⟨H,I.tok _,by rw[DS r];exact q⟩
  .subst e';obtain⟨its,r,pl,hz⟩:=I.tuple hx;have hlen:=r.length;exact truthy_tuple pl (by simp only[Bg];lia) ⟨H,I.tok _,by rw[DS r];exact q⟩
  .subst e';obtain⟨hz,hS,vs,r,m⟩:kvs.length<=Ap/\(p==Fg)=false/\∃vs,KV kvs vs/\s.heap.DictOf (cR X.prog X.w) p vs:=I.hok p _ hx;have hlen:kvs.length=vs.length:=Dr r;exact wpAny_truthy_dict hS m (by lia) ⟨H,I.tok _,by rw[QW r];exact q⟩
 | _=>exact(show False from e).elim
theorem QY(ha:PE X a ta)(he:∀whole,isTrue a X.env whole=(do let v <-whole;Nl a.pos;Jn [v] (truthy v))):
  PT X a (λZ H Q=>ta Z H λx H'=>∃k,DR X.K x H' k/\Q k H'):=by
 intro pins s Z H Q I h;exact isTrue_plain (a8 (ha pins s Z H _ I h) λv s1 ⟨x,H1,I1,r1,q1⟩=>QX pins s1 Z H1 x v Q I1 r1 q1) (he _)
theorem vals1{x:V}{us:List Ae}(r:aW [x] us):∃u,us=[u]/\RelV x u:=by
 cases r with
 | cons r1 r2=>cases r2;exact⟨_,rfl,r1⟩
theorem vals2{x y:V}{us:List Ae}(r:aW [x,y] us):∃u w',us=[u,w']/\RelV x u/\RelV y w':=by
 cases r with
 | cons r1 r2=>
  cases r2 with
  | cons r3 r4=>cases r4;exact⟨_,_,rfl,r1,r3⟩
theorem QZ(hc:X.calm=true):b7 X (.builtin "min") (λxs H Q=>∃i j,xs=[.int i,.int j]/\Q (.int (if j<i then j else i)) H):=by
 intro pins s Z H xs us Q I r h;obtain⟨i,j,rfl,q⟩:=h;obtain⟨u,w',rfl,⟨t,rfl⟩,⟨t',rfl⟩⟩:=vals2 r;refine min_two_ints (I.ok.hd hc) λh' tk k=>⟨_,H,I.kept k,?_,q⟩
 by_cases hj:j<i
 .rw[if_pos hj,if_pos hj];exact⟨_,rfl⟩
 .rw[if_neg hj,if_neg hj];exact⟨_,rfl⟩
end
structure mP(h:Heap)(x dx C:Addr)(mA:Str->Option Ae):Prop where
 obj:h.get? x=some (Gm C dx)
 ns:h.Ns1 dx mA
 ne:dx≠x
theorem Q0{h:Heap}{dx:Addr}{mA:Str->Option Ae}(n:h.Ns1 dx mA):∃od,h.get? dx=some od/\∀name,Mp name od=some (mA name):=by
 obtain⟨o,es,ep,ho,hd,hk,_,hm⟩:=n;refine⟨o,ho,λname=>?_⟩;have e:=hm name;unfold nsFind findBy at e;rw[<-Array.find?_toList]at e;unfold Mp;rw[hd];dsimp only;split
 .rename_i y q;rw[q]at e;exact congrArg some e
 .rename_i q;rw[q]at e;have a:es.toList.any (·.refKey)=false:=by
   rw[List.any_eq_false];intro y hy;obtain⟨z,t,hkey⟩:=hk y (Array.mem_toList_iff.mp hy);simp[DictEntry.refKey,hkey]
  have a':¬es.toList.any (·.refKey)=true:=by rw[a];exact Av
  rw[if_neg a'];exact congrArg some e
theorem mP.look{h:Heap}{x dx C:Addr}{mA:Str->Option Ae}(I:mP h x dx C mA):∃od,PySem.W.InstAt h x (Gm C dx) C (some od)/\∀name,Mp name od=some (mA name):=
 let ⟨od,ho,hl⟩:=Q0 I.ns
 ⟨od,⟨I.obj,rfl,rfl,ho⟩,hl⟩
section
variable {prog:Ca}{w:Ct}{A:Dg}{E:Ae->Aj->Prop}{s:Aj}{K:Ab}{x dx C f:Addr}{mA:Str->Option Ae}{name:Str}{v:Ae}
theorem Q1{expr:Bool}{Q:Ae->Aj->Prop}(X:K.In s.heap)(I:mP s.heap x dx C mA)(hg:Li K C name=true)(hh:PySem.W.hasDictIn K C=true)(ha:Cd K (.ref C) name=some none)(hv:mA name=some v)(hv':PySem.W.handedIn v=true)(h:Q v {s with toks:=s.toks+1}):
  Bo (Bw prog w) A (getAttr (.ref x) name expr) Q E s:=by
 obtain⟨od,J,hl⟩:=I.look;exact PySem.W.get_value X J (Mv hg).1 (PySem.W.findObj_own hh ha rfl (by rw[hl,hv])) hv' h
theorem Q2{pl:Sem Bool}{Q:Ae×List Ae->Aj->Prop}(X:K.In s.heap)(I:mP s.heap x dx C mA)(hg:Li K C name=true)(hf:Cd K (.ref C) name=some (some (.ref f)))(ht:Lv K (.ref f)=true)(hv:mA name=none)(h:Q (.ref f,[.ref x]) s):
  Bo (Bw prog w) A (Nm (.ref x) name pl) Q E s:=by
 obtain⟨od,J,hl⟩:=I.look;exact PySem.W.method_fn X J (Mv hg).1 (Mv hg).2 hf (beq_iff_eq.mp ht) (by show(Mp name od).map (·.isSome)=some false;rw[hl,hv];rfl) h
theorem Q3{ns:List Str}{Q:Unit->Aj->Prop}(X:K.In s.heap)(I:mP s.heap x dx C mA)(hs:Cd K (.ref C) "__setattr__" = some (some (.builtin "object.__setattr__")))(hp:PySem.W.plainOver K C=true)(ht:PySem.W.takerIn K C name=some none)(hh:PySem.W.hasDictIn K C=true)(hw:PySem.Within mA ns)(hsz:ns.length<=Ap)(h:∀h',mP h' x dx C (λy=>if y=name then some v else mA y)->Ez dx s.heap h'->Q () {s with heap:=h',toks:=s.toks+2}):
  Bo (Bw prog w) A (setAttr (.ref x) name v) Q E s:=by
 obtain⟨od,J,hl⟩:=I.look;refine PySem.W.set_plain X J hs (PySem.W.osa_open (s:={s with toks:=s.toks+1}) (r:=none) X J hp ht λb=>?_);obtain⟨cd,hc,hd'⟩:=PySem.W.any_some hh;have hx:s.heap.get? x=some ⟨.ref C,some dx,.plain,#[]⟩:=I.obj;refine Ac (Ao (Ac (Ac (wpAny_loadPart hx (Ac (PySem.W.Looks.here (s:={s with toks:=s.toks+1}) (PySem.W.looks_clsIn X hc) ?_))))));rw[hd'];refine Ao (a:=some dx) (Ac (Ao (Ac ?_)));refine wpAny_nsSet1 (s:={s with toks:=s.toks+1}) I.ns λh' hn2 hs2=>?_;obtain⟨oD,esD,epD,hoD,hdD,hcD⟩:=hn2.count (PySem.Within.cons name v hw);refine Ac (wpAny_lookBehind hoD (by rw[hdD];exact pastItsLine_dict (Ah hcD (by rw[Az];lia))) ?_);exact Ao (h _ ⟨(hs2.2 _ (Co I.ne)).trans I.obj,hn2,I.ne⟩ hs2)
theorem Q4{R:Result->Aj->Prop}{vs:List Ae}{kw:List (Str×Ae)}(X:K.In s.heap)(hm:PySem.W.makesIn K C=true)(hi:Cd K (.ref C) "__init__" = some (some (.ref f)))(hf:PySem.W.typeIn K (.ref f)=some (.type "function"))(h:Mi (Bw prog w) (A.under (.builtin "type.__call__" ⟨.ref C::vs,kw⟩)) (.call (.ref f) ⟨.ref (s.heap.objs.size+1)::vs,kw⟩) (PySem.W.InitBack (s.heap.objs.size+1) R)
   {s with heap:=(s.heap.push Fh).push (Gm C s.heap.objs.size)}):
  Mi (Bw prog w) A (.call (.ref C) ⟨vs,kw⟩) R s:=by
 obtain⟨hh,g,d,t,os⟩:=s;exact PySem.W.make_core (PySem.W.makes_of X hm) (PySem.W.looks_findIn X hi) (λself=>PySem.W.bind_fn X self hf) (.inl rfl) h
end
def putF(f:Str)(v:V):List (Str×V)->List (Str×V)
 | []=>[(f,v)]
 | (g,x)::r=>if g=f then(g,v)::r else(g,x)::putF f v r
theorem DT(f g:Str)(v:V):∀fs:List (Str×V),(putF f v fs).lookup g=if g=f then some v else fs.lookup g
 | []=>by
  show Bu g [(f,v)]=_
  by_cases h:g=f
  .have hb:(g==f)=true:=beq_iff_eq.mpr h;simp only[Bu,hb,if_pos h]
  .have hb:(g==f)=false:=beq_eq_false_iff_ne.mpr h;simp only[Bu,hb,if_neg h]
 | (k,x)::r=>by
  have ih:=DT f g v r;rw[show putF f v ((k,x)::r)=(if k=f then(k,v)::r else(k,x)::putF f v r) from rfl]
  by_cases hk:k=f
  .rw[if_pos hk]
   by_cases h:g=k
   .have hb:(g==k)=true:=beq_iff_eq.mpr h;simp only[Bu,hb,if_pos (h.trans hk)]
   .have hb:(g==k)=false:=beq_eq_false_iff_ne.mpr h;simp only[Bu,hb,if_neg (λe:g=f=>h (e.trans hk.symm))]
  .rw[if_neg hk]
   by_cases h:g=k
   .have hb:(g==k)=true:=beq_iff_eq.mpr h;simp only[Bu,hb,if_neg (λe:g=f=>hk (h.symm.trans e))]
   .have hb:(g==k)=false:=beq_eq_false_iff_ne.mpr h;simp only[Bu,hb];exact ih
theorem vP(f:Str)(v:V):∀fs:List (Str×V),f∈(putF f v fs).map (·.1)/\∀g,g∈fs.map (·.1)->g∈(putF f v fs).map (·.1)
 | []=>⟨by simp[putF],λg h=>by simp at h⟩
 | (k,x)::r=>by
  obtain⟨i1,i2⟩:=vP f v r;rw[show putF f v ((k,x)::r)=(if k=f then(k,v)::r else(k,x)::putF f v r) from rfl]
  by_cases hk:k=f
  .rw[if_pos hk];subst hk;exact⟨by simp,λg h=>by simpa using h⟩
  .rw[if_neg hk];refine⟨?_,λg h=>?_⟩
   .rw[Ay];exact Af _ i1
   .rw[Ay]at h⊢;rcases Bj.mp h with e|e
    .exact Bj.mpr (.inl e)
    .exact Af _ (i2 g e)
theorem DU(f:Str)(v:V):∀fs:List (Str×V),(putF f v fs).length<=fs.length+1
 | []=>by simp[putF]
 | (k,x)::r=>by
  have ih:=DU f v r;rw[show putF f v ((k,x)::r)=(if k=f then(k,v)::r else(k,x)::putF f v r) from rfl]
  by_cases hk:k=f
  .rw[if_pos hk,Az,Az];lia
  .rw[if_neg hk,Az,Az];lia
theorem fV.some_of{v:V}{o:Option Ae}(r:fV (some v) o):∃u,o=some u/\RelV v u:=by
 cases o with
 | none=>exact(show False from r).elim
 | some u=>exact⟨u,rfl,r⟩
theorem fV.none_of{o:Option Ae}(r:fV none o):o=none:=by
 cases o with
 | none=>rfl
 | some u=>exact(show False from r).elim
theorem Q5{v:V}{u:Ae}(r:RelV v u):PySem.W.handedIn u=true:=by
 cases v with
 | non=>cases (show u=Value.none from r);rfl
 | bl b=>cases (show u=Value.bool b from r);rfl
 | int i=>obtain⟨t,e⟩:=(show ∃t,u=Value.int i t from r);cases e;rfl
 | str x=>obtain⟨t,e⟩:=(show ∃t,u=Value.str x t from r);cases e;rfl
 | byt b=>obtain⟨t,e⟩:=(show ∃t,u=Value.bytes b t from r);cases e;rfl
 | flt b=>obtain⟨t,e⟩:=(show ∃t,u=Value.float b t from r);cases e;rfl
 | ref a=>cases (show u=Value.ref a from r);rfl
 | ty n=>cases (show u=Value.type n from r);rfl
section
variable {P:Ca}{w:Ct}{H H':Hp}{h h':Heap}{a C dx:Addr}{fs fs':List (Str×V)}
theorem rX(hok:cI P w H h)(e:H a=some (.ins C dx fs)):∃mA,mP h a dx C mA/\(∀f,fV (fs.lookup f) (mA f))/\PySem.Within mA (fs.map (·.1))/\fs.length<=1000/\H dx=some (.own a):=by
 obtain⟨d,z,ne,ob,mA,n,r,q⟩:=(show b8 P w H h a (.ins C dx fs) from hok a _ e);exact⟨mA,⟨ob,n,ne⟩,r,q,z,d⟩
end
structure gH(K:Ab)(C:Addr):Prop where
 pg:Li K C Str.empty=true
 hd:PySem.W.hasDictIn K C=true
 po:PySem.W.plainOver K C=true
 sa:Cd K (.ref C) "__setattr__" = some (some (.builtin "object.__setattr__"))
theorem gH.get{K:Ab}{C:Addr}(c:gH K C)(f:Str):Li K C f=true:=c.pg
def eQ(K:Ab)(C:Addr)(f:Str):Prop:=Cd K (.ref C) f=some none
theorem eQ.taker{K:Ab}{C:Addr}{f:Str}(n:eQ K C f):PySem.W.takerIn K C f=some none:=by
 unfold PySem.W.takerIn;rw[show Cd K (.ref C) f=some none from n];rfl
structure nX(K:Ab)(C:Addr)(m:Str)(f:Addr):Prop where
 at_:Cd K (.ref C) m=some (some (.ref f))
 fn:Lv K (.ref f)=true
 kp:Fs K (.ref f)=true
section
variable {X:Cx}{pins:List (Addr×Obj)}{Z:St}{H:Hp}{s:Aj}{a C dx:Addr}{fs:List (Str×V)}{f:Str}{v:V}{A:Dg}{E:Ae->Aj->Prop}
theorem Q6{b:Bool}{Q:Ae->Aj->Prop}(I:Inv X pins Z H s)(e:H a=some (.ins C dx fs))(c:gH X.K C)(n:eQ X.K C f)(l:fs.lookup f=some v)(h:∀u s',Inv X pins Z H s'->RelV v u->Q u s'):Bo (Bw X.prog X.w) A (getAttr (.ref a) f b) Q E s:=by
 obtain⟨mA,O,r,_,_,_⟩:=rX I.hok e;obtain⟨u,hu,ru⟩:=fV.some_of (v:=v) (o:=mA f) (by rw[<-l];exact r f);exact Q1 I.kIn O (c.get f) c.hd n hu (Q5 ru) (h u _ (I.tok _) ru)
theorem DV{m:Str}{g:Addr}{pl:Sem Bool}{Q:Ae×List Ae->Aj->Prop}(I:Inv X pins Z H s)(e:H a=some (.ins C dx fs))(c:gH X.K C)(k:nX X.K C m g)(l:fs.lookup m=none)(h:Q (.ref g,[.ref a]) s):Bo (Bw X.prog X.w) A (Nm (.ref a) m pl) Q E s:=by
 obtain⟨mA,O,r,_,_,_⟩:=rX I.hok e;have hn:mA m=none:=fV.none_of (by rw[<-l];exact r m);exact Q2 I.kIn O (c.get m) k.at_ k.fn hn h
theorem Q7{y:V}{u:Ae}{Q:Unit->Aj->Prop}(I:Inv X pins Z H s)(e:H a=some (.ins C dx fs))(c:gH X.K C)(n:eQ X.K C f)(hl:fs.length<1000)(ry:RelV y u)(h:∀s',Inv X pins Z (aQ H a (.ins C dx (putF f y fs))) s'->Q () s'):Bo (Bw X.prog X.w) A (setAttr (.ref a) f u) Q E s:=by
 obtain⟨mA,O,r,wi,_,ho⟩:=rX I.hok e;have hz:(fs.map (·.1)).length<=Ap:=by rw[Aa,Mg];lia
 refine Q3 I.kIn O c.sa c.po n.taker c.hd wi hz λh' O' sb=>h _ ?_;have hd:∃o,h'.get? dx=some o:=let ⟨o,_,_,e',_⟩:=O'.ns;⟨o,e'⟩;refine I.write (x:=a) (e:=dx) (by rw[e];exact True.intro) (.inr ho) (λb q hb z=>(sb.2 b hb).trans z) hd ?_;refine⟨by rw[bI O.ne];exact ho,?_,O.ne,O'.obj,_,O'.ns,λg=>?_,λg hg=>?_⟩
 .have:=DU f y fs;lia
 .show fV ((putF f y fs).lookup g) (if g=f then some u else mA g);rw[DT]
  by_cases q:g=f
  .rw[if_pos q,if_pos q];exact ry
  .rw[if_neg q,if_neg q];exact r g
 .by_cases q:g=f
  .rw[q];exact(vP f y fs).1
  .refine(vP f y fs).2 g (wi g λz=>hg ?_);show(if g=f then some u else mA g)=none;rw[if_neg q];exact z
theorem Inv.made(I:Inv X pins Z H s):Inv X pins Z (aQ (aQ H s.heap.objs.size (.own (s.heap.objs.size+1))) (s.heap.objs.size+1) (.ins C s.heap.objs.size []))
  {s with heap:=(s.heap.push Fh).push (Gm C s.heap.objs.size)}:=by
 have e1:(s.heap.push Fh).get? s.heap.objs.size=some Fh:=Be s.heap rfl;have e2:((s.heap.push Fh).push (Gm C s.heap.objs.size)).get? (s.heap.objs.size+1)=some (Gm C s.heap.objs.size):=by
  have:=Be (s.heap.push Fh) (o:=Gm C s.heap.objs.size) rfl;rwa [Er]at this
 have e3:(s.heap.push Fh).Ns s.heap.objs.size (λ_=>none):=⟨Fh,#[],_,e1,rfl,(λe he=>absurd he (by simp)),λ_=>rfl⟩;have I1:=I.laid (a:=s.heap.objs.size) (o:=.own (s.heap.objs.size+1)) (h':=s.heap.push Fh) (t':=s.toks) (λb u q=>Am _ q) (Ag _) ⟨_,e1⟩;refine I1.laid (a:=s.heap.objs.size+1) (o:=.ins C s.heap.objs.size []) (t':=s.toks) (λb u q=>Am _ q) (Fv (Er _ _)) ?_;have ne:s.heap.objs.size≠s.heap.objs.size+1:=Bs (Hd _);refine⟨by rw[bI ne,cU],Bf _,ne,e2,λ_=>none,(Heap.Ns1.of_empty e3).at λo q=>Am _ q,λ_=>True.intro,λy hy=>absurd rfl hy⟩
theorem Q8{prog:Ca}{w:Ct}{env:Env}{e:Expr}{f:Str}{pos:Pos}{s:Aj}{Q:Ae->Aj->Prop}(hb:Ia e f env (eval e env)=eval e env)(h:Bo (Bw prog w) A (eval e env) (λo s1=>Bo (Bw prog w) A (getAttr o f true) Q E s1) E s):Bo (Bw prog w) A (eval (.Attribute e f pos) env) Q E s:=
 Attribute_any_ h (by rw[arm_eval_Attribute,hb])
end
def Q9(K:Ab)(ta:TE)(f:Str):TE:=λZ H Q=>ta Z H λx H1=>∃a C dx fs v,x=.ref a/\H1 a=some (.ins C dx fs)/\gH K C/\eQ K C f/\fs.lookup f=some v/\Q v H1
def RA(K:Ab)(ta tv:TE)(f:Str):TS:=λD Z H=>tv Z H λy H1=>ta Z H1 λx H2=>∃a C dx fs,x=.ref a/\H2 a=some (.ins C dx fs)/\gH K C/\eQ K C f/\fs.length<1000/\
 D.nx Z (aQ H2 a (.ins C dx (putF f y fs)))
section
variable {X:Cx}{o e value:Expr}{f:Str}{pos pos' tpos:Pos}{ta tv:TE}
theorem RB(he:PE X e ta)(hb:Ia e f X.env (eval e X.env)=eval e X.env):PE X (.Attribute e f pos) (Q9 X.K ta f):=by
 intro pins s Z H Q I h;refine Q8 hb (a8 (he pins s Z H _ I h) λu s1 ⟨x,H1,I1,rx,a,C,dx,fs,v,ex,ea,c,n,l,q⟩=>?_);subst ex;obtain rfl:u=Value.ref a:=rx;exact Q6 I1 ea c n l λu' s2 I2 ru=>⟨v,H1,I2,ru,q⟩
theorem RC(ha:PE X o ta)(hv:PE X value tv)(hs:Jt value (some (.Attribute o f pos')) pos.line X.env=pure false):PS X (.Assign [.Attribute o f pos'] value pos) (RA X.K ta tv f):=by
 intro pins s Z H D I h;refine plainObj_wpAny_Assign_Attribute (a8 (hv pins s Z H _ I h) λu s1 ⟨y,H1,I1,ry,q⟩=>a8 (ha pins s1 Z H1 _ I1 q) λov s2 ⟨x,H2,I2,rx,a,C,dx,fs,ex,ea,c,n,l,q2⟩=>?_) hs;subst ex;obtain rfl:ov=Value.ref a:=rx;exact Q7 I2 ea c n l ry λs3 I3=>⟨Z,_,I3,q2⟩
end
section
variable {X:Cx}{pins:List (Addr×Obj)}{Z:St}{H:Hp}{s:Aj}{A:Dg}{E:Ae->Aj->Prop}{Q:Ae->Aj->Prop}{c:Ae}{b:Bool}
inductive iG(K:Ab)(H:Hp):V->Ae->Prop where
 | non:iG K H .non (.type "NoneType")
 | bl (x:Bool):iG K H (.bl x) (.type "bool")
 | int (i:Int):iG K H (.int i) (.type "int")
 | str (x:Str):iG K H (.str x) (.type "str")
 | flt (x:UInt64):iG K H (.flt x) (.type "float")
 | lst {a:Addr} {xs:List V} (e:H a=some (.lst xs)):iG K H (.ref a) (.type "list")
 | frz {a:Addr} {o:Obj} {xs:List V} (e:H a=some (.frz o (.lst xs))):iG K H (.ref a) (.type "list")
 | tup {a:Addr} {xs:List V} (e:H a=some (.tup xs)):iG K H (.ref a) (.type "tuple")
 | dK {a:Addr} {kvs:List (aC×V)} (e:H a=some (.dK kvs)):iG K H (.ref a) (.type "dict")
 | dT {a:Addr} {kvs:List (List aC×V)} (e:H a=some (.dT kvs)):iG K H (.ref a) (.type "dict")
 | ins {a C dx:Addr} {fs:List (Str×V)} (e:H a=some (.ins C dx fs)) (cl:gH K C) (ha:Cd K (.ref C) "__class__" = some (some (.builtin "object.__class__")))
   (hn:PySem.W.specialIn K (.builtin "object.__class__") "__get__" = some (some (.builtin "getset_descriptor.__get__"))) (htk:PySem.W.takesIn K (.builtin "object.__class__")=some true)
   (hm:PySem.W.mroIn K C (.type "object")=some true):iG K H (.ref a) (.ref C)
theorem RD{x:V}{u t:Ae}(I:Inv X pins Z H s)(rx:RelV x u)(ty:iG X.K H x t)(e:Jh X.K t c=some b)(h:∀tk,Q (.bool b) {s with toks:=tk}):
  Bo (Bw X.prog X.w) A (call (.builtin "isinstance") [u,c]) Q E s:=by
 cases ty with
 | non=>cases (show u=Value.none from rx);exact Eo PySem.W.kitx_none I.kIn True.intro e (λz=>nomatch z) h
 | bl y=>cases (show u=Value.bool y from rx);exact Eo PySem.W.kitx_bool I.kIn True.intro e (λz=>nomatch z) h
 | int i=>obtain⟨t,q⟩:=(show ∃t,u=Value.int i t from rx);cases q;exact Eo PySem.W.kitx_int I.kIn True.intro e (λz=>nomatch z) h
 | str y=>obtain⟨t,q⟩:=(show ∃t,u=Value.str y t from rx);cases q;exact Eo PySem.W.kitx_str I.kIn True.intro e (λz=>nomatch z) h
 | flt y=>obtain⟨t,q⟩:=(show ∃t,u=Value.float y t from rx);cases q;exact Eo PySem.W.kitx_float I.kIn True.intro e (λz=>nomatch z) h
 | @lst a xs ea=>
  cases (show u=Value.ref a from rx);obtain⟨_,_,n,_,h1⟩:=(show b8 X.prog X.w H s.heap a (.lst xs) from I.hok a _ ea);exact Eo PySem.W.kitx_list I.kIn ⟨_,h1,rfl⟩ e (λz=>nomatch z) h
 | @frz a ob xs ea=>
  cases (show u=Value.ref a from rx);obtain⟨_,_,_,n,_,h1⟩:=(show b8 X.prog X.w H s.heap a (.frz ob (.lst xs)) from I.hok a _ ea);exact Eo PySem.W.kitx_list I.kIn ⟨_,h1,rfl⟩ e (λz=>nomatch z) h
 | @tup a xs ea=>
  cases (show u=Value.ref a from rx);obtain⟨_,_,_,p⟩:=(show b8 X.prog X.w H s.heap a (.tup xs) from I.hok a _ ea);obtain⟨o,h1,h2,_⟩:=p;exact Eo PySem.W.kitx_tuple I.kIn ⟨o,h1,h2⟩ e (λz=>nomatch z) h
 | @dK a kvs ea=>
  cases (show u=Value.ref a from rx);obtain⟨_,_,vs,_,p⟩:=(show b8 X.prog X.w H s.heap a (.dK kvs) from I.hok a _ ea);obtain⟨o,es,ep,h1,h2,_⟩:=p;exact Eo PySem.W.kitx_dict I.kIn ⟨o,h1,h2.1⟩ e (λz=>nomatch z) h
 | @dT a kvs ea=>
  cases (show u=Value.ref a from rx);obtain⟨_,_,xs,_,o,es,ep,h1,h2,_⟩:=(show b8 X.prog X.w H s.heap a (.dT kvs) from I.hok a _ ea);exact Eo PySem.W.kitx_dict I.kIn ⟨o,h1,h2.1⟩ e (λz=>nomatch z) h
 | @ins a C dx fs ea cl ha hn htk hm=>
  cases (show u=Value.ref a from rx);obtain⟨mA,O,_⟩:=rX I.hok ea;obtain⟨od,J,_⟩:=O.look;exact Eo (PySem.W.kitx_own (cl.get _) cl.hd ha hn htk hm) I.kIn J e (λz=>nomatch z) h
end
structure cN(k:Nat)(A:Dg):Prop where
 hd:A.handled=none
 dp:A.depth+3*k+5<recursionLimit
 un:A.units+16*k+200<Fo
theorem cN.mono{j k:Nat}{A:Dg}(r:cN k A)(h:j<=k):cN j A:=⟨r.hd,by have:=r.dp;lia,by have:=r.un;lia⟩
theorem cN.deeper{k:Nat}{A:Dg}(r:cN (k+1) A)(env:Env):cN k (A.deeper env):=
 ⟨r.hd,by have:=r.dp;show A.depth+1+3*k+5<_;lia,by have:=r.un;show A.units+3+16*k+200<_;lia⟩
theorem RE{A:Dg}{C:Addr}{us:List Ae}{kw:List (Str×Ae)}:(A.under (.builtin "type.__call__" ⟨.ref C::us,kw⟩)).depth=A.depth+1:=by
 first|rfl|simp[Around.under,Code.weight,Code.isCreation,Code.isGuard,Code.isCaller,Code.frames,Code.isFrame,guardIds]
theorem RF{A:Dg}{C:Addr}{us:List Ae}{kw:List (Str×Ae)}:(A.under (.builtin "type.__call__" ⟨.ref C::us,kw⟩)).units=A.units+1:=by
 first|rfl|simp[Around.under,Code.cUnits,Code.frames,Code.isFrame]
theorem cN.make{k:Nat}{A:Dg}(r:cN (k+1) A)(C:Addr)(us:List Ae)(kw:List (Str×Ae)):cN k (A.under (.builtin "type.__call__" ⟨.ref C::us,kw⟩)):=
 ⟨r.hd,by have:=r.dp;rw[RE];lia,by have:=r.un;rw[RF];lia⟩
theorem cN.depth{k:Nat}{A:Dg}(r:cN k A):A.depth<recursionLimit:=by have:=r.dp;lia
theorem cN.units{k:Nat}{A:Dg}(r:cN k A):A.units+64<Fo:=by have:=r.un;lia
def vQ:TA:=λ_ H Q=>Q [] H
def RG(ta:TE)(tr:TA):TA:=λZ H Q=>ta Z H λx H1=>tr Z H1 λxs H2=>Q (x::xs) H2
section
variable {X:Cx}{e:Expr}{es:List Expr}{te:TE}{t:TA}{pos:Pos}
theorem RH:PA X [] vQ:=λ_ _ _ _ H Q I h=>Calls.spliced_nil ⟨[],H,I,.nil,h⟩
theorem RI(ha:PE X e te)(hr:PA X es t)(hs:Br (e::es) X.env=(false,eval e X.env)::Br es X.env:=by rfl):PA X (e::es) (RG te t):=by
 intro pos pins s Z H Q I h;rw[hs];show Bo _ _ (spliced ((false,eval e X.env)::Hk pos (Br es X.env))) _ _ s;refine Calls.spliced_cons (a8 (ha pins s Z H _ I h) λu s1 ⟨x,H1,I1,r1,q1⟩=>?_);exact a8 (hr pos pins s1 Z H1 _ I1 q1) λus s2 ⟨xs,H2,I2,r2,q2⟩=>⟨x::xs,H2,I2,.cons r1 r2,q2⟩
def RJ(t:TA):TE:=λZ H Q=>t Z H λxs H1=>xs.length<=Ap/\∀p,H1 p=none->Q (.ref p) (aQ H1 p (.tup xs))
def RK(t:TA):TE:=λZ H Q=>t Z H λxs H1=>xs.length<=Ap/\∀p,H1 p=none->Q (.ref p) (aQ H1 p (.lst xs))
theorem RL{x1}(h:PA X es t):PE X (.Tuple es x1 pos) (RJ t):=by
 intro pins s Z H Q I hq;refine wpAny_Tuple_spliced (a8 (h pos pins s Z H _ I hq) λus s1 ⟨xs,H1,I1,r,z,q⟩=>⟨by rw[<-r.length];exact z,?_⟩);have hf:H1 s1.heap.objs.size=none:=I1.hok.fresh (Ag _);refine⟨.ref s1.heap.objs.size,aQ H1 s1.heap.objs.size (.tup xs),I1.laid (t':=s1.toks) (λb u e=>Am _ e) (Ag _) ?_,rfl,q _ hf⟩;exact⟨z,us,r,⟨_,Be _ rfl,rfl,_,rfl⟩⟩
theorem DW(h:PA X es t):PE X (.List es pos) (RK t):=by
 intro pins s Z H Q I hq;refine wpAny_List_spliced (a8 (h pos pins s Z H _ I hq) λus s1 ⟨xs,H1,I1,r,z,q⟩=>⟨by rw[<-r.length];exact z,?_⟩);have hf:H1 s1.heap.objs.size=none:=I1.hok.fresh (Ag _);refine⟨.ref s1.heap.objs.size,aQ H1 s1.heap.objs.size (.lst xs),I1.laid (t':=s1.toks) (λb u e=>Am _ e) (Ag _) ?_,rfl,q _ hf⟩;exact⟨z,us,0,r,Be _ rfl⟩
end
abbrev Sp:=List V->Hp->VK->XK->Prop
abbrev j9:=List Env->Hp->Aj->XK->Ae->Aj->Prop
structure mQ(P:Ca)(w:Ct)(K:Ab)(mg:Str->Option Ae)(base:Heap)(A:Dg)(outer:List Env)(s:Aj)(H:Hp):Prop where
 frames:A.frames=some outer
 mod:Mod K mg base
 bs:∀b o,base.get? b=some o->s.heap.get? b=some o/\H b=none
 bsz:base.objs.size<=s.heap.objs.size
 funs:s.heap.FunFrames base outer
 frf:∀b∈iF outer,H b=none
 hok:cI P w H s.heap
 bare:Na s.gens
def CE(outer:List Env)(P:Ca)(w:Ct)(H:Hp)(s:Aj)(Q:VK)(u:Ae)(s':Aj):Prop:=
 ∃v H',s'.os=s.os/\Na s'.gens/\Un (iF outer) [] H H' s.heap s'.heap/\cI P w H' s'.heap/\RelV v u/\Q v H'
def CR(CX:j9)(outer:List Env)(P:Ca)(w:Ct)(H:Hp)(s:Aj)(Q:VK)(E:XK)(r:Result)(s':Aj):Prop:=
 match r with
 | .ok (.ret u)=>CE outer P w H s Q u s'
 | .ok _=>False
 | .error e=>CX outer H s E e s'
structure eR(P:Ca)(w:Ct)(K:Ab)(mg:Str->Option Ae)(base:Heap)(CX:j9)(k:Nat)(f:Addr)(fd:Bv)(ps:List Str)(sp:Sp):Prop where
 len:∀vs H Q E,sp vs H Q E->vs.length=ps.length
 run:∀(A:Dg) (outer:List Env) (s:Aj) (H:Hp) (args:Args) (us:List Ae) (vs:List V) (Q:VK) (E:XK),cN k A->mQ P w K mg base A outer s H->BindsTo s fd args (ps.zip us)->aW vs us->sp vs H Q E->
  Mi (Bw P w) A (.call (.ref f) args) (CR CX outer P w H s Q E) s
theorem mQ.make{P:Ca}{w:Ct}{K:Ab}{mg:Str->Option Ae}{base:Heap}{A:Dg}{outer:List Env}{s:Aj}{H:Hp}(e:mQ P w K mg base A outer s H)(C:Addr)(us:List Ae)(kw:List (Str×Ae)):
  mQ P w K mg base (A.under (.builtin "type.__call__" ⟨.ref C::us,kw⟩)) outer s H:=⟨by first|exact e.frames|(simpa [Around.under,Code.envs,Code.isFrame,pushEnvs] using e.frames),e.mod,e.bs,e.bsz,e.funs,e.frf,e.hok,e.bare⟩
section
variable {X:Cx}{pins:List (Addr×Obj)}{Z:St}{H:Hp}{s s':Aj}
theorem Inv.env0(I:Inv X pins Z H s):mQ X.prog X.w X.K X.mg X.base X.A X.stack s H:=
 ⟨I.ok.frames,I.ok.mod,I.bs,Ah I.ok.bsz I.sz,I.stack,I.stkFree,I.hok,I.bare⟩
theorem Inv.after{Q:VK}{u:Ae}(I:Inv X pins Z H s)(h:CE X.stack X.prog X.w H s Q u s'):EP X pins Z Q u s':=by
 obtain⟨v,H',os,bare,un,hok,r,q⟩:=h;obtain⟨hh,g,d,t,os'⟩:=s';obtain rfl:os'=s.os:=os;exact⟨v,H',I.call (h':=hh) (g':=g) (d':=d) (t':=t) (ch:=[]) un hok bare (λb z=>absurd z (by simp)),r,q⟩
end
def DX(sp:Sp)(dvs:List V)(E:XK)(t:TA):TE:=λZ H Q=>t Z H λvs H1=>sp (vs++dvs) H1 Q E
def vR(C:Addr)(m:Str)(sp:Sp)(dvs:List V)(E:XK)(ta:TE)(t:TA):TE:=λZ H Q=>ta Z H λx H1=>∃a dx fs,x=.ref a/\H1 a=some (.ins C dx fs)/\fs.lookup m=none/\
 t Z H1 λvs H2=>sp (x::(vs++dvs)) H2 Q E
def DY(C:Addr)(sp:Sp)(dvs:List V)(E:XK)(t:TA):TE:=λZ H Q=>t Z H λvs H1=>∀x dx,H1 x=none->H1 dx=none->dx≠x->
 sp (.ref x::(vs++dvs)) (aQ (aQ H1 dx (.own x)) x (.ins C dx [])) (λv H2=>v=.non/\Q (.ref x) H2) E
def Binds(K:Ab)(fd:Bv)(ps:List Str)(ds:List Ae):Prop:=
 ∀(s:Aj) (us:List Ae),K.In s.heap->(us++ds).length=ps.length->BindsTo s fd ⟨us,[]⟩ (ps.zip (us++ds))
theorem Binds.all{K:Ab}{fd:Bv}{ps:List Str}(h:∀us:List Ae,us.length=ps.length->bindArgs fd ⟨us,[]⟩=pure (ps.zip us)):Binds K fd ps []:=λs us _ hl=>by
 rw[Cf]at hl⊢;exact .of_eq (h us hl)
def lN(CX:j9)(X:Cx)(E:XK):Prop:=∀(pins:List (Addr×Obj)) (Z:St) (H:Hp) (s:Aj) (e:Ae) (s':Aj),Inv X pins Z H s->CX X.stack H s E e s'->X.xe e s'
section
variable {X:Cx}{CX:j9}{k:Nat}{f C:Addr}{fd:Bv}{ps:List Str}{sp:Sp}{dvs:List V}{ds:List Ae}{E:XK}{x m:Str}{p pos apos:Pos}{e o:Expr}{es:List Expr}{ta:TE}{t:TA}
theorem vS{pins:List (Addr×Obj)}{Z:St}{H:Hp}{s:Aj}{Q:VK}{us:List Ae}{vs:List V}(F:eR X.prog X.w X.K X.mg X.base CX k f fd ps sp)(hr:cN k X.A)(hb:Binds X.K fd ps ds)(hd:aW dvs ds)(hx:lN CX X E)(I:Inv X pins Z H s)(r:aW vs us)(h:sp (vs++dvs) H Q E):Bo (Bw X.prog X.w) X.A (call (.ref f) us) (EP X pins Z Q) X.xe s:=by
 have r2:aW (vs++dvs) (us++ds):=r.append hd;have hl:(us++ds).length=ps.length:=by rw[<-r2.length];exact F.len _ _ _ _ h
 refine wpAny_call (codeAny_mono (F.run X.A X.stack s H ⟨us,[]⟩ (us++ds) (vs++dvs) Q E hr I.env0 (hb s us I.kIn hl) r2 h) λr s' hq=>?_);cases r with
 | error e=>exact hx pins Z H s e s' I hq
 | ok fl=>
  cases fl with
  | ret u=>exact I.after hq
  | next=>exact Ge hq
  | brk=>exact Ge hq
  | cont=>exact Ge hq
theorem RM(F:eR X.prog X.w X.K X.mg X.base CX k f fd ps sp)(hr:cN k X.A)(hg:Gl X x)(hm:X.mg x=some (.ref f))(hk:Fs X.K (.ref f)=true)(hb:Binds X.K fd ps ds)(hd:aW dvs ds)(hx:lN CX X E)(ha:PA X (e::es) t)(hdb:(x==("__debug__" : Str))=false:=by decide)(he:Br (e::es) X.env=(false,eval e X.env)::Br es X.env:=by rfl)(hpl:(Hk pos (Br es X.env)).any (·.1)=false:=by rfl):
  PE X (.Call (.Name x p) (e::es) [] pos) (DX sp dvs E t):=by
 intro pins s Z H Q I h;refine Gq (vK I hg hm ?_ hdb);refine PySem.W.callWith_K (h₀:=X.base) I.ok.mod.kin hk (a8 (ha pos pins s Z H _ I h) λus s1 ⟨vs,H1,I1,r,q⟩=>⟨I1.kIn,?_⟩) he hpl;exact vS F hr hb hd hx I1 r q
theorem RN{pl:Sem Bool}(he:PE X o ta)(c:gH X.K C)(hm:nX X.K C m f)(F:eR X.prog X.w X.K X.mg X.base CX k f fd ps sp)(hr:cN k X.A)(hb:Binds X.K fd ps ds)(hd:aW dvs ds)(hx:lN CX X E)(ha:PA X (e::es) t)(hst:Br (e::es) X.env=(false,eval e X.env)::Br es X.env:=by rfl)(hpl:(Hk pos (Br es X.env)).any (·.1)=false:=by rfl)(ht:eval (.Call (.Attribute o m apos) (e::es) [] pos) X.env=(do
   let ov <-eval o X.env
   Nl apos.atName
   let (f,first) <-Jn [ov] (Nm ov m pl)
   callWith pos f first (Hk pos (Br (e::es) X.env)) (backToKw pos (Mh [] X.env))):=by rfl):
  PE X (.Call (.Attribute o m apos) (e::es) [] pos) (vR C m sp dvs E ta t):=by
 intro pins s Z H Q I h;refine PySem.W.methodCall_KW (pl:=pl) (a8 (he pins s Z H _ I h) λu s1 ⟨x,H1,I1,rx,a,dx,fs,ex,ea,l,q⟩=>?_) ht;subst ex;obtain rfl:u=Value.ref a:=rx;refine DV I1 ea c hm l ?_;refine PySem.W.callWith_K (first:=[.ref a]) (h₀:=X.base) I.ok.mod.kin hm.kp (a8 (ha pos pins s1 Z H1 _ I1 q) λus s2 ⟨vs,H2,I2,r,q2⟩=>⟨I2.kIn,?_⟩) hst hpl;exact vS (us:=.ref a::us) (vs:=.ref a::vs) F hr hb hd hx I2 (.cons rfl r) q2
theorem RO{pl:Sem Bool}(he:PE X o ta)(c:gH X.K C)(hm:nX X.K C m f)(F:eR X.prog X.w X.K X.mg X.base CX k f fd ps sp)(hr:cN k X.A)(hb:Binds X.K fd ps ds)(hd:aW dvs ds)(hx:lN CX X E)(ht:eval (.Call (.Attribute o m apos) [] [] pos) X.env=(do
   let ov <-eval o X.env
   Nl apos.atName
   let (f,first) <-Jn [ov] (Nm ov m pl)
   callWith pos f first (Hk pos (Br [] X.env)) (backToKw pos (Mh [] X.env))):=by rfl):
  PE X (.Call (.Attribute o m apos) [] [] pos) (vR C m sp dvs E ta vQ):=by
 intro pins s Z H Q I h;refine PySem.W.methodCall_KW (pl:=pl) (a8 (he pins s Z H _ I h) λu s1 ⟨x,H1,I1,rx,a,dx,fs,ex,ea,l,q⟩=>?_) ht;subst ex;obtain rfl:u=Value.ref a:=rx;refine DV I1 ea c hm l ?_;exact PySem.W.callWith_K0 (first:=[.ref a]) I1.kIn hm.kp (vS (us:=[.ref a]) (vs:=[.ref a]) F hr hb hd hx I1 (.cons rfl .nil) q)
structure Mk(K:Ab)(C f:Addr):Prop where
 makes:PySem.W.makesIn K C=true
 init:Cd K (.ref C) "__init__" = some (some (.ref f))
 fn:Lv K (.ref f)=true
 kp:Fs K (.ref C)=true
theorem DZ{pins:List (Addr×Obj)}{Z:St}{H:Hp}{s:Aj}{Q:VK}{us:List Ae}{vs:List V}(M:Mk X.K C f)(F:eR X.prog X.w X.K X.mg X.base CX k f fd ps sp)(hr:cN (k+1) X.A)(hb:Binds X.K fd ps ds)(hd:aW dvs ds)(hx:lN CX X E)(I:Inv X pins Z H s)(r:aW vs us)(h:∀x dx,H x=none->H dx=none->dx≠x->sp (.ref x::(vs++dvs)) (aQ (aQ H dx (.own x)) x (.ins C dx [])) (λv H2=>v=.non/\Q (.ref x) H2) E):
  Bo (Bw X.prog X.w) X.A (call (.ref C) us) (EP X pins Z Q) X.xe s:=by
 have hq:=h (s.heap.objs.size+1) s.heap.objs.size (I.hok.fresh (Nat.le_succ _)) (I.hok.fresh (Ag _)) (Bs (Hd _));have I2:=Inv.made (C:=C) I;have r2:aW (V.ref (s.heap.objs.size+1)::(vs++dvs)) (Value.ref (s.heap.objs.size+1)::(us++ds)):=.cons rfl (r.append hd);have hl:(Value.ref (s.heap.objs.size+1)::us++ds).length=ps.length:=by
  have e:=r2.length;rw[F.len _ _ _ _ hq]at e;exact e.symm
 refine wpAny_call (Q4 (f:=f) I.kIn M.makes M.init (beq_iff_eq.mp M.fn) (codeAny_mono (F.run _ X.stack _ _ ⟨Value.ref (s.heap.objs.size+1)::us,[]⟩ (Value.ref (s.heap.objs.size+1)::(us++ds)) _ _ E (hr.make C us [])
  (I2.env0.make C us []) (hb _ (Value.ref (s.heap.objs.size+1)::us) I2.kIn hl) r2 hq) λr s' hq'=>?_))
 cases r with
 | error e=>exact hx pins Z _ _ e s' I2 hq'
 | ok fl=>
  cases fl with
  | ret u=>
   obtain⟨v,H',I3,rv,ev,q3⟩:=I2.after hq';subst ev;exact⟨rv,⟨V.ref (s.heap.objs.size+1),H',I3,rfl,q3⟩⟩
  | next=>exact Ge hq'
  | brk=>exact Ge hq'
  | cont=>exact Ge hq'
theorem RP(M:Mk X.K C f)(F:eR X.prog X.w X.K X.mg X.base CX k f fd ps sp)(hr:cN (k+1) X.A)(hg:Gl X x)(hm:X.mg x=some (.ref C))(hb:Binds X.K fd ps ds)(hd:aW dvs ds)(hx:lN CX X E)(ha:PA X (e::es) t)(hdb:(x==("__debug__" : Str))=false:=by decide)(he:Br (e::es) X.env=(false,eval e X.env)::Br es X.env:=by rfl)(hpl:(Hk pos (Br es X.env)).any (·.1)=false:=by rfl):
  PE X (.Call (.Name x p) (e::es) [] pos) (DY C sp dvs E t):=by
 intro pins s Z H Q I h;refine Gq (vK I hg hm ?_ hdb);refine PySem.W.callWith_K (h₀:=X.base) I.ok.mod.kin M.kp (a8 (ha pos pins s Z H _ I h) λus s1 ⟨vs,H1,I1,r,q⟩=>⟨I1.kIn,?_⟩) he hpl;exact DZ M F hr hb hd hx I1 r q
theorem RQ(M:Mk X.K C f)(F:eR X.prog X.w X.K X.mg X.base CX k f fd ps sp)(hr:cN (k+1) X.A)(hg:Gl X x)(hm:X.mg x=some (.ref C))(hb:Binds X.K fd ps ds)(hd:aW dvs ds)(hx:lN CX X E)(hdb:(x==("__debug__" : Str))=false:=by decide):PE X (.Call (.Name x p) [] [] pos) (DY C sp dvs E vQ):=by
 intro pins s Z H Q I h;refine Gq (vK I hg hm ?_ hdb);exact PySem.W.callWith_K0 I.kIn M.kp (DZ (us:=[]) M F hr hb hd hx I .nil h)
end
structure mR(N P:List Str)(sc:Jm):Prop where
 kind:sc.kind=.function
 co:sc.isCoroutine=false
 gen:sc.isGenerator=false
 nd:N.Nodup
 pre:N.take P.length=P
 par:∀x∈P,sc.names.lookup x=some .local\/sc.names.lookup x=some .cell
 nofree:∀y∈sc.names,y.2≠.free
theorem D4{kindOf:Str->Option Iw}{x:Str}:∀{binds:List (Str×Ae)} {m:Str->Option Ae},(∀v,(x,v)∉binds)->bindL kindOf binds m x=m x
 | [],_,_=>rfl
 | (n,v)::r,m,h=>by
  unfold bindL;rw[D4 λw hw=>h w (Af _ hw)];split
  .have:x≠n:=by rintro rfl;exact h v Ai
   simp[this]
  .rfl
theorem D5{kindOf:Str->Option Iw}{x:Str}:∀{binds:List (Str×Ae)} {m:Str->Option Ae},(∀v,(x,v)∉binds)->bindC kindOf binds m x=m x
 | [],_,_=>rfl
 | (n,v)::r,m,h=>by
  unfold bindC;rw[D5 λw hw=>h w (Af _ hw)];split
  .rfl
  .have:x≠n:=by rintro rfl;exact h v Ai
   simp[this]
theorem D6{kindOf:Str->Option Iw}{x:Str}{v:Ae}:∀{P:List Str} {vs:List Ae} {i:Nat} {m:Str->Option Ae},P.Nodup->P[i]? = some x->vs[i]? = some v->kindOf x=some .local->
  bindL kindOf (P.zip vs) m x=some v
 | [],_,_,_,_,h,_,_=>by simp at h
 | _::_,[],_,_,_,_,h,_=>by simp at h
 | p::P,w::vs,0,m,nd,h1,h2,hk=>by
  simp at h1 h2;subst h1;subst h2;show bindL kindOf ((p,w)::P.zip vs) m p=_;unfold bindL;rw[D4 λv hv=>(Ee.mp nd).1 (List.of_mem_zip hv).1,if_pos hk];simp
 | p::P,w::vs,i+1,m,nd,h1,h2,hk=>by
  show bindL kindOf ((p,w)::P.zip vs) m x=_;unfold bindL;exact D6 (i:=i) (Ee.mp nd).2 (by simpa using h1) (by simpa using h2) hk
theorem D7{kindOf:Str->Option Iw}{x:Str}{v:Ae}:∀{P:List Str} {vs:List Ae} {i:Nat} {m:Str->Option Ae},P.Nodup->P[i]? = some x->vs[i]? = some v->kindOf x≠some .local->
  bindC kindOf (P.zip vs) m x=some v
 | [],_,_,_,_,h,_,_=>by simp at h
 | _::_,[],_,_,_,_,h,_=>by simp at h
 | p::P,w::vs,0,m,nd,h1,h2,hk=>by
  simp at h1 h2;subst h1;subst h2;show bindC kindOf ((p,w)::P.zip vs) m p=_;unfold bindC;rw[D5 λv hv=>(Ee.mp nd).1 (List.of_mem_zip hv).1,if_neg hk];simp
 | p::P,w::vs,i+1,m,nd,h1,h2,hk=>by
  show bindC kindOf ((p,w)::P.zip vs) m x=_;unfold bindC;exact D7 (i:=i) (Ee.mp nd).2 (by simpa using h1) (by simpa using h2) hk
def start(N:List Str)(vs:List V):St:=vs.map some++Cg (N.length-vs.length) none
def kX(CX:j9)(P:Ca)(w:Ct)(K:Ab)(mg:Str->Option Ae)(base:Heap)(N:List Str)(qual:Str)(scope:Jm)(f:Addr)(cd:Ae)(A:Dg)(outer:List Env)(s:Aj)(H:Hp)(E:XK):Cx where
 prog:=P
 w:=w
 K:=K
 mg:=mg
 base:=base
 A:=A.deeper (Kx qual scope s.heap.objs.size f cd)
 N:=N
 s₀:=s
 H₀:=H
 env:=Kx qual scope s.heap.objs.size f cd
 outer:=outer
 stack:=Kx qual scope s.heap.objs.size f cd::outer
 ex:=[]
 calm:=true
 fn:=λ_=>true
 pn:=[]
 xe:=λe s'=>Bo (Bw P w) (A.deeper (Kx qual scope s.heap.objs.size f cd)) (leaving (Kx qual scope s.heap.objs.size f cd) e) (λ_ s''=>CX outer H s E e s'') (λe' s''=>CX outer H s E e' s'') s'
theorem D8{sc:Jm}{n:Nat}{x:Str}(h:sc.names.lookup x=some .cell):∃c,(cellsFrom n sc.names []).lookup x=some c:=by
 have q:=PySem.W.cellsFrom_some sc.names n [] (.inl h);exact Gv.mp q
theorem RS{CX:j9}{P:Ca}{w:Ct}{K:Ab}{mg:Str->Option Ae}{base:Heap}{N ps:List Str}{qual:Str}{scope:Jm}{f:Addr}{cd:Ae}{A:Dg}{outer:List Env}{s s1:Aj}{H:Hp}{E:XK}{us:List Ae}{vs:List V}(S:mR N ps scope)(hd:A.handled=none)(e0:mQ P w K mg base A outer s H)(hl:vs.length=ps.length)(r:aW vs us)(x:InCallC s s.heap.objs.size (bindL (Kx qual scope s.heap.objs.size f cd).kindOf (ps.zip us) λ_=>none) (cellsFrom (s.heap.objs.size+1) scope.names []) (bindC (Kx qual scope s.heap.objs.size f cd).kindOf (ps.zip us) λ_=>none) s1):
  Inv (kX CX P w K mg base N qual scope f cd A outer s H E) [] (start N vs) H s1:=by
 have hpl:ps.length<=N.length:=by have:=congrArg Dv S.pre;rw[Ce]at this;lia
 obtain⟨h1,tk,rfl,hk⟩:=x.done;have noA:∀b:Addr,b∉(kX CX P w K mg base N qual scope f cd A outer s H E).ex:=λb z=>absurd (show b∈([]:List Addr) from z) (by simp);refine⟨⟨e0.mod,S.kind,rfl,rfl,Ag _,λy z c h1 h2=>?_,λy hy=>?_,λy c _ h=>?_,λ_=>hd,Around.frames_deeper e0.frames,.inr ⟨rfl,rfl⟩,λb z=>absurd z (noA b),e0.bs,e0.bsz,λb _ _=>noA b,λb z=>absurd z (noA b),e0.funs,e0.frf⟩,
  rfl,e0.bare,Un.kept hk,⟨_,x.toInCall.ns,λi y v h1 h2 h3=>?_⟩,λy c h=>⟨_,x.cell y c h⟩,e0.hok.fresh (Ag _),λy c h=>?_,λp hp=>absurd (show p∈([]:List (Addr×Obj)) from hp) (by simp),e0.hok.kept hk,?_⟩
 .exact name_of_addr x.apart (Ha h1) (Ha h2)
 .have hy:scope.names.lookup y=some .cell\/scope.names.lookup y=some .free:=hy;rcases hy with hy|hy
  .exact D8 hy
  .exact absurd rfl (S.nofree _ (Ha hy))
 .exact Gz (x.above y c (Ha h))
 .have hi:i<vs.length:=by
   unfold start at h2
   by_cases hi:i<vs.length
   .exact hi
   .rw[Kt (by simpa using hi)]at h2;rw[List.getElem?_replicate]at h2;split at h2<;>cases h2
  have ha:vs[i]? = some v:=by
   unfold start at h2;rw[Lh (by simpa using hi),Ax]at h2;cases e:vs[i]? with
   | none=>rw[e]at h2;cases h2
   | some a=>rw[e]at h2;cases h2;rfl
  obtain⟨u,hu,rv⟩:=r.get ha;have hp:ps[i]? = some y:=by
   rw[<-S.pre,List.getElem?_take_of_lt (by lia)];exact h1
  have ndP:ps.Nodup:=by rw[<-S.pre];exact S.nd.sublist (List.take_sublist _ _)
  refine⟨u,rv,?_⟩;rcases S.par y (Bl hp) with k|k
  .exact .inl ⟨k,D6 ndP hp hu k⟩
  .obtain⟨c,e⟩:=D8 (n:=s.heap.objs.size+1) k;refine .inr ⟨.inl k,c,e,?_⟩;have q:=x.cell y c e;rw[D7 ndP hp hu (by show scope.names.lookup y≠_;rw[k];decide)]at q;exact q
 .exact e0.hok.fresh (Gz (x.above y c (Ha h)))
 .unfold start;show _=N.length;rw[Ar,Aa,List.length_replicate];lia
theorem RT{CX:j9}{P:Ca}{w:Ct}{K:Ab}{mg:Str->Option Ae}{base:Heap}{k:Nat}{f:Addr}{name qual:Str}{params:Arguments}{body:List Stmt}{scope:Jm}{dV kV doc pm cdv ct oc:Ae}{an od:Option Addr}{osl:Array (Option Ae)}{N ps:List Str}{sp:Sp}(lk:K.lookup f=some ⟨oc,od,.func (Ep name qual params body scope dV kV doc pm an cdv ct),osl⟩)(hcd:Ji K cdv qual=true)(S:mR N ps scope)(len:∀vs H Q E,sp vs H Q E->vs.length=ps.length)(hbody:∀(A:Dg) (outer:List Env) (s:Aj) (H:Hp) (vs:List V) (Q:VK) (E:XK),cN k (A.deeper (Kx qual scope s.heap.objs.size f cdv))->sp vs H Q E->
   ∃t,gB (kX CX P w K mg base N qual scope f cdv A outer s H E) body t/\t {nx:=λ_ H'=>Q .non H',rt:=Q} (start N vs) H):
  eR P w K mg base CX (k+1) f (Ep name qual params body scope dV kV doc pm an cdv ct) ps sp:=by
 refine⟨len,λA outer s H args us vs Q E hr e0 hb r hsp=>?_⟩;have hl:=len _ _ _ _ hsp;have KX:K.In s.heap:=e0.mod.kin.keeps λb o e=>(e0.bs b o e).1;have cM:s.heap.NoLimit:=e0.mod.nolimit.keeps λb o e=>(e0.bs b o e).1;have hkind:∀y∈ps.zip us,scope.names.lookup y.1=some .local\/(scope.names.lookup y.1=some .cell/\((cellsFrom (s.heap.objs.size+1) scope.names []).lookup y.1).isSome=true):=λ⟨n,v⟩ hy=>by
  rcases S.par n (List.of_mem_zip hy).1 with q|q
  .exact .inl q
  .exact .inr ⟨q,PySem.W.cellsFrom_some _ _ _ (.inl q)⟩
 refine codeAny_call_function hr.depth (KX _ _ lk) rfl S.co S.gen rfl (PySem.W.codeRec_of KX hcd) (hb _ _ _ _ ?_);refine wpAny_newFunctionEnv_cells S.kind hkind λenv he s1 x=>?_;subst he;refine⟨cM.keeps x.toInCall.keep,codeAny_func ?_⟩;obtain⟨t,ht,hq⟩:=hbody A outer s H vs Q E (hr.deeper _) hsp;have I:Inv (kX CX P w K mg base N qual scope f cdv A outer s H E) [] (start N vs) H s1:=RS S hr.hd e0 hl r x;refine Ht (ht [] s1 (start N vs) H _ I hq) (λfl s' hs=>?_) λe s' hs=>hs;have fin:∀{σ':St} {H':Hp} {v:V} {u:Ae},Inv (kX CX P w K mg base N qual scope f cdv A outer s H E) [] σ' H' s'->RelV v u->Q v H'->CE outer P w H s Q u s':=
  λ{σ' H' v u} J rv q=>⟨v,H',J.os,J.bare,J.base,J.hok,rv,q⟩
 cases fl with
 | ret u=>
  obtain⟨v,σ',H',J,rv,q⟩:=hs;exact fin J rv q
 | next=>
  obtain⟨σ',H',J,q⟩:=hs;exact fin (v:=V.non) (u:=Value.none) J rfl q
 | brk=>
  obtain⟨_,_,_,q⟩:=hs;exact Ge q
 | cont=>
  obtain⟨_,_,_,q⟩:=hs;exact Ge q
section
variable {X:Cx}{x:Str}{p pos:Pos}{e:Expr}{es:List Expr}{t:TA}{id T:String}{r:List V->Hp->VK->Prop}
def vT(r:List V->Hp->VK->Prop)(t:TA):TE:=λZ H Q=>t Z H λvs H1=>r vs H1 Q
theorem RU(hc:b7 X (.builtin id) r)(hg:Gl X x)(hm:X.mg x=none)(hv:Dc x=some (.builtin id))(ha:PA X (e::es) t)(hn:x≠"__name__":=by decide)(hdb:(x==("__debug__" : Str))=false:=by decide)(he:Br (e::es) X.env=(false,eval e X.env)::Br es X.env:=by rfl)(hpl:(Hk pos (Br es X.env)).any (·.1)=false:=by rfl):PE X (.Call (.Name x p) (e::es) [] pos) (vT r t):=by
 intro pins s Z H Q I h;refine Gq (kW I hg hm hv ?_ hn hdb);exact PyProof.Rows.callWith_builtin1 (a8 (ha pos pins s Z H _ I h) λus s1 ⟨vs,H1,I1,r1,q1⟩=>hc pins s1 Z H1 vs us Q I1 r1 q1) he hpl
theorem RV(hc:b7 X (.type T) r)(hg:Gl X x)(hm:X.mg x=none)(hv:Dc x=some (.type T))(ha:PA X (e::es) t)(hn:x≠"__name__":=by decide)(hdb:(x==("__debug__" : Str))=false:=by decide)(he:Br (e::es) X.env=(false,eval e X.env)::Br es X.env:=by rfl)(hpl:(Hk pos (Br es X.env)).any (·.1)=false:=by rfl):PE X (.Call (.Name x p) (e::es) [] pos) (vT r t):=by
 intro pins s Z H Q I h;refine Gq (kW I hg hm hv ?_ hn hdb);exact Eb (a8 (ha pos pins s Z H _ I h) λus s1 ⟨vs,H1,I1,r1,q1⟩=>hc pins s1 Z H1 vs us Q I1 r1 q1) he hpl
end
end L2
namespace HT
open PySem PyProof.Rows
section
variable {prog:Ca}{w:Ct}{A:Dg}{E:Ae->Aj->Prop}{s:Aj}
theorem cat_tup{t b:Addr}{vs ws:List Ae}{Q:Ae->Aj->Prop}(ht:IsTup s.heap t vs.toArray)(hb:IsTup s.heap b ws.toArray)(hv:vs≠[])(h1:ws=[]->Q (.ref t) s)(h2:ws≠[]->Q (.ref s.heap.objs.size) {s with heap:=s.heap.push {cls:=.type "tuple",data:=.seq (vs++ws).toArray}})(hsz:vs.length+ws.length<=Ap):Bo (Bw prog w) A (Ek .Add (.ref t) (.ref b)) Q E s:=by
 obtain⟨⟨cls,dd,data,sl⟩,ho,hc,n,hd⟩:=id ht;obtain⟨⟨cls2,dd2,data2,sl2⟩,ho2,hc2,n2,hd2⟩:=id hb;simp only at hc hd hc2 hd2;subst hc hd hc2 hd2;have e:vs.toArray++ws.toArray=(vs++ws).toArray:=by simp
 by_cases hw:ws=[]
 .exact concat_meets ⟨_,ho,rfl⟩ ⟨_,ho2,rfl⟩ noFill_tuple_add seq_tuple_add Lw Lj (Kz _ _)
   (tuple_addW1 t b vs.toArray ws.toArray n n2 dd dd2 sl sl2 (by simpa using hv) (by simp[hw])) ⟨ho,ho2,h1 hw⟩
 .refine concat_meets ⟨_,ho,rfl⟩ ⟨_,ho2,rfl⟩ noFill_tuple_add seq_tuple_add Lw Lj (Kz _ _)
   (tuple_addW2 t b vs.toArray ws.toArray n n2 dd dd2 sl sl2 (by simpa using hv) (by simpa using hw) (by rw[Bg,Bg];exact hsz)) ⟨ho,ho2,?_⟩
  rw[e];exact h2 hw
def sIx(n d:Nat):Option Int->Nat
 | none=>d
 | some v=>if v<0 then(v+(n:Int)).toNat else min v.toNat n
theorem sIx_none(n d:Nat):sIx n d none=d:=rfl
theorem sIx_nat(n d k:Nat):sIx n d (some (k:Int))=min k n:=by
 show(if (k:Int)<0 then((k:Int)+(n:Int)).toNat else min (k:Int).toNat n)=min k n;rw[if_neg (by lia),Fj]
theorem RW(n d:Nat)(hd:d<=n)(o:Option Int):sIx n d o<=n:=by
 cases o with
 | none=>exact hd
 | some v=>
  show(if v<0 then(v+(n:Int)).toNat else min v.toNat n)<=n
  by_cases hv:v<0
  .rw[if_pos hv];lia
  .rw[if_neg hv];exact Nat.min_le_right _ _
theorem D9(v:Int)(n d:Nat):(if v<0 then max (v+(n:Int)) 0 else min v (n:Int))=((sIx n d (some v):Nat):Int):=by
 show(if v<0 then max (v+(n:Int)) 0 else min v (n:Int))=(((if v<0 then(v+(n:Int)).toNat else min v.toNat n):Nat):Int)
 by_cases hv:v<0
 .simp only[if_pos hv];lia
 .simp only[if_neg hv];lia
theorem RX(lo hi:Option Int)(n:Nat):Ka lo hi 1 (n:Int)=(((sIx n 0 lo:Nat):Int),((sIx n n hi:Nat):Int)):=by
 have h1:¬((1:Int)<0):=by lia
 unfold Ka;simp only[h1,if_false];refine Iz ?_ ?_
 .cases lo with
  | none=>rfl
  | some v=>exact D9 v n 0
 .cases hi with
  | none=>rfl
  | some v=>exact D9 v n n
theorem RY(i j:Nat):Ho (i:Int) (j:Int) 1=j-i:=by
 unfold Ho;have h1:(1:Int) > 0:=by lia
 simp only[h1,if_true,Int.ediv_one];split<;>lia
theorem EA{v:Ae}{o:Option Int}{Q:Option Int->Aj->Prop}(p:IsPart v o)(h:Q o s):Bo (Bw prog w) A (Builtin.Slice.slicePartIndex v) Q E s:=by
 cases p with
 | none=>exact slicePart_none h
 | int i t=>exact slicePart_int h
theorem RZ{sl:Addr}{vl vu:Ae}{lo hi:Option Int}{n:Nat}{Q:Int×Int×Nat->Aj->Prop}(hs:s.heap.IsSliceOf sl vl vu .none)(pl:IsPart vl lo)(pu:IsPart vu hi)(h:Q (((sIx n 0 lo:Nat):Int),1,sIx n n hi-sIx n 0 lo) s):Bo (Bw prog w) A (Builtin.Slice.sliceApplied (.ref sl) (pure (n:Int))) Q E s:=by
 obtain⟨os,hos,hcs,hds⟩:=id hs;unfold Builtin.Slice.sliceApplied Builtin.Slice.sliceFields;refine Ac (Ac (Km hos hds (x:=vl) rfl (Ac (Km hos hds (x:=vu) rfl (Ac (Km hos hds (x:=.none) rfl (Ao ?_)))))));refine Ac (slicePart_none ?_);show Bo _ _ (if ((1:Int)==0)=true then _ else _) _ _ s;rw[if_neg (by decide)];refine Ac (EA pl (Ac (EA pu (Ac (Ao ?_)))));show Bo _ _ (match Ka lo hi 1 (n:Int) with|(lo,hi)=>pure (lo,(1:Int),Ho lo hi 1)) _ _ s;rw[RX lo hi n];show Bo _ _ (pure (((sIx n 0 lo:Nat):Int),(1:Int),Ho ((sIx n 0 lo:Nat):Int) ((sIx n n hi:Nat):Int) 1)) _ _ s;rw[RY];exact Ao h
theorem R0(xs:Array Ae)(i k:Nat):((Bp k).filterMap λ(m:Nat)=>xs[((i:Int)+(m:Int)*1).toNat]?).toArray=((xs.toList.drop i).take k).toArray:=by
 have e:(λ(m:Nat)=>xs[((i:Int)+(m:Int)*1).toNat]?)=λm=>xs[i+m]?:=by
  funext m;have:((i:Int)+(m:Int)*1).toNat=i+m:=by lia
  rw[this]
 rw[e];have:=pick_run xs i k;rw[Ku]at this;have e2:((λx=>xs[x]?) ∘ λx=>i+x)=λm=>xs[i+m]?:=rfl;rw[e2]at this;rw[this]
theorem getItem_tuple_cut{t sl:Addr}{items:Array Ae}{vl vu:Ae}{lo hi:Option Int}{Q:Ae->Aj->Prop}(ht:IsTup s.heap t items)(hs:s.heap.IsSliceOf sl vl vu .none)(pl:IsPart vl lo)(pu:IsPart vu hi)(hw:¬(sIx items.size 0 lo=0/\sIx items.size items.size hi=items.size))(h:Q (.ref s.heap.objs.size) {s with heap:=s.heap.push {cls:=.type "tuple",data:=.seq ((items.toList.drop (sIx items.size 0 lo)).take (sIx items.size items.size hi-sIx items.size 0 lo)).toArray}})(hsz:items.size<=Ap):Bo (Bw prog w) A (getItem (.ref t) (.ref sl)) Q E s:=by
 have htake:sizeOk (.seq ((items.toList.drop (sIx items.size 0 lo)).take (sIx items.size items.size hi-sIx items.size 0 lo)).toArray):=by
  show((items.toList.drop (sIx items.size 0 lo)).take (sIx items.size items.size hi-sIx items.size 0 lo)).toArray.size<=Ap;rw[Bg,Ce,Fq,Fx];omega
 have hj:sIx items.size items.size hi<=items.size:=RW _ _ (Ag _) hi;obtain⟨os,hos,hcs,hds⟩:=id hs;have hTs:s.TypeIs (.ref sl) "slice":=⟨os,hos,hcs⟩;unfold getItem
 try with_reducible refine Du ?_
 first|refine Ac (Ao ?_)|skip
 refine Ac (wpAny_sequenceKey ht.typeIs (by decide) ?_);refine Ac (Hj (name:=Eg "__getitem__") ht.typeIs Iy
  (Fi Iy ht.typeIs entry_tuple_getitem ?_ (args_tuple_getitem _ _)))
 show Bo _ _ (Builtin.Tuple.tupleItemsOf (.ref t)>>=_) _ _ s;refine Ac (tupleItemsOf_ ht ?_);refine Ac (wpAny_typeOf hTs ?_);rw[if_pos (by decide)];refine Ac (RZ hs pl pu ?_);have hno:¬((((sIx items.size 0 lo:Nat):Int)==0&&(1:Int)==1&&(sIx items.size items.size hi-sIx items.size 0 lo)==items.size)=true):=by
  intro q;rw[Cw,Cw]at q;have q1:((sIx items.size 0 lo:Nat):Int)=0:=eq_of_beq q.1.1;have q2:sIx items.size items.size hi-sIx items.size 0 lo=items.size:=eq_of_beq q.2;exact hw ⟨by omega,by omega⟩
 show Bo _ _ (if (((sIx items.size 0 lo:Nat):Int)==0&&(1:Int)==1&&(sIx items.size items.size hi-sIx items.size 0 lo)==items.size)=true then _ else _) _ _ s;rw[if_neg hno,R0]
 first
  | exact Ac (m:=Hv _) (Ew (Ao ⟨_,rfl,Ao h⟩) htake)
  | exact Ac (m:=Hv _) (Ew (Ac (Ao (Ao ⟨_,rfl,Ao h⟩))) htake)
  | exact Ac (Ac (m:=Hv _) (Ew (Ao (Ao ⟨_,rfl,Ao h⟩)) htake))
  | exact Ac (Ac (m:=Hv _) (Ew (Ao ⟨_,rfl,Ao h⟩) htake))
end
end HT
namespace L2
open PySem Spec PyProof.Rows
abbrev TO:=St->Hp->(Option Int->Hp->Prop)->Prop
def PO(X:Cx)(e:Option Expr)(t:TO):Prop:=
 ∀(pins:List (Addr×Obj)) (s:Aj) (Z:St) (H:Hp) (Q:Option Int->Hp->Prop),Inv X pins Z H s->t Z H Q->
  Bo (Bw X.prog X.w) X.A (evalPart e X.env) (λu s'=>∃o H',Inv X pins Z H' s'/\IsPart u o/\Q o H') X.xe s
def R1:TO:=λ_ H Q=>Q none H
def R4(t:TE):TO:=λZ H Q=>t Z H λx H1=>∃i,x=.int i/\Q (some i) H1
section
variable {X:Cx}{e:Expr}{te:TE}{lo hi:Option Expr}{tl th:TO}{pos p2:Pos}
theorem R5:PO X none R1:=by
 intro pins s Z H Q I h;rw[evalPart_none];exact Ao ⟨none,H,I,.none,h⟩
theorem R6(h:PE X e te):PO X (some e) (R4 te):=by
 intro pins s Z H Q I hw;rw[evalPart_some];refine a8 (h pins s Z H _ I hw) λu s1 ⟨x,H1,I1,r1,q1⟩=>?_;obtain⟨i,rfl,q⟩:=q1;obtain⟨t,rfl⟩:=r1;exact⟨some i,H1,I1,.int i t,q⟩
def rY(X:Cx)(r:V->Option Int->Option Int->Hp->VK->Prop):Prop:=
 ∀(pins:List (Addr×Obj)) (s:Aj) (Z:St) (H:Hp) (x:V) (v vl vu:Ae) (lo hi:Option Int) (sl:Addr) (Q:VK),Inv X pins Z H s->RelV x v->s.heap.IsSliceOf sl vl vu .none->IsPart vl lo->IsPart vu hi->r x lo hi H Q->
  ∃T id,typeLookup (.type T) "__getitem__" = pure (some (.builtin id))/\s.TypeIs v T/\Bo (Bw X.prog X.w) X.A (getItem v (.ref sl)) (EP X pins Z Q) X.xe s
def R7(r:V->Option Int->Option Int->Hp->VK->Prop)(te:TE)(tl th:TO):TE:=λZ H Q=>te Z H λx H1=>tl Z H1 λl H2=>th Z H2 λu H3=>r x l u H3 Q
theorem R8{r:V->Option Int->Option Int->Hp->VK->Prop}(hr:rY X r)(he:PE X e te)(hl:PO X lo tl)(hu:PO X hi th):PE X (.Subscript e (.Slice lo hi none p2) pos) (R7 r te tl th):=by
 intro pins s Z H Q I h;refine Subscript_ (a8 (he pins s Z H _ I h) λv s1 ⟨x,H1,I1,r1,q1⟩=>?_);refine wpAny_Slice (a8 (hl pins s1 Z H1 _ I1 q1) λvl s2 ⟨l,H2,I2,pl,q2⟩=>a8 (hu pins s2 Z H2 _ I2 q2) λvu s3 ⟨u,H3,I3,pu,q3⟩=>?_);rw[evalPart_none];refine Ao ?_;have I4:Inv X pins Z H3 {s3 with heap:=s3.heap.push {cls:=.type "slice",data:=.fields #[vl,vu,.none]}}:=I3.kept (t':=s3.toks) λb ob q=>Am _ q;obtain⟨T,id,hT,ht,hg⟩:=hr pins {s3 with heap:=s3.heap.push {cls:=.type "slice",data:=.fields #[vl,vu,.none]}} Z H3 x v vl vu l u s3.heap.objs.size Q I4 r1 (Heap.IsSliceOf.new ..) pl pu q3;show Bo (Bw X.prog X.w) X.A (subscriptTail e (.Slice lo hi none p2) v (.ref s3.heap.objs.size)) (EP X pins Z Q) X.xe {s3 with heap:=s3.heap.push {cls:=.type "slice",data:=.fields #[vl,vu,.none]}};exact tail_any (ops:=[.ref s3.heap.objs.size,v]) ht hT hg (by with_unfolding_all rfl)
def lO(xs:List V)(lo hi:Option Int):List V:=(xs.drop (HT.sIx xs.length 0 lo)).take (HT.sIx xs.length xs.length hi-HT.sIx xs.length 0 lo)
theorem EB(xs:List V)(lo hi:Option Int):(lO xs lo hi).length<=xs.length:=by
 unfold lO;rw[Ce,Fq];lia
def R9(K:Ab):V->Option Int->Option Int->Hp->VK->Prop:=λx lo hi H Q=>∃a xs,x=.ref a/\bU K H a xs/\
 ¬(HT.sIx xs.length 0 lo=0/\HT.sIx xs.length xs.length hi=xs.length)/\∀p,H p=none->Q (.ref p) (aQ H p (.tup (lO xs lo hi)))
theorem SA:rY X (R9 X.K):=by
 intro pins s Z H x v vl vu lo hi sl Q I rx hs pl pu h;obtain⟨a,xs,rfl,hx,hw,q⟩:=h;cases rx;obtain⟨its,r,ht,hz⟩:=I.tuple hx;have hlen:its.toArray.size=xs.length:=by rw[Bg];exact r.length.symm
 refine⟨"tuple",_,Iy.lookup,ht.typeIs,?_⟩;refine HT.getItem_tuple_cut ht hs pl pu (by rw[hlen];exact hw) ?_ (by rw[hlen];exact hz);rw[hlen];refine⟨.ref s.heap.objs.size,_,I.laid (t':=s.toks) (o:=.tup (lO xs lo hi)) (λb ob q=>Am _ q) (Ag _) ?_,rfl,q _ (I.hok.fresh (Ag _))⟩;exact⟨Ah (EB xs lo hi) hz,_,(r.drop (HT.sIx xs.length 0 lo)).take (HT.sIx xs.length xs.length hi-HT.sIx xs.length 0 lo),IsTup.new _ _⟩
def SD(K:Ab):R2:=λx y H Q=>∃a b xs ys,x=.ref a/\y=.ref b/\bU K H a xs/\bU K H b ys/\xs≠[]/\xs.length+ys.length<=Ap/\
 (ys=[]->Q (.ref a) H)/\(ys≠[]->∀p,H p=none->Q (.ref p) (aQ H p (.tup (xs++ys))))
theorem aW.nil_iff{xs:List V}{us:List Ae}(r:aW xs us):us=[]↔xs=[]:=by
 cases r with
 | nil=>simp
 | cons _ _=>simp
theorem SE:a9 X (Ek .Add) (SD X.K):=by
 intro pins s Z H x y v u Q I rx ry h;obtain⟨a,b,xs,ys,rfl,rfl,ha,hb,hx,hz,q1,q2⟩:=h;cases rx;cases ry;obtain⟨its,r1,p1,_⟩:=I.tuple ha;obtain⟨its2,r2,p2,_⟩:=I.tuple hb;refine HT.cat_tup p1 p2 (λz=>hx (r1.nil_iff.mp z)) (λz=>⟨.ref a,H,I,rfl,q1 (r2.nil_iff.mp z)⟩) (λz=>?_) (by rw[<-r1.length,<-r2.length];exact hz);refine⟨.ref s.heap.objs.size,_,I.laid (t':=s.toks) (o:=.tup (xs++ys)) (λb ob q=>Am _ q) (Ag _) ?_,rfl,q2 (λw=>z (r2.nil_iff.mpr w)) _ (I.hok.fresh (Ag _))⟩;exact⟨by rw[Ar];exact hz,_,r1.append r2,IsTup.new _ _⟩
end
def iR(n:Nat)(i:Int):Option Nat:=if 0<=i then(if i<n then some i.toNat else none) else if -(n:Int)<=i then some (i+n).toNat else none
def cX{O:Type}(xs:List O)(i:Int):Option O:=(iR xs.length i).bind λj=>xs[j]?
theorem EC{n:Nat}{i:Int}{j:Nat}(h:iR n i=some j):seqIndex? i n=some j/\j<n/\-(n:Int)<=i/\i<n:=by
 unfold iR at h
 by_cases h0:0<=i
 .rw[if_pos h0]at h
  by_cases h1:i<n
  .rw[if_pos h1]at h;have e:i.toNat=j:=Cj h;exact⟨by rw[seqIndex_of h0 h1,e],by lia,by lia,h1⟩
  .rw[if_neg h1]at h;cases h
 .rw[if_neg h0]at h
  by_cases h1 : -(n:Int)<=i
  .rw[if_pos h1]at h;have e:(i+n).toNat=j:=Cj h;exact⟨by rw[seqIndex_neg (by lia) h1,e],by lia,h1,by lia⟩
  .rw[if_neg h1]at h;cases h
theorem vU{O:Type}{xs:List O}{i:Int}{v:O}(h:cX xs i=some v):∃j,seqIndex? i xs.length=some j/\xs[j]? = some v/\j<xs.length/\-(xs.length:Int)<=i/\i<xs.length:=by
 unfold cX at h;cases e:iR xs.length i with
 | none=>rw[e]at h;cases h
 | some j=>
  rw[e]at h;obtain⟨h1,h2,h3,h4⟩:=EC e;exact⟨j,h1,h,h2,h3,h4⟩
theorem kA{O:Type}{xs:List O}{j:Nat}{v:O}(h:xs[j]? = some v):cX xs (j:Int)=some v:=by
 have hj:j<xs.length:=(Ak.mp h).1;have e:iR xs.length (j:Int)=some j:=by
  unfold iR;rw[if_pos (by lia),if_pos (by lia)];simp
 unfold cX;rw[e];exact h
theorem ED{O:Type}(xs:List O)(v:O):cX (xs++[v]) (-1)=some v:=by
 have hl:(xs++[v]).length=xs.length+1:=by simp
 have e:iR (xs++[v]).length (-1)=some xs.length:=by
  unfold iR;rw[hl,if_neg (by decide),if_pos (by lia)];congr 1;lia
 unfold cX;rw[e];show(xs++[v])[xs.length]? = some v;simp
def EE(b:Expr):Prop:=∀o i,subscripted b false o i=operate [o,i] (getItem o i)
def i4(X:Cx)(r:R2):Prop:=
 ∀(value slice:Expr) (pins:List (Addr×Obj)) (s:Aj) (Z:St) (H:Hp) (x y:V) (v u:Ae) (Q:VK),Inv X pins Z H s->RelV x v->RelV y u->r x y H Q->
  subscripted slice false v u=operate [v,u] (getItem v u)->Bo (Bw X.prog X.w) X.A (subscriptTail value slice v u) (EP X pins Z Q) X.xe s
def iS(X:Cx)(id:String)(r:V->List V->Hp->VK->Prop):Prop:=
 ∀(pins:List (Addr×Obj)) (s:Aj) (Z:St) (H:Hp) (x:V) (xs:List V) (v:Ae) (us:List Ae) (Q:VK),Inv X pins Z H s->RelV x v->aW xs us->r x xs H Q->
  Bo (Bw X.prog X.w) X.A (call (.builtin id) (v::us)) (EP X pins Z Q) X.xe s
section
variable {X:Cx}{a b:Expr}{ta tb:TE}{pos:Pos}
theorem i4.or{r r':R2}(h:i4 X r)(h':i4 X r'):i4 X (λx y H Q=>r x y H Q\/r' x y H Q):=by
 intro value slice pins s Z H x y v u Q I rx ry q hs;rcases q with q|q
 .exact h value slice pins s Z H x y v u Q I rx ry q hs
 .exact h' value slice pins s Z H x y v u Q I rx ry q hs
theorem SF{r:R2}(hr:i4 X r)(ha:PE X a ta)(hb:PE X b tb)(hs:EE b):PE X (.Subscript a b pos) (pN r ta tb):=by
 intro pins s Z H Q I h;exact Subscript_ (vN ha hb I h λv u s2 x y H2 I2 rx ry q=>hr a b pins s2 Z H2 x y v u Q I2 rx ry q (hs _ _))
def SG(K:Ab):R2:=λx y H Q=>∃p xs i v,x=.ref p/\y=.int i/\bH K H p xs/\cX xs i=some v/\Q v H
def SH(K:Ab):R2:=λx y H Q=>∃p xs i v,x=.ref p/\y=.int i/\bU K H p xs/\cX xs i=some v/\Q v H
def SJ:R2:=λx y H Q=>∃z i c,x=.str z/\y=.int i/\z.length<=Ap/\cX z.cps.toList i=some c/\Q (.str ⟨#[c]⟩) H
theorem SM:i4 X (SG X.K):=by
 intro value slice pins s Z H x y v u Q I rx ry h hs;obtain⟨p,xs,i,z,rfl,rfl,hq,he,q⟩:=h;cases rx;obtain⟨t,rfl⟩:=ry;obtain⟨its,r,pl,hz⟩:=I.list hq;obtain⟨j,h1,h2,h3,h4,h5⟩:=vU he;obtain⟨w,ew,rw'⟩:=r.get h2;have hl:=r.length;have hn:=mO;have fin:EP X pins Z Q w s:=⟨z,H,I,rw',q⟩
 by_cases h0:0<=i
 .have hj:i.toNat=j:=by
   rw[seqIndex_of h0 h5]at h1;exact Cj h1
  exact item_listR pl.isList h0 (by lia) (by rw[hj];simpa using ew) fin hs
 .have hj:(i+(its.toArray.size:Int)).toNat=j:=by
   rw[seqIndex_neg (by lia) h4]at h1;rw[Bg,<-hl];exact Cj h1
  exact subscriptTail_builtinR (x:=w) pl.isList.typeIs slot_list_getitem.lookup
   (wpAny_getItem_list_neg (Q:=λr s'=>r=w/\EP X pins Z Q r s') pl.isList (by lia) (by rw[Bg]<;>lia) (by lia) (by rw[hj];simpa using ew) ⟨rfl,fin⟩) hs
theorem SN:i4 X (SH X.K):=by
 intro value slice pins s Z H x y v u Q I rx ry h hs;obtain⟨p,xs,i,z,rfl,rfl,hq,he,q⟩:=h;cases rx;obtain⟨t,rfl⟩:=ry;obtain⟨its,r,pl,hz⟩:=I.tuple hq;obtain⟨j,h1,h2,h3,h4,h5⟩:=vU he;obtain⟨w,ew,rw'⟩:=r.get h2;have hl:=r.length;have hn:=mO;have fin:EP X pins Z Q w s:=⟨z,H,I,rw',q⟩;exact subscriptTail_builtinR (x:=w) pl.typeIs slot_tuple_getitem.lookup
  (getItem_tuple (j:=j) (Q:=λr s'=>r=w/\EP X pins Z Q r s') pl (by lia) (by lia) (by rw[Bg,<-hl];exact h1) (by simpa using ew) ⟨rfl,fin⟩) hs
theorem SO:i4 X SJ:=by
 intro value slice pins s Z H x y v u Q I rx ry h hs;obtain⟨z,i,c,rfl,rfl,hz,he,q⟩:=h;obtain⟨t,rfl⟩:=rx;obtain⟨t',rfl⟩:=ry;obtain⟨j,h1,h2,h3,h4,h5⟩:=vU he;have hl:z.cps.toList.length=z.length:=by simp[Str.length]
 rw[hl]at h1 h4 h5;have hn:=mO;exact tail_any (typeIs_str s z t) slot_str_getitem.lookup (getItem_str (c:=c) (by
  have e1:decide (i < -(2 ^ 63:Int))=false:=decide_eq_false (by lia);have e2:decide (i ≥ 2 ^ 63)=false:=decide_eq_false (by lia);rw[e1,e2,Bool.or_false]) (by rw[h1];simpa using h2) ⟨.str ⟨#[c]⟩,H,I.tok _,⟨_,rfl⟩,q⟩) hs
theorem SQ(its:List Ae)(n j:Nat)(u:Ae):Hl (·.setIfInBounds j u) {cls:=.type "list",data:=.seq its.toArray n} = {cls:=.type "list",data:=.seq (its.set j u).toArray n}:=by
 simp[Hl]
theorem Inv.lst{pins:List (Addr×Obj)}{Z:St}{H:Hp}{s:Aj}{p:Addr}{xs:List V}(I:Inv X pins Z H s)(h:H p=some (.lst xs)):
  ∃(its:List Ae) (n:Nat),aW xs its/\s.heap.get? p=some {cls:=.type "list",data:=.seq its.toArray n}/\xs.length<=Ap:=by
 obtain⟨z,its,n,r,e⟩:=I.hok p _ h;exact⟨its,n,r,e,z⟩
theorem Inv.lstUpd{pins:List (Addr×Obj)}{Z:St}{H:Hp}{s:Aj}{p:Addr}{xs ys:List V}{its its':List Ae}{n n':Nat}{f:Obj->Obj}(I:Inv X pins Z H s)(h:H p=some (.lst xs))(ho:s.heap.get? p=some {cls:=.type "list",data:=.seq its.toArray n})(hf:f {cls:=.type "list",data:=.seq its.toArray n} = {cls:=.type "list",data:=.seq its'.toArray n'})(r:aW ys its')(hz:ys.length<=Ap)(t:Nat):
  Inv X pins Z (aQ H p (.lst ys)) {s with heap:=s.heap.update p f,toks:=t}:=by
 have e:(s.heap.update p f).get? p=some {cls:=.type "list",data:=.seq its'.toArray n'}:=by
  rw[Hs f ho (by rw[hf]<;>rfl),hf]
 refine I.write (x:=p) (e:=p) (by rw[h];trivial) (.inl rfl) (λb u hb q=>(Hi _ _ (Co hb)).trans q) ⟨_,e⟩ ?_;exact⟨hz,its',n',r,e⟩
def SU:V->V->V->Hp->(Hp->Prop)->Prop:=λo i v H Q=>∃p xs k j,o=.ref p/\i=.int k/\H p=some (.lst xs)/\iR xs.length k=some j/\Q (aQ H p (.lst (xs.set j v)))
theorem SW:rQ X SU:=by
 intro pins s Z H o i v ov iv u Q I ro ri rv h;obtain⟨p,xs,k,j,rfl,rfl,hp,hj,q⟩:=h;cases ro;obtain⟨t,rfl⟩:=ri;obtain⟨its,n,r,ho,hz⟩:=I.lst hp;obtain⟨h1,h2,h3,h4⟩:=EC hj;have hl:=r.length;have hn:=mO;have I':Inv X pins Z (aQ H p (.lst (xs.set j v))) {s with heap:=s.heap.update p (Hl (·.setIfInBounds j u))}:=
  I.lstUpd hp ho (SQ its n j u) (r.set rv j) (by rw[List.length_set];exact hz) s.toks
 by_cases h0:0<=k
 .have hk:k.toNat=j:=by
   rw[seqIndex_of h0 h4]at h1;exact Cj h1
  exact PySem.W.ki_setAt ho h0 (by lia) (by rw[Bg,<-hl];exact h4) (by rw[hk];exact⟨_,I',q⟩)
 .have hk:(k+(its.toArray.size:Int)).toNat=j:=by
   rw[seqIndex_neg (by lia) h3]at h1;rw[Bg,<-hl];exact Cj h1
  exact PySem.W.ki_setBack ho (by lia) (by rw[Bg,<-hl];exact h3) (by lia) (by rw[hk];exact⟨_,I',q⟩)
theorem SX(lo hi:Option Int)(n:Nat):(Kn lo hi none n).1=((HT.sIx n 0 lo:Nat):Int)/\(Kn lo hi none n).2.1=((HT.sIx n n hi:Nat):Int)/\(Kn lo hi none n).2.2=1:=by
 refine⟨?_,?_,rfl⟩
 .cases lo with
  | none=>simp[Kn,HT.sIx]
  | some i=>
   simp only[Kn,HT.sIx,Option.getD_none,show(1:Int) > 0 by decide,if_true]
   by_cases h:i<0
   .simp only[h,if_true]<;>lia
   .simp only[h,if_false]<;>lia
 .cases hi with
  | none=>simp[Kn,HT.sIx]
  | some i=>
   simp only[Kn,HT.sIx,Option.getD_none,show(1:Int) > 0 by decide,if_true]
   by_cases h:i<0
   .simp only[h,if_true]<;>lia
   .simp only[h,if_false]<;>lia
theorem SY(its:List Ae)(lo hi:Option Int):slicePick its.toArray lo hi none=((its.drop (HT.sIx its.length 0 lo)).take (HT.sIx its.length its.length hi-HT.sIx its.length 0 lo)).toArray:=by
 obtain⟨h1,h2,h3⟩:=SX lo hi its.toArray.size;unfold slicePick;rw[h1,h2,h3];simp only[sliceRange_one,pick_run,Bg]<;>rfl
def S4(K:Ab):V->Option Int->Option Int->Hp->VK->Prop:=λx lo hi H Q=>∃a xs,x=.ref a/\bH K H a xs/\∀p,H p=none->Q (.ref p) (aQ H p (.lst (lO xs lo hi)))
theorem vV:rY X (S4 X.K):=by
 intro pins s Z H x v vl vu lo hi sl Q I rx hs pl pu h;obtain⟨a,xs,rfl,hx,q⟩:=h;cases rx;obtain⟨its,r,ht,hz⟩:=I.list hx;have hlen:=r.length;refine⟨"list",_,slot_list_getitem.lookup,ht.isList.typeIs,?_⟩;refine wpAny_getItem_list_slice ht.isList hs pl pu .none (by simp) ?_ (by rw[Bg]<;>lia);rw[SY,<-hlen];refine⟨.ref s.heap.objs.size,_,I.laid (t':=s.toks) (o:=.lst (lO xs lo hi)) (λb ob q=>Am _ q) (Ag _) ?_,rfl,q _ (I.hok.fresh (Ag _))⟩;exact⟨Ah (EB xs lo hi) hz,_,0,(r.drop (HT.sIx xs.length 0 lo)).take (HT.sIx xs.length xs.length hi-HT.sIx xs.length 0 lo),Be _ rfl⟩
def kB:V->Bool
 | .non=>true
 | .bl _=>true
 | .int _=>true
 | .str _=>true
 | _=>false
def kC:V->V->Bool
 | .non,.non=>true
 | .bl a,.bl b=>a==b
 | .bl a,.int b=>(if a then 1 else 0)==b
 | .int a,.bl b=>a==(if b then 1 else 0)
 | .int a,.int b=>a==b
 | .str a,.str b=>a==b
 | _,_=>false
theorem S5{A:Dg}{s:Aj}{y x:V}{u v:Ae}(ry:RelV y u)(rx:RelV x v)(fy:kB y=true)(fx:kB x=true):SeqAt.EqAt A s u v (kC y x):=by
 cases y with
 | non=>
  cases ry;cases x with
  | non=>cases rx;exact SeqAt.EqAt.same _
  | bl b=>cases rx;exact SeqAt.EqAt.none_bool b
  | int b=>obtain⟨t,rfl⟩:=rx;exact SeqAt.EqAt.none_int b t
  | str b=>obtain⟨t,rfl⟩:=rx;exact SeqAt.EqAt.none_str b t
  | _=>exact absurd (show false=true from fx) Av
 | bl a=>
  cases ry;cases x with
  | non=>cases rx;exact SeqAt.EqAt.bool_none a
  | bl b=>cases rx;exact SeqAt.EqAt.bool_bool a b
  | int b=>obtain⟨t,rfl⟩:=rx;exact SeqAt.EqAt.bool_int a b t
  | str b=>obtain⟨t,rfl⟩:=rx;exact SeqAt.EqAt.bool_str a b t
  | _=>exact absurd (show false=true from fx) Av
 | int a=>
  obtain⟨t',rfl⟩:=ry;cases x with
  | non=>cases rx;exact SeqAt.EqAt.int_none a t'
  | bl b=>cases rx;exact SeqAt.EqAt.int_bool a t' b
  | int b=>obtain⟨t,rfl⟩:=rx;exact SeqAt.EqAt.int_int a t' b t
  | str b=>obtain⟨t,rfl⟩:=rx;exact SeqAt.EqAt.int_str a t' b t
  | _=>exact absurd (show false=true from fx) Av
 | str a=>
  obtain⟨t',rfl⟩:=ry;cases x with
  | non=>cases rx;exact SeqAt.EqAt.str_none a t'
  | bl b=>cases rx;exact SeqAt.EqAt.str_bool a t' b
  | int b=>obtain⟨t,rfl⟩:=rx;exact SeqAt.EqAt.str_int a t' b t
  | str b=>obtain⟨t,rfl⟩:=rx;exact SeqAt.EqAt.str_str a t' b t
  | _=>exact absurd (show false=true from fx) Av
 | _=>exact absurd (show false=true from fy) Av
def g7(x:V)(u:Ae):Bool:=match u with
 | .none=>kC .non x
 | .bool b=>kC (.bl b) x
 | .int i _=>kC (.int i) x
 | .str z _=>kC (.str z) x
 | _=>false
theorem EF{x y:V}{u:Ae}(r:RelV y u)(f:kB y=true):g7 x u=kC y x:=by
 cases y with
 | non=>cases r;rfl
 | bl b=>cases r;rfl
 | int i=>obtain⟨t,rfl⟩:=r;rfl
 | str z=>obtain⟨t,rfl⟩:=r;rfl
 | _=>exact absurd (show false=true from f) Av
theorem pO{x:V}:∀{xs:List V} {us:List Ae},aW xs us->xs.all kB=true->us.any (g7 x)=xs.any λy=>kC y x
 | _,_,.nil,_=>rfl
 | y::xs,u::us,.cons r t,f=>by
  rw[Jz,Cw]at f;rw[Ei,Ei,EF r f.1,pO t f.2]
theorem pP{A:Dg}{s:Aj}{x:V}{v:Ae}(rx:RelV x v)(fx:kB x=true):∀{xs:List V} {us:List Ae},aW xs us->xs.all kB=true->∀u∈us,SeqAt.EqAt A s u v (g7 x u)
 | _,_,.nil,_=>λu hu=>by cases hu
 | y::xs,u::us,.cons r t,f=>λu' hu=>by
  rw[Jz,Cw]at f;rcases Bj.mp hu with rfl|hu
  .rw[EF r f.1];exact S5 r rx f.1 fx
  .exact pP rx fx t f.2 u' hu
def inV(x:V)(xs:List V):Bool:=xs.any λy=>kC y x
def rIn(K:Ab)(neg:Bool):R2:=λx y H Q=>∃p xs,y=.ref p/\(bH K H p xs\/bU K H p xs)/\kB x=true/\xs.all kB=true/\Q (.bl (if neg then !inV x xs else inV x xs)) H
theorem S6:a9 X (Cq .In) (rIn X.K false):=by
 intro pins s Z H x y v u Q I rx ry h;obtain⟨p,xs,rfl,hq,fx,fs,q⟩:=h;cases ry;rcases hq with hq|hq
 .obtain⟨its,r,pl,hz⟩:=I.list hq;refine SeqAt.in_listAt (g7 x) pl.isList (λw hw=>pP rx fx r fs w (by simpa using hw)) ⟨.bl _,H,I,rfl,?_⟩;rw[show its.toArray.any (g7 x)=its.any (g7 x) by simp,pO r fs];exact q
 .obtain⟨its,r,pl,hz⟩:=I.tuple hq;refine SeqAt.in_tupleAt (g7 x) pl (λw hw=>pP rx fx r fs w (by simpa using hw)) ⟨.bl _,H,I,rfl,?_⟩;rw[show its.toArray.any (g7 x)=its.any (g7 x) by simp,pO r fs];exact q
theorem S7:a9 X (Cq .NotIn) (rIn X.K true):=by
 intro pins s Z H x y v u Q I rx ry h;obtain⟨p,xs,rfl,hq,fx,fs,q⟩:=h;cases ry;rcases hq with hq|hq
 .obtain⟨its,r,pl,hz⟩:=I.list hq;refine SeqAt.notIn_listAt (g7 x) pl.isList (λw hw=>pP rx fx r fs w (by simpa using hw)) ⟨.bl _,H,I,rfl,?_⟩;rw[show its.toArray.any (g7 x)=its.any (g7 x) by simp,pO r fs];exact q
 .obtain⟨its,r,pl,hz⟩:=I.tuple hq;refine SeqAt.notIn_tupleAt (g7 x) pl (λw hw=>pP rx fx r fs w (by simpa using hw)) ⟨.bl _,H,I,rfl,?_⟩;rw[show its.toArray.any (g7 x)=its.any (g7 x) by simp,pO r fs];exact q
theorem S8:b7 X (.builtin "len") (λxs H Q=>∃p ys,xs=[.ref p]/\(bH X.K H p ys\/bU X.K H p ys)/\Q (.int ys.length) H):=by
 intro pins s Z H xs us Q I r h;obtain⟨p,ys,rfl,hq,q⟩:=h;obtain⟨u,rfl,rx⟩:=vals1 r;cases rx;have hn:=mO;rcases hq with hq|hq
 .obtain⟨its,r',pl,hz⟩:=I.list hq;have hlen:=r'.length;exact Calls.call_len_list pl.isList (by simp only[Bg]<;>lia) ⟨.int ys.length,H,I.tok _,⟨s.toks+1,by rw[Bg,hlen]⟩,q⟩
 .obtain⟨its,r',pl,hz⟩:=I.tuple hq;have hlen:=r'.length;exact len_tuple pl (by simp only[Bg]<;>lia) ⟨.int ys.length,H,I.tok _,⟨s.toks+1,by rw[Bg,hlen]⟩,q⟩
theorem S9:b7 X (.builtin "len") (λxs H Q=>∃z,xs=[.str z]/\z.length<=Ap/\Q (.int z.length) H):=by
 intro pins s Z H xs us Q I r h;obtain⟨z,rfl,hz,q⟩:=h;obtain⟨u,rfl,t,rfl⟩:=vals1 r;have hn:=mO;exact len_str (by lia) ⟨.int z.length,H,I.tok _,⟨_,rfl⟩,q⟩
theorem b7.or{f:Ae}{r r':List V->Hp->VK->Prop}(h:b7 X f r)(h':b7 X f r'):b7 X f (λxs H Q=>r xs H Q\/r' xs H Q):=by
 intro pins s Z H xs us Q I rs q;rcases q with q|q
 .exact h pins s Z H xs us Q I rs q
 .exact h' pins s Z H xs us Q I rs q
theorem TC:b7 X (.type "list") (λxs H Q=>∃p ys,xs=[.ref p]/\(bH X.K H p ys\/bU X.K H p ys)/\∀l,H l=none->Q (.ref l) (aQ H l (.lst ys))):=by
 intro pins s Z H xs us Q I r h;obtain⟨p,ys,rfl,hq,q⟩:=h;obtain⟨u,rfl,rx⟩:=vals1 r;cases rx;have fin:∀(its:List Ae),aW ys its->ys.length<=Ap->∀(h':Heap) (c':Nat),(∀b o',s.heap.get? b=some o'->h'.get? b=some o')->
   h'.get? s.heap.objs.size=some {cls:=.type "list",dict:=none,data:=.seq its.toArray c',slots:=#[]}->EP X pins Z Q (.ref s.heap.objs.size) {s with heap:=h'}:=λits r' hz h' c' kp e=>
  ⟨.ref s.heap.objs.size,_,I.laid (t':=s.toks) kp (Ag _) (show b8 X.prog X.w _ h' _ (.lst ys) from⟨hz,its,c',r',e⟩),rfl,q _ (I.hok.fresh (Ag _))⟩
 rcases hq with hq|hq
 .obtain⟨its,r',pl,hz⟩:=I.list hq;have hlen:=r'.length;obtain⟨o,ho,hc,n,hd⟩:=pl.isList;exact call_list_seq p (.inl rfl) ho hc hd (λh' c' kp e=>fin its r' hz h' c' kp e) (by simp only[Bg]<;>lia)
 .obtain⟨its,r',pl,hz⟩:=I.tuple hq;have hlen:=r'.length;obtain⟨o,ho,hc,n,hd⟩:=pl;exact call_list_seq p (.inr rfl) ho hc hd (λh' c' kp e=>fin its r' hz h' c' kp e) (by simp only[Bg]<;>lia)
theorem TF:b7 X (.type "tuple") (λxs H Q=>∃p ys,xs=[.ref p]/\((bH X.K H p ys/\∀l,H l=none->Q (.ref l) (aQ H l (.tup ys)))\/(bU X.K H p ys/\Q (.ref p) H))):=by
 intro pins s Z H xs us Q I r h;obtain⟨p,ys,rfl,h⟩:=h;obtain⟨u,rfl,rx⟩:=vals1 r;cases rx;rcases h with⟨hq,q⟩|⟨hq,q⟩
 .obtain⟨its,r',pl,hz⟩:=I.list hq;have hlen:=r'.length;refine call_tuple_list pl.isList (λh' kp=>?_) (by simp only[Bg]<;>lia);have I1:Inv X pins Z H {s with heap:=h'}:=I.kept (t':=s.toks) kp;have I2:Inv X pins Z (aQ H h'.objs.size (.tup ys)) {s with heap:=h'.push {cls:=.type "tuple",data:=.seq its.toArray}}:=
   I1.laid (t':=s.toks) (λb o e=>Am _ e) (Ag _) (show b8 X.prog X.w _ _ _ (.tup ys) from⟨hz,its,r',IsTup.new _ _⟩)
  exact⟨.ref h'.objs.size,_,I2,rfl,q _ (I1.hok.fresh (Ag _))⟩
 .obtain⟨its,r',pl,hz⟩:=I.tuple hq;exact call_tuple_same pl ⟨.ref p,H,I,rfl,q⟩
def rZ(K:Ab)(T:String)(x:V)(H:Hp):Prop:=match x with
 | .str _=>T = "str"
 | .int _=>T = "int"
 | .ref p=>(T = "list"/\∃xs,bH K H p xs)\/(T = "tuple"/\∃o,K.lookup p=some o/\o.cls=.type "tuple"/\o.dict=none)\/
   (T = "dict"/\((∃kvs,Rd H p (.dK kvs))\/∃kvs,Rd H p (.dT kvs)))\/(T = "set"/\∃S n,H p=some (.set S n))
 | _=>False
theorem EG{pins:List (Addr×Obj)}{Z:St}{H:Hp}{s:Aj}{T:String}{x:V}{v:Ae}(I:Inv X pins Z H s)(r:RelV x v)(ty:rZ X.K T x H):
  s.TypeIs v T/\∀a,v=.ref a->∃ob,s.heap.get? a=some ob/\ob.dict=none:=by
 cases x with
 | str z=>
  obtain⟨t,rfl⟩:=r;cases (show T = "str" from ty);exact⟨typeIs_str s z t,λ_ e=>nomatch e⟩
 | int i=>
  obtain⟨t,rfl⟩:=r;cases (show T = "int" from ty);exact⟨typeIs_int s i t,λ_ e=>nomatch e⟩
 | ref p=>
  cases r;rcases ty with⟨rfl,xs,hq⟩|⟨rfl,o,hk,hc,hd⟩|⟨rfl,hk⟩|⟨rfl,S,n,hk⟩
  .obtain⟨its,_,pl,_⟩:=I.list hq;refine⟨pl.isList.typeIs,λa e=>?_⟩;cases e;obtain⟨o,n,e,c,hd,_⟩:=pl;exact⟨o,e,hd⟩
  .refine⟨⟨o,I.kIn p o hk,hc⟩,λa e=>?_⟩;cases e;exact⟨o,I.kIn _ o hk,hd⟩
  .have z:∃o,s.heap.get? p=some o/\o.ExactDict:=by
    rcases hk with⟨kvs,hk⟩|⟨kvs,hk⟩
    .obtain⟨_,_,_,_,o,_,_,e,ex,_⟩:=hk.ok I.hok;exact⟨o,e,ex⟩
    .obtain⟨_,_,_,_,o,_,_,e,ex,_⟩:=hk.ok I.hok;exact⟨o,e,ex⟩
   obtain⟨o,e,ex⟩:=z;refine⟨⟨o,e,ex.1⟩,λa e2=>?_⟩;cases e2;exact⟨o,e,ex.2.1⟩
  .obtain⟨o,_,_,_,e,ex,_⟩:=I.hok p _ hk;refine⟨⟨o,e,ex.1⟩,λa e2=>?_⟩;cases e2;exact⟨o,e,ex.2.1⟩
 | _=>exact Ge ty
def TH(K:Ab)(T:String)(r:V->List V->Hp->VK->Prop)(to:TE):TE:=λZ H Q=>to Z H λx H1=>rZ K T x H1/\r x [] H1 Q
def TJ(K:Ab)(T:String)(r:V->List V->Hp->VK->Prop)(to:TE)(t:TA):TE:=λZ H Q=>to Z H λx H1=>rZ K T x H1/\t Z H1 λxs H2=>r x xs H2 Q
variable {o e:Expr}{es:List Expr}{to:TE}{t:TA}{name:Str}{apos cpos:Pos}{T id:String}{r:V->List V->Hp->VK->Prop}
theorem EH(pa:PlainAttrs T)(slot:Slot T name id)(hty:typeOf (.builtin id)=pure (.type "method_descriptor"))(hm:iS X id r)(ho:PE X o to)(hbase:Ia o name X.env (eval o X.env)=eval o X.env:=by rfl)(hline:(apos.endLine==cpos.line)=true:=by rfl):PE X (.Call (.Attribute o name apos) [] [] cpos) (TH X.K T r to):=by
 intro pins s Z H Q I h;refine wpAny_Call_method0_late hbase hline (a8 (ho pins s Z H _ I h) λv s1 ⟨x,H1,I1,r1,ty,q1⟩=>?_);obtain⟨h1,h2⟩:=EG I1 r1 ty;exact⟨T,id,pa,slot,hty,h1,h2,Calls.callWith_builtin rfl (PySem.evalArgs_none (hm pins s1 Z H1 x [] v [] Q I1 r1 .nil q1))⟩
theorem TL(pa:PlainAttrs T)(slot:Slot T name id)(hty:typeOf (.builtin id)=pure (.type "method_descriptor"))(hm:iS X id r)(ho:PE X o to)(ha:PA X (e::es) t)(hbase:Ia o name X.env (eval o X.env)=eval o X.env:=by rfl)(hfew:((Hk cpos (Br (e::es) X.env)).all (λx=>!x.1)&&(backToKw cpos (Mh [] X.env)).all (λx=>x.1.isSome)
  &&decide ((e::es).length+([]:List Keyword).length+(if ([]:List Keyword).isEmpty then 0 else 1)<30))=true:=by rfl)(hline:(apos.endLine==cpos.line)=true:=by rfl)(hs:Br (e::es) X.env=(false,eval e X.env)::Br es X.env:=by rfl)(hplain:(Hk cpos (Br es X.env)).any (·.1)=false:=by rfl):
  PE X (.Call (.Attribute o name apos) (e::es) [] cpos) (TJ X.K T r to t):=by
 intro pins s Z H Q I h;refine wpAny_Call_method_late hbase hfew hline rfl (a8 (ho pins s Z H _ I h) λv s1 ⟨x,H1,I1,r1,ty,q1⟩=>?_);obtain⟨h1,h2⟩:=EG I1 r1 ty;refine⟨T,id,pa,slot,hty,h1,h2,?_⟩;have hA:=ha cpos pins s1 Z H1 _ I1 q1;rw[hs]at hA⊢;refine Calls.callWith_builtin (by show(false||(Hk cpos (Br es X.env)).any (·.1))=false;rw[hplain]<;>rfl) (Calls.evalArgs_plain ?_);exact a8 hA λus s2 ⟨vs,H2,I2,r2,q2⟩=>hm pins s2 Z H2 x vs v us Q I2 r1 r2 q2
end
def vW(X:Cx)(id:String)(r:V->List V->Hp->VK->Prop):Prop:=
 ∀(pins:List (Addr×Obj)) (s:Aj) (Z:St) (H:Hp) (x:V) (xs:List V) (v:Ae) (us:List Ae) (Q:VK),Inv X pins Z H s->RelV x v->aW xs us->r x xs H Q->
  Bo (Bw X.prog X.w) X.A (call (.builtin id) (v::us)) (EP X pins Z Q) X.xe s
theorem aW.one:∀{x:V} {us:List Ae},aW [x] us->∃u,us=[u]/\RelV x u
 | _,_,.cons r .nil=>⟨_,rfl,r⟩
theorem aW.zero:∀{us:List Ae},aW [] us->us=[]
 | _,.nil=>rfl
theorem aW.dropLast{xs:List V}{us:List Ae}(h:aW xs us):aW xs.dropLast us.dropLast:=by
 induction h with
 | nil=>exact .nil
 | cons r t ih=>
  cases t with
  | nil=>exact .nil
  | cons q t'=>exact .cons r ih
theorem aW.rep{xs:List V}{us:List Ae}(h:aW xs us):∀k:Nat,aW (Cg k xs).flatten (Cg k us).flatten
 | 0=>.nil
 | k+1=>by
  rw[Fy,Fy,Gx,Gx];exact aW.append h (aW.rep h k)
theorem TM{O:Type}(l:List O):l.eraseIdx (l.length-1)=l.dropLast:=by
 induction l with
 | nil=>rfl
 | cons a r ih=>
  cases r with
  | nil=>rfl
  | cons b r=>
   have e:(a::b::r).length-1=((b::r).length-1)+1:=by
    have h1:(a::b::r).length=r.length+2:=rfl;have h2:(b::r).length=r.length+1:=rfl;lia
   rw[e,List.eraseIdx_cons_succ,ih]
   all_goals rfl
theorem foldl_rep(its:List Ae):∀(k:Nat) (acc:List Ae),
  List.foldl (λx1 x2=>x1++x2) acc.toArray (Cg k its.toArray)=(acc++(Cg k its).flatten).toArray
 | 0,acc=>by simp
 | k+1,acc=>by
  have e:acc.toArray++its.toArray=(acc++its).toArray:=by simp
  have e2:(acc++its)++(Cg k its).flatten=acc++(Cg (k+1) its).flatten:=by
   rw[Fy,Gx,Dj]
  rw[<-e2,<-foldl_rep its k (acc++its),<-e,Fy,Ex]
section
variable {X:Cx}{pins:List (Addr×Obj)}{Z:St}{H:Hp}{s:Aj}{l b:Addr}{xs ys zs:List V}
theorem Inv.lset{its its':List Ae}{n:Nat}{f:Array Ae->Array Ae}{t':Nat}(I:Inv X pins Z H s)(hH:H l=some (.lst xs))(e:s.heap.get? l=some {cls:=.type "list",data:=.seq its.toArray n})(hf:f its.toArray=its'.toArray)(hv:aW ys its')(hz:ys.length<=Ap):
  Inv X pins Z (aQ H l (.lst ys)) {s with heap:=s.heap.update l (Hl f),toks:=t'}:=by
 have q:=PySem.IsL.update e f;rw[hf]at q;refine I.write (x:=l) (e:=l) (by rw[hH];exact trivial) (.inl rfl) (λb' u hb hu=>(Hi s.heap (Hl f) (Co hb)).trans hu) ⟨_,q⟩ ?_;exact⟨hz,its',_,hv,q⟩
theorem Inv.lnew{its:List Ae}{t':Nat}(I:Inv X pins Z H s)(hv:aW ys its)(hz:ys.length<=Ap):
  Inv X pins Z (aQ H s.heap.objs.size (.lst ys)) {s with heap:=s.heap.push {cls:=.type "list",data:=.seq its.toArray},toks:=t'}:=
 I.laid (λ_ _ q=>Am _ q) (Ag _) ⟨hz,its,0,hv,Be _ rfl⟩
theorem Inv.fresh(I:Inv X pins Z H s):H s.heap.objs.size=none:=I.hok.fresh (Ag _)
theorem Inv.lstM(I:Inv X pins Z H s)(hH:H l=some (.lst xs)):xs.length<=Ap/\∃(its:List Ae) (n:Nat),aW xs its/\xs.length=its.length/\s.heap.get? l=some {cls:=.type "list",data:=.seq its.toArray n}:=by
 obtain⟨z,its,n,r,e⟩:=I.hok l _ hH;exact⟨z,its,n,r,r.length,e⟩
theorem TN{n:Nat}(h:n<=Ap):Ki n=false:=by
 unfold Ki;exact decide_eq_false (by lia)
end
section
variable {X:Cx}
def rAppend:V->List V->Hp->VK->Prop:=λx vs H Q=>∃l xs y,x=.ref l/\vs=[y]/\H l=some (.lst xs)/\xs.length<Ap/\Q .non (aQ H l (.lst (xs++[y])))
theorem EI:vW X "list.append" rAppend:=by
 intro pins s Z H x vs v us Q I rx rv h;obtain⟨l,xs,y,rfl,rfl,hH,hz,q⟩:=h;cases rx;obtain⟨u,rfl,ru⟩:=rv.one;obtain⟨z,its,n,r,hl,e⟩:=I.lstM hH;refine Mx Ds ⟨_,e,rfl⟩ F.entry_list_append (F.args_list_append_2 _ _) (PySem.list_append l its.toArray n u (by rw[Bg];lia)) ⟨e,?_⟩;refine⟨.non,_,I.lset (its':=its++[u]) hH e (by simp) (r.append (.cons ru .nil)) ?_,rfl,q⟩;rw[Ar,Bz];lia
def rPop:V->List V->Hp->VK->Prop:=λx vs H Q=>∃l xs y,x=.ref l/\vs=[]/\H l=some (.lst xs)/\xs[xs.length-1]? = some y/\Q y (aQ H l (.lst xs.dropLast))
theorem TQ:vW X "list.pop" rPop:=by
 intro pins s Z H x vs v us Q I rx rv h;obtain⟨l,xs,y,rfl,rfl,hH,hy,q⟩:=h;cases rx;have hus:=rv.zero;subst hus;obtain⟨z,its,n,r,hl,e⟩:=I.lstM hH;obtain⟨u,hu,ru⟩:=r.get hy;have hy':its.toArray[its.toArray.size-1]? = some u:=by
  show its.toArray[its.length-1]? = some u;rw[<-Em,<-hl];exact hu
 refine Mx F.slot_list_pop ⟨_,e,rfl⟩ F.entry_list_pop (F.args_list_pop_1 _) (MeetsSeq.list_pop_last l its.toArray n u hy' (by rw[Bg];lia)) ⟨e,?_⟩;refine⟨y,_,I.lset (its':=its.dropLast) hH e ?_ r.dropLast ?_,ru,q⟩
 .show its.toArray.eraseIdxIfInBounds (its.toArray.size-1)=its.dropLast.toArray;rw[Bg,List.eraseIdxIfInBounds_toArray,TM]
 .rw[List.length_dropLast];lia
def TR:R2:=λx y H Q=>∃l b xs zs,x=.ref l/\y=.ref b/\H l=some (.lst xs)/\H b=some (.lst zs)/\xs.length+zs.length<=Ap/\∀p,H p=none->Q (.ref p) (aQ H p (.lst (xs++zs)))
theorem TU:a9 X (Ek .Add) TR:=by
 intro pins s Z H x y v u Q I rx ry h;obtain⟨l,b,xs,zs,rfl,rfl,hH,hB,hz,q⟩:=h;cases rx;cases ry;obtain⟨z,its,n,r,hl,e⟩:=I.lstM hH;obtain⟨z2,its2,n2,r2,hl2,e2⟩:=I.lstM hB;refine PySem.P.add_list e e2 ?_ (by rw[Bg,Bg];lia);have ea:its.toArray++its2.toArray=(its++its2).toArray:=by simp
 rw[ea];exact⟨.ref _,_,I.lnew (t':=s.toks) (r.append r2) (by rw[Ar];lia),rfl,q _ I.fresh⟩
def TV:R2:=λx y H Q=>∃l k xs,x=.ref l/\y=.int k/\H l=some (.lst xs)/\-(2 ^ 63)<=k/\k<2 ^ 63/\xs.length*k.toNat<=Ap/\
 ∀p,H p=none->Q (.ref p) (aQ H p (.lst (Cg k.toNat xs).flatten))
theorem TX{O:Type}(xs:List O)(k:Nat):(Cg k xs).flatten.length=k*xs.length:=by
 induction k with
 | zero=>simp
 | succ k ih=>rw[Fy,Gx,Ar,ih,Im,Nat.add_comm]
theorem TY:a9 X (Ek .Mult) TV:=by
 intro pins s Z H x y v u Q I rx ry h;obtain⟨l,k,xs,rfl,rfl,hH,h1,h2,hz,q⟩:=h;cases rx;obtain⟨t,rfl⟩:=ry;obtain⟨z,its,n,r,hl,e⟩:=I.lstM hH;have hlen:its.toArray.size*k.toNat<=Ap:=by rw[Bg,<-hl];exact hz
 have hcap:¬its.toArray.size*k.toNat > (2 ^ 63-1)/8:=by
  have:(Ap:Nat)<=(2 ^ 63-1)/8:=by decide
  lia
 have hfit:¬(!Builtin.List.listFitsIndex k)=true:=by
  rw[fitsIndex_both h1 h2];exact Av
 have hlong:¬Ki (its.toArray.size*k.toNat)=true:=by
  rw[TN hlen];exact Av
 have hnew:List.foldl (λx1 x2=>x1++x2) #[] (Cg (if its.toArray.isEmpty=true then 0 else k.toNat) its.toArray)=(Cg k.toNat its).flatten.toArray:=by
  have f0:∀m:Nat,List.foldl (λx1 x2=>x1++x2) #[] (Cg m its.toArray)=(Cg m its).flatten.toArray:=λm=>by
   have:=foldl_rep its m [];rw[Ci]at this;exact this
  rw[f0];cases its with
  | nil=>simp
  | cons a r'=>rw[if_neg (by simp)]
 refine wpAny_binaryOp_repeat_ref (T:="list") (U:="int") (by decide) ⟨_,e,rfl⟩ (λs'=>typeIs_int s' k t) noFill_list_mul F.fills_int_mul F.slot_int_rmul repeat_list F.slot_int_index.lookup
  (Mx F.slot_int_rmul (typeIs_int s k t) F.entry_int_rmul (F.args_int_rmul_2 _ _) (int___rmul___int_list k t l its.toArray n)
   ⟨e,rfl,⟨_,e,rfl⟩,Mx F.slot_list_mul ⟨_,e,rfl⟩ F.entry_list_mul (F.args_list_mul_2 _ _) (AutoListH.list___mul___list_int_3 l its.toArray n k t hfit hcap hlong) ⟨e,?_⟩⟩)
 rw[hnew];exact⟨.ref _,_,I.lnew (t':=s.toks) (r.rep k.toNat) (by rw[TX,Nat.mul_comm];exact hz),rfl,q _ I.fresh⟩
end
section
variable {U:Type}[DecidableEq U]
def gC(kvs:List (U×V))(k:U):Option V:=(kvs.find? λkv=>decide (kv.1=k)).map (·.2)
def d5(kvs:List (U×V))(k:U)(v:V):List (U×V):=
 if (kvs.any λkv=>decide (kv.1=k))=true then kvs.map (λkv=>if kv.1=k then(kv.1,v) else kv) else kvs++[(k,v)]
def mS(kvs:List (U×V))(k:U):List (U×V):=kvs.filter λkv=>decide (kv.1≠k)
theorem r6{p:U×V}{r:List (U×V)}{k:U}(e:p.1=k):gC (p::r) k=some p.2:=by simp[gC,Ey,e]
theorem r9{p:U×V}{r:List (U×V)}{k:U}(e:¬p.1=k):gC (p::r) k=gC r k:=by simp[gC,Ey,e]
theorem EJ(k:U):∀kvs:List (U×V),(kvs.any λkv=>decide (kv.1=k))=(gC kvs k).isSome
 | []=>rfl
 | p::r=>by
  rw[Ei]
  by_cases e:p.1=k
  .simp only[r6 e,decide_eq_true e,Bool.true_or,Option.isSome_some]
  .rw[r9 e,decide_eq_false e,Bool.false_or];exact EJ k r
theorem nY(kvs:List (U×V))(k:U)(v:V):(d5 kvs k v).length<=kvs.length+1:=by
 unfold d5;split
 .rw[Aa];lia
 .rw[Ar,Az,Mr];lia
theorem fV.isSome_eq{o:Option V}{u:Option Ae}(r:fV o u):o.isSome=u.isSome:=by
 cases o with
 | none=>cases u with
  | none=>rfl
  | some _=>exact(show False from r).elim
 | some _=>cases u with
  | none=>exact(show False from r).elim
  | some _=>rfl
theorem fV.getD{o:Option V}{u:Option Ae}{d:V}{d':Ae}(r:fV o u)(rd:RelV d d'):RelV (o.getD d) (u.getD d'):=by
 cases o with
 | none=>cases u with
  | none=>exact rd
  | some _=>exact(show False from r).elim
 | some _=>cases u with
  | none=>exact(show False from r).elim
  | some _=>exact r
theorem KV.val{kvs:List (U×V)}{vs:List (U×Ae)}(r:KV kvs vs)(k:U):fV (gC kvs k) (valueAt vs k):=by
 unfold KV at r
 induction r with
 | nil=>exact True.intro
 | @cons p q ps qs h t ih=>
  obtain⟨h1,h2⟩:=h
  by_cases e:p.1=k
  .have e':q.1=k:=h1.symm.trans e;have b:valueAt (q::qs) k=some q.2:=by simp[valueAt,Ey,e']
   rw[r6 e,b];exact h2
  .have e':¬q.1=k:=λz=>e (h1.trans z);have b:valueAt (q::qs) k=valueAt qs k:=by simp[valueAt,Ey,e']
   rw[r9 e,b];exact ih
theorem KV.any{kvs:List (U×V)}{vs:List (U×Ae)}(r:KV kvs vs)(k:U):(kvs.any λkv=>decide (kv.1=k))=vs.any λkv=>decide (kv.1=k):=by
 unfold KV at r
 induction r with
 | nil=>rfl
 | cons h t ih=>rw[Ei,Ei,ih,h.1]
theorem KV.repl{kvs:List (U×V)}{vs:List (U×Ae)}(r:KV kvs vs)(k:U){y:V}{u:Ae}(ry:RelV y u):
  KV (kvs.map λkv=>if kv.1=k then(kv.1,y) else kv) (vs.map λkv=>if kv.1=k then(kv.1,u) else kv):=by
 unfold KV at r⊢
 induction r with
 | nil=>exact .nil
 | @cons p q ps qs h t ih=>
  rw[Ay,Ay];refine .cons ?_ ih;obtain⟨h1,h2⟩:=h
  by_cases e:p.1=k
  .rw[if_pos e,if_pos (h1.symm.trans e)];exact⟨h1,ry⟩
  .rw[if_neg e,if_neg (λz=>e (h1.trans z))];exact⟨h1,h2⟩
theorem KV.put{kvs:List (U×V)}{vs:List (U×Ae)}(r:KV kvs vs)(k:U){y:V}{u:Ae}(ry:RelV y u):KV (d5 kvs k y) (stored vs k u):=by
 unfold d5 stored;rw[r.any k]
 by_cases e:(vs.any λkv=>decide (kv.1=k))=true
 .rw[if_pos e,if_pos e];exact r.repl k ry
 .rw[if_neg e,if_neg e];exact Paired.snoc r ⟨rfl,ry⟩
theorem KV.length{kvs:List (U×V)}{vs:List (U×Ae)}(r:KV kvs vs):kvs.length=vs.length:=Dr r
theorem TZ(kvs:List (U×V))(k:U):(mS kvs k).length<=kvs.length:=Ef _ _
end
theorem lP{P:Ca}{w:Ct}{k:aC}{u:Ae}(r:RelV (kV k) u):(cR P w).is k u=true:=by
 cases k with
 | inl i=>obtain⟨t,e⟩:=(show ∃t,u=Value.int i t from r);subst e;exact OA P w i t
 | inr x=>obtain⟨t,e⟩:=(show ∃t,u=Value.str x t from r);subst e;exact OB P w x t
theorem EK{P:Ca}{w:Ct}:∀{ks:List aC} {us:List Ae},aW (ks.map kV) us->ItemsAre (cR P w) ks us
 | [],_,r=>by rw[Gw]at r;cases r;exact .nil
 | k::ks,_,r=>by
  rw[Ay]at r;cases r with
  | cons h t=>exact .cons (lP h) (EK t)
abbrev KT(H:Hp):List (List aC×V)->List (List aC×Addr×Ae)->Prop:=Iv λp q=>p.1=q.1/\H q.2.1=some (.tup (p.1.map kV))/\RelV p.2 q.2.2
theorem KT.val{H:Hp}{kvs:List (List aC×V)}{xs:List (List aC×Addr×Ae)}(r:KT H kvs xs)(k:List aC):fV (gC kvs k) ((Mu xs k).map (·.2)):=by
 induction r with
 | nil=>exact True.intro
 | @cons p q ps qs h t ih=>
  obtain⟨h1,_,h2⟩:=h
  by_cases e:p.1=k
  .have e':q.1=k:=h1.symm.trans e;have b:Mu (q::qs) k=some q.2:=by simp[Mu,Ey,e']
   rw[r6 e,b];exact h2
  .have e':¬q.1=k:=λz=>e (h1.trans z);have b:Mu (q::qs) k=Mu qs k:=by simp[Mu,Ey,e']
   rw[r9 e,b];exact ih
theorem KT.repl{H:Hp}{kvs:List (List aC×V)}{xs:List (List aC×Addr×Ae)}(r:KT H kvs xs)(k:List aC){y:V}{u:Ae}(ry:RelV y u):
  KT H (kvs.map λkv=>if kv.1=k then(kv.1,y) else kv) (xs.map (putAt k u)):=by
 induction r with
 | nil=>exact .nil
 | @cons p q ps qs h t ih=>
  rw[Ay,Ay];refine .cons ?_ ih;obtain⟨h1,h2,h3⟩:=h;unfold putAt
  by_cases e:p.1=k
  .rw[if_pos e,if_pos (h1.symm.trans e)];exact⟨h1,h2,ry⟩
  .rw[if_neg e,if_neg (λz=>e (h1.trans z))];exact⟨h1,h2,h3⟩
theorem KT.put{H:Hp}{kvs:List (List aC×V)}{xs:List (List aC×Addr×Ae)}(r:KT H kvs xs)(k:List aC){b:Addr}{y:V}{u:Ae}(hb:H b=some (.tup (k.map kV)))(ry:RelV y u):
  KT H (d5 kvs k y) (Nk xs k b u):=by
 have e:(kvs.any λkv=>decide (kv.1=k))=(Mu xs k).isSome:=by
  rw[EJ,(r.val k).isSome_eq,Option.isSome_map]
 unfold d5 Nk;rw[e]
 by_cases q:(Mu xs k).isSome=true
 .rw[if_pos q,if_pos q];exact r.repl k ry
 .rw[if_neg q,if_neg q];exact Paired.snoc r ⟨rfl,hb,ry⟩
theorem KT.keeps{H H':Hp}{kvs:List (List aC×V)}{xs:List (List aC×Addr×Ae)}(r:KT H kvs xs)(ht:∀b ys,H b=some (.tup ys)->H' b=some (.tup ys)):KT H' kvs xs:=
 Paired.mapP r λ_ _ z=>⟨z.1,ht _ _ z.2.1,z.2.2⟩
section
variable {P:Ca}{w:Ct}{H:Hp}{h:Heap}{a:Addr}
theorem vX{u:HO}(ok:cI P w H h)(e:Rd H a u):b8 P w H h a u:=e.ok ok
theorem lQ{kvs:List (aC×V)}(ok:cI P w H h)(e:Rd H a (.dK kvs)):kvs.length<=Ap/\(a==Fg)=false/\∃vs,KV kvs vs/\h.DictOf (cR P w) a vs:=
 show b8 P w H h a (.dK kvs) from vX ok e
theorem vY{kvs:List (aC×V)}(ok:cI P w H h)(e:H a=some (.dK kvs)):kvs.length<=Ap/\(a==Fg)=false/\∃vs,KV kvs vs/\h.DictOf (cR P w) a vs:=lQ ok (.inl e)
theorem kD{ks:List aC}(ok:cI P w H h)(e:H a=some (.tup (ks.map kV))):(Ga (cR P w)).is h ks a:=by
 obtain⟨_,its,r,o,h1,h2,n,h3⟩:=(show b8 P w H h a (.tup (ks.map kV)) from ok a _ e);exact⟨o,its.toArray,n,h1,h2,h3,by simpa using EK r⟩
theorem mT{kvs:List (List aC×V)}(ok:cI P w H h)(e:Rd H a (.dT kvs)):kvs.length<=Ap/\(a==Fg)=false/\
  ∃xs,KT H kvs xs/\h.DictOfH (Ga (cR P w)) a xs:=by
 obtain⟨z,y,xs,r,o,es,ep,h1,h2,h3,h4,h5⟩:=(show b8 P w H h a (.dT kvs) from vX ok e);refine⟨z,y,xs,r,o,es,ep,h1,h2,h3,h4,λx hx=>?_,h5⟩;have all:∀{l:List (List aC×V)} {m:List (List aC×Addr×Ae)},KT H l m->∀x∈m,(Ga (cR P w)).is h x.1 x.2.1:=by
  intro l m q
  induction q with
  | nil=>intro x hx;exact nomatch hx
  | @cons p q ps qs hq t ih=>
   intro x hx;rcases Bj.mp hx with e|hx
   .subst e;exact kD ok (by rw[<-hq.1];exact hq.2.1)
   .exact ih x hx
 exact all r x hx
theorem vZ{kvs:List (List aC×V)}(ok:cI P w H h)(e:H a=some (.dT kvs)):kvs.length<=Ap/\(a==Fg)=false/\
  ∃xs,KT H kvs xs/\h.DictOfH (Ga (cR P w)) a xs:=mT ok (.inl e)
end
def g8(H:Hp)(a:Addr)(y:V)(r:Option V):Prop:=
 (∃kvs k,Rd H a (.dK kvs)/\y=kV k/\r=gC kvs k)\/∃kvs k b,Rd H a (.dT kvs)/\y=.ref b/\H b=some (.tup (k.map kV))/\r=gC kvs k
def lR(H:Hp)(a:Addr)(y v:V)(H':Hp):Prop:=
 (∃kvs k,H a=some (.dK kvs)/\y=kV k/\kvs.length<Ap/\H'=aQ H a (.dK (d5 kvs k v)))\/
 ∃kvs k b,H a=some (.dT kvs)/\y=.ref b/\H b=some (.tup (k.map kV))/\kvs.length<Ap/\H'=aQ H a (.dT (d5 kvs k v))
theorem lR.k{H:Hp}{a:Addr}{kvs:List (aC×V)}{k:aC}{v:V}(e:H a=some (.dK kvs))(hl:kvs.length<Ap):lR H a (kV k) v (aQ H a (.dK (d5 kvs k v))):=.inl ⟨kvs,k,e,rfl,hl,rfl⟩
theorem lR.t{H:Hp}{a b:Addr}{kvs:List (List aC×V)}{k:List aC}{v:V}(e:H a=some (.dT kvs))(eb:H b=some (.tup (k.map kV)))(hl:kvs.length<Ap):
  lR H a (.ref b) v (aQ H a (.dT (d5 kvs k v))):=.inr ⟨kvs,k,b,e,rfl,eb,hl,rfl⟩
section
variable {X:Cx}{pins:List (Addr×Obj)}{Z:St}{H:Hp}{s:Aj}{a:Addr}{y v:V}{u r:Ae}{o:Option V}{A:Dg}{E:Ae->Aj->Prop}
theorem Inv.big(I:Inv X pins Z H s):Fg<s.heap.objs.size:=by
 have h:Eh<s.heap.objs.size:=(I.mod.glob.keeps I.bk).lt;exact Nat.lt_trans (by decide) h
theorem T1{Q:Ae->Aj->Prop}(hu:A.units+1<Fo)(I:Inv X pins Z H s)(g:g8 H a y (some v))(ry:RelV y u)(h:∀w' s',Inv X pins Z H s'->RelV v w'->Q w' s'):
  Bo (Bw X.prog X.w) A (getItem (.ref a) u) Q E s:=by
 rcases g with⟨kvs,k,e,ey,l⟩|⟨kvs,k,b,e,ey,eb,l⟩
 .subst ey;obtain⟨z,hd,vs,rel,dd⟩:=lQ I.hok e;obtain⟨w',hw,rw'⟩:=fV.some_of (v:=v) (o:=valueAt vs k) (by rw[l];exact rel.val k);exact wpAny_getItem_of (lP ry) dd.mapOf hw (h w' _ (I.tok _) rw')
 .subst ey;cases (show u=Value.ref b from ry);obtain⟨z,hd,xs,rel,dd⟩:=mT I.hok e;obtain⟨w',hw,rw'⟩:=fV.some_of (v:=v) (o:=(Mu xs k).map (·.2)) (by rw[l];exact rel.val k);obtain⟨p,hp,hp2⟩:=Bb.mp hw;refine wpAny_getItem_heap (Ff hu) (kD I.hok eb) dd hp ?_;rw[hp2];exact h w' _ (I.tok _) rw'
theorem T2{Q:Ae->Aj->Prop}(hu:A.units+1<Fo)(I:Inv X pins Z H s)(g:g8 H a y o)(ry:RelV y u)(h:∀s',Inv X pins Z H s'->Q (.bool o.isSome) s'):
  Bo (Bw X.prog X.w) A (Cq .In u (.ref a)) Q E s:=by
 rcases g with⟨kvs,k,e,ey,l⟩|⟨kvs,k,b,e,ey,eb,l⟩
 .subst ey;obtain⟨z,hd,vs,rel,dd⟩:=lQ I.hok e;refine wpAny_in_of (lP ry) hd dd.mapOf ?_;rw[<-(rel.val k).isSome_eq,<-l];exact h _ (I.tok _)
 .subst ey;cases (show u=Value.ref b from ry);obtain⟨z,hd,xs,rel,dd⟩:=mT I.hok e;refine wpAny_in_heap (Ff hu) (kD I.hok eb) hd dd ?_;have q:=(rel.val k).isSome_eq;rw[Option.isSome_map]at q;rw[<-q,<-l];exact h _ (I.tok _)
theorem T4{Q:Ae->Aj->Prop}(hu:A.units+1<Fo)(I:Inv X pins Z H s)(g:g8 H a y o)(ry:RelV y u)(h:∀s',Inv X pins Z H s'->Q (.bool (!o.isSome)) s'):
  Bo (Bw X.prog X.w) A (Cq .NotIn u (.ref a)) Q E s:=by
 rcases g with⟨kvs,k,e,ey,l⟩|⟨kvs,k,b,e,ey,eb,l⟩
 .subst ey;obtain⟨z,hd,vs,rel,dd⟩:=lQ I.hok e;refine wpAny_notIn_of (lP ry) hd dd.mapOf ?_;rw[<-(rel.val k).isSome_eq,<-l];exact h _ (I.tok _)
 .subst ey;cases (show u=Value.ref b from ry);obtain⟨z,hd,xs,rel,dd⟩:=mT I.hok e;refine wpAny_notIn_heap (Ff hu) (kD I.hok eb) hd dd ?_;have q:=(rel.val k).isSome_eq;rw[Option.isSome_map]at q;rw[<-q,<-l];exact h _ (I.tok _)
theorem pQ{h':Heap}{t':Nat}{ob:HO}(I:Inv X pins Z H s)(mu:pJ (H a))(hs:Ez a s.heap h')(he:∃q,h'.get? a=some q)(new:b8 X.prog X.w (aQ H a ob) h' a ob):
  Inv X pins Z (aQ H a ob) {s with heap:=h',toks:=t'}:=
 I.write (x:=a) (e:=a) mu (.inl rfl) (λb q hb z=>(hs.2 b hb).trans z) he new
theorem EM{P:Ca}{w:Ct}{H':Hp}{h':Heap}{kvs:List (aC×V)}{vs:List (aC×Ae)}(z:kvs.length<=Ap)(hd:(a==Fg)=false)(rel:KV kvs vs)(dd:h'.DictOf (cR P w) a vs):
  b8 P w H' h' a (.dK kvs):=⟨z,hd,vs,rel,dd⟩
theorem T5{H':Hp}{Q:Unit->Aj->Prop}(hu:A.units+1<Fo)(I:Inv X pins Z H s)(g:lR H a y v H')(ry:RelV y u)(rv:RelV v r)(h:∀s',Inv X pins Z H' s'->Q () s'):
  Bo (Bw X.prog X.w) A (setItem (.ref a) u r) Q E s:=by
 rcases g with⟨kvs,k,e,ey,l,eH⟩|⟨kvs,k,b,e,ey,eb,l,eH⟩
 .subst ey eH;obtain⟨z,hd,vs,rel,dd⟩:=vY I.hok e;have hz:vs.length<=Ap:=by rw[<-rel.length];exact z
  have hl:(d5 kvs k v).length<=Ap:=by have:=nY kvs k v;lia
  refine wpAny_setItem_pairs (hsz:=hz) (lP ry) dd λh' dd' hs=>h _ ?_;have he:∃q,h'.get? a=some q:=let ⟨q,_,_,hq,_⟩:=dd';⟨q,hq⟩;exact pQ I (by rw[e];exact True.intro) hs he (EM hl hd (rel.put k rv) dd')
 .subst ey eH;cases (show u=Value.ref b from ry);obtain⟨z,hd,xs,rel,dd⟩:=vZ I.hok e;have hz:xs.length<=Ap:=by rw[<-Dr rel];exact z
  have hl:(d5 kvs k v).length<=Ap:=by have:=nY kvs k v;lia
  refine wpAny_setItem_heap (hsz:=hz) (Ff hu) (kD I.hok eb) dd λh' dd' hs=>h _ ?_;obtain⟨q,es,ep,hq,h2,h3,h4,_,h5⟩:=dd';refine pQ I (by rw[e];exact True.intro) hs ⟨q,hq⟩ ⟨hl,hd,_,(rel.put k eb rv).keeps λc ys ec=>?_,q,es,ep,hq,h2,h3,h4,h5⟩;rw[bI (vI ec e (λz=>nomatch z))];exact ec
end
section
variable {X:Cx}{pins:List (Addr×Obj)}{Z:St}{H:Hp}{s:Aj}{a:Addr}{kvs:List (aC×V)}{k:aC}{u:Ae}{A:Dg}{E:Ae->Aj->Prop}
theorem T6{Q:Ae->Aj->Prop}(I:Inv X pins Z H s)(e:Rd H a (.dK kvs))(h:∀t s',Inv X pins Z H s'->Q (.int kvs.length t) s'):Bo (Bw X.prog X.w) A (call (.builtin "len") [.ref a]) Q E s:=by
 obtain⟨z,hd,vs,rel,dd⟩:=lQ I.hok e;refine call_len_dict hd dd (by rw[<-rel.length];rw[Mg]at z;lia) ?_;rw[<-rel.length];exact h _ _ (I.tok _)
end
theorem T7{X:Cx}{pins:List (Addr×Obj)}{Z:St}{H:Hp}{s:Aj}{a:Addr}{y:V}{o:Option V}(I:Inv X pins Z H s)(g:g8 H a y o):s.TypeIs (.ref a) "dict":=by
 rcases g with⟨kvs,k,e,_,_⟩|⟨kvs,k,b,e,_,_,_⟩
 .obtain⟨_,_,vs,_,dd⟩:=lQ I.hok e;exact dd.typeIs
 .obtain⟨_,_,xs,_,dd⟩:=mT I.hok e;exact dd.typeIs
theorem T8{P:Ca}{w:Ct}{H:Hp}(h:Heap)(hb:Fg<h.objs.size):b8 P w H (h.push {cls:=.type "dict",data:=.dict #[]}) h.objs.size (.dK []):=
 ⟨Bf _,beq_eq_false_iff_ne.mpr (Co (Bs hb)),[],.nil,Heap.DictOf.new h⟩
theorem T9{P:Ca}{w:Ct}{H:Hp}(h:Heap)(hb:Fg<h.objs.size):b8 P w H (h.push {cls:=.type "dict",data:=.dict #[]}) h.objs.size (.dT []):=
 ⟨Bf _,beq_eq_false_iff_ne.mpr (Co (Bs hb)),[],.nil,_,#[],0,Be _ rfl,⟨rfl,rfl,rfl⟩,rfl,rfl,Gf⟩
def UA:TE:=λ_ H Q=>∀p,H p=none->Q (.ref p) (aQ H p (.dK []))
def UB:TE:=λ_ H Q=>∀p,H p=none->Q (.ref p) (aQ H p (.dT []))
section
variable {X:Cx}{pos:Pos}
theorem UC:PE X (.Dict [] [] pos) UA:=λpins s Z H Q I h=>
 wpAny_Dict_empty ⟨.ref s.heap.objs.size,_,I.laid (a:=s.heap.objs.size) (o:=.dK []) (t':=s.toks) (λ_ _ q=>Am _ q) (Ag _) (T8 s.heap I.big),rfl,h _ (I.hok.fresh (Ag _))⟩
theorem UD:PE X (.Dict [] [] pos) UB:=λpins s Z H Q I h=>
 wpAny_Dict_empty ⟨.ref s.heap.objs.size,_,I.laid (a:=s.heap.objs.size) (o:=.dT []) (t':=s.toks) (λ_ _ q=>Am _ q) (Ag _) (T9 s.heap I.big),rfl,h _ (I.hok.fresh (Ag _))⟩
end
section
variable {X:Cx}{pins:List (Addr×Obj)}{Z:St}{H:Hp}{s:Aj}{a:Addr}{y d:V}{u r:Ae}{o:Option V}{A:Dg}{E:Ae->Aj->Prop}
theorem EN{Q:Ae->Aj->Prop}(hu:A.units+1<Fo)(I:Inv X pins Z H s)(g:g8 H a y o)(ry:RelV y u)(h:∀w' s',Inv X pins Z H s'->RelV (o.getD .non) w'->Q w' s'):
  Bo (Bw X.prog X.w) A (call (.builtin "dict.get") [.ref a,u]) Q E s:=by
 rcases g with⟨kvs,k,e,ey,l⟩|⟨kvs,k,b,e,ey,eb,l⟩
 .subst ey;obtain⟨z,hd,vs,rel,dd⟩:=lQ I.hok e;refine Jc Jo dd.typeIs Jj (PySem.F.args_dict_get_2 _ _) (meets_dict_get (cR X.prog X.w) a (lP ry) hd) ⟨_,dd.mapOf,h _ _ (I.tok _) ?_⟩;rw[l];exact(rel.val k).getD rfl
 .subst ey;cases (show u=Value.ref b from ry);obtain⟨z,hd,xs,rel,dd⟩:=mT I.hok e;refine Jc Jo dd.typeIs Jj (PySem.F.args_dict_get_2 _ _) (meetsH_dict_get (Ga (cR X.prog X.w)) a b hd) ⟨Ff hu,k,xs,kD I.hok eb,dd,h _ _ (I.tok _) ?_⟩;rw[l];exact(rel.val k).getD rfl
theorem EO{Q:Ae->Aj->Prop}(hu:A.units+1<Fo)(I:Inv X pins Z H s)(g:g8 H a y o)(ry:RelV y u)(rd:RelV d r)(h:∀w' s',Inv X pins Z H s'->RelV (o.getD d) w'->Q w' s'):
  Bo (Bw X.prog X.w) A (call (.builtin "dict.get") [.ref a,u,r]) Q E s:=by
 rcases g with⟨kvs,k,e,ey,l⟩|⟨kvs,k,b,e,ey,eb,l⟩
 .subst ey;obtain⟨z,hd,vs,rel,dd⟩:=lQ I.hok e;refine Jc Jo dd.typeIs Jj (PySem.F.args_dict_get_3 _ _ _) (meets_dict_get_default (cR X.prog X.w) a (lP ry) hd r) ⟨_,dd.mapOf,h _ _ (I.tok _) ?_⟩;rw[l];exact(rel.val k).getD rd
 .subst ey;cases (show u=Value.ref b from ry);obtain⟨z,hd,xs,rel,dd⟩:=mT I.hok e;refine Jc Jo dd.typeIs Jj (PySem.F.args_dict_get_3 _ _ _) (meetsH_dict_get_default (Ga (cR X.prog X.w)) a b hd r) ⟨Ff hu,k,xs,kD I.hok eb,dd,h _ _ (I.tok _) ?_⟩;rw[l];exact(rel.val k).getD rd
end
end L2
namespace Att
open PySem PySem.W PySem.Calls PyProof.Rows
theorem UE{P:Params}{h:Heap}:∀(ns:List Int) (vs:List Ae),WellAll P h vs (ns.map WData.int)->IntsAre vs ns:=by
 intro ns
 induction ns with
 | nil=>
  intro vs w;rw[Gw]at w;cases w;exact .nil
 | cons n ns ih=>
  intro vs w;rw[Ay]at w;cases w with
  | cons a b=>
   cases a;exact .cons _ _ (ih _ b)
theorem UG{l:OpenLaw}{n:Nat}(hn:l.most=some n){P:Params}{h:Heap}{args:List WData}{vals:List Ae}(hpre:l.row.toRowW.claim.pre args=true)(hwl:WellAll P h vals args):
  ∃a vs ns,vals=[Value.ref a]/\args=[WData.list (ns.map WData.int)]/\h.get? a=some {cls:=.type "list",data:=.seq vs.toArray}/\IntsAre vs ns/\ns.length<=n:=by
 have hsh:WShape.hasAll [] args [.list .int]=true:=(pre_splitW hpre).1;have hc:l.pre.holds [] {args:=args} = true:=(pre_splitW hpre).2;obtain⟨d,r,rfl,h1,h2⟩:=hasAllW_cons hsh;obtain rfl:=hasAllW_nil h2;obtain⟨xs,rfl,h3⟩:=hasW_list h1;obtain⟨ns,rfl⟩:=items_int h3;have hlen:ns.length<=n:=by
  unfold OpenLaw.pre at hc;have h4:(WTm.not (.lt (.lit (.int (n:Int))) (.len (.arg 0)))).holds [] {args:=[.list (ns.map .int)]} = true:=by
   have h4:=(holds_andW hc).1;rw[hn]at h4;exact h4
  have h5:=condW_of h4 (w_not (w_lt w_lit (w_len_list (w_arg rfl))));rw[Aa]at h5;refine Nat.le_of_not_lt λq=>?_;have q':(n:Int)<((ns.length:Nat):Int):=by lia
  first
   | (rw[decide_eq_true q']at h5;exact absurd h5 (by decide))
   | (simp at h5;lia)
 cases hwl with
 | cons w1 w2=>
  cases w2;cases w1 with
  | list ho hall=>exact⟨_,_,ns,rfl,rfl,ho,UE ns _ hall,hlen⟩
theorem UH(l:OpenLaw)(args:List WData):l.row.toRowW.claim.post args (.bool true) args=true:=
 postW_of (r:=l.row.toRowW) (X:=(true==true))
  (show WShape.has [] (.bool true) .bool=true by first|rfl|decide|simp[WShape.has,WShape.arms,WShape.armsAll])
  (show(WTm.eq .res (.lit (.bool true))).value [] {args:=args,res:=some (.bool true),after:=args} = some (.bool (true==true)) from w_eq_bool (w_res rfl) w_lit) rfl
theorem attach_call{l:OpenLaw}{n:Nat}{q:Ca}{loose:List Str}{XP:(Str->Option Ae)->Heap->Prop}{YP:Ct->Heap->Prop}{d:DefRec}(hn:l.most=some n)(hdf:d.params.defaults=[])(call:∀(w:Ct) (s₀ s1:Aj) (mg mb:Str->Option Ae) (fa:Addr) (o:Obj) (pm cd doc:Ae) (a:Addr) (vs:List Ae) (ns:List Int),
   Ground q loose [] XP w s₀ mg mb s1.heap->YP w s1.heap->
   s1.heap.get? fa=some o->o.data=.func (docDef d.name d.params d.body d.scope pm cd doc)->s1.heap.CodeRec cd d.name->mg d.name=some (.ref fa)->
   s1.heap.get? a=some {cls:=.type "list",data:=.seq vs.toArray}->IntsAre vs ns->ns.length<=n->s1.gens = #[]->
   Mi (Bw l.prog w) callerA (.call (.ref fa) ⟨[.ref a],[]⟩) (λr s'=>r=.ok (.ret (.bool true))/\OldK s1.heap s'.heap/\s'.os=s1.os/\Na s'.gens) s1):
  WalkO q loose XP YP l.row.toRowW d [] (λf vs=>PySem.call f vs):=by
 intro w s₀ s1 mg mb G Y fa o pm cd doc dV kV ho hd hcd hD hmg hg args vals as hpre hlay hrd hwl DF;obtain rfl:dV=.none:=Dflts.none hD hdf;obtain rfl:kV=.none:=Dflts.noKw hD;obtain⟨a,vs,ns,rfl,rfl,hobj,hints,hlen⟩:=UG hn hpre hwl;refine enter_call (codeAny_mono (call w s₀ s1 mg mb fa o pm cd doc a vs ns G Y ho (fd_plain hd) hcd hmg hobj hints hlen hg) λr s' hq=>?_);obtain⟨rfl,h2,h3,h4⟩:=hq;exact⟨.inl ⟨.bool true,.bool true,[],rfl,λ_=>rfl,.bool true,UH l _,λ_=>⟨List.Pairwise.nil,λ_ hm=>(nomatch hm)⟩⟩,h2,h3,h4⟩
end Att
namespace L2
open PySem Spec PyProof.Rows
theorem ER:∀{vs:List Ae} {ns:List Int},IntsAre vs ns->aW (ns.map V.int) vs
 | _,_,.nil=>.nil
 | _,_,.cons n t h=>.cons ⟨t,rfl⟩ (ER h)
def sA(H:Hp):Prop:=∀b,H b=none\/∃o xs,H b=some (.frz o (.lst xs))
theorem UI{P:Ca}{w:Ct}{K:Ab}{mg mb:Str->Option Ae}{CX:j9}{k:Nat}{fa a:Addr}{fd:Bv}{x:Str}{sp:Sp}{s1:Aj}{vs:List Ae}{ns:List Int}(KX:K.In s1.heap)(hns:s1.heap.Ns Eh mg)(hb:s1.heap.Ns builtinsNs mb)(hbb:∀x:Str,x≠"__name__"->mb x=Dc x)(hlim:s1.heap.NoLimit)(hg:s1.gens = #[])(ha:s1.heap.get? a=some {cls:=.type "list",data:=.seq vs.toArray})(hi:IntsAre vs ns)(hl:ns.length<=Ap)(hr:cN k callerA)(F:∀base:Heap,K.In base->base.Ns Eh mg->eR P w K mg base CX k fa fd [x] sp)(hbind:∀(s:Aj) (u:Ae),BindsTo s fd ⟨[u],[]⟩ [(x,u)])(hsp:∀H:Hp,sA H->bH K H a (ns.map V.int)->sp [.ref a] H (λv _=>v=.bl true) λ_ _ _=>False)(hCX:∀H e s',CX [] H s1 (λ_ _ _=>False) e s'->False):
  Mi (Bw P w) callerA (.call (.ref fa) ⟨[.ref a],[]⟩) (λr s'=>r=.ok (.ret (.bool true))/\OldK s1.heap s'.heap/\s'.os=s1.os/\Na s'.gens) s1:=by
 have rv:=ER hi;have lenV:=hi.length;have core:∀H:Hp,sA H->bH K H a (ns.map V.int)->cI P w H s1.heap->(∀b,H b≠none->b=a)->(H a≠none->K.lookup a=none)->
   Mi (Bw P w) callerA (.call (.ref fa) ⟨[.ref a],[]⟩) (λr s'=>r=.ok (.ret (.bool true))/\OldK s1.heap s'.heap/\s'.os=s1.os/\Na s'.gens) s1:=by
  intro H hO hS hok hA hK;have base_of:∀{b:Addr} {o:Obj},s1.heap.get? b=some o->H b=none->(kS s1.heap H).get? b=some o:=λe n=>OD e n;have noA:∀{b:Addr} {o:Obj} {es:Array Fn} {ep:Nat},s1.heap.get? b=some o->o.data=.dict es ep->H b=none:=λ{b o es ep} e d=>by
   cases q:H b with
   | none=>rfl
   | some u=>
    have e':b=a:=hA b (by rw[q];simp);subst e';rw[ha]at e;cases e;have d':Data.seq vs.toArray _=Data.dict es ep:=d;cases d'
  have nsK:∀{b:Addr} {m:Str->Option Ae},s1.heap.Ns b m->(kS s1.heap H).Ns b m:=λ{b m} ⟨o,es,ep,e,d,r⟩=>⟨o,es,ep,base_of e (noA e d),d,r⟩
  have hKb:K.In (kS s1.heap H):=λb o e=>base_of (KX b o e) (by
   cases q:H b with
   | none=>rfl
   | some u=>
    have e':b=a:=hA b (by rw[q];simp);subst e';rw[hK (by rw[q];simp)]at e;cases e)
  have hM:Mod K mg (kS s1.heap H):=⟨hKb,nsK hns,⟨mb,nsK hb,hbb⟩,let ⟨mc,h1,h2⟩:=hlim;⟨mc,nsK h1,h2⟩⟩;have e0:mQ P w K mg (kS s1.heap H) callerA [] s1 H:=⟨rfl,hM,λb o e=>OE e,Fv (OC _ _),trivial,λb hb=>absurd (show b∈([]:List Addr) from hb) (by simp),hok,.of_eq hg⟩;refine codeAny_mono ((F _ hKb (nsK hns)).run callerA [] s1 H ⟨[.ref a],[]⟩ [.ref a] [.ref a] _ _ hr e0 (hbind s1 (.ref a)) (.cons rfl .nil) (hsp H hO hS)) λr s' h=>?_;cases r with
  | error e=>exact(hCX H e s' h).elim
  | ok fl=>
   cases fl with
   | next=>exact Ge h
   | brk=>exact Ge h
   | cont=>exact Ge h
   | ret u=>
    obtain⟨v,H',os,bare,un,hok',r',q⟩:=h;have q':v=.bl true:=q;subst q';obtain rfl:u=Value.bool true:=r';refine⟨rfl,OldK.of_keep λb o e=>?_,os,bare⟩;cases q:H b with
    | none=>exact un.keep b o e q (by intro z;exact absurd (show b∈([]:List Addr) from z) (by simp)) (by simp)
    | some u=>
     rcases hO b with z|⟨ob,xs,z⟩
     .rw[q]at z;cases z
     .have z2:=un.frzs b ob _ z;obtain⟨e1,_⟩:=hok b _ z;obtain⟨e2,_⟩:=hok' b _ z2;rw[e]at e1;cases e1;exact e2
 cases hk:K.lookup a with
 | some o=>
  have e:=KX a o hk;rw[ha]at e;cases e;refine core (λ_=>none) (λ_=>.inl rfl) (.inr ⟨_,vs.toArray,_,hk,rfl,rfl,rfl,by rw[Bg,lenV];exact hl,by simpa using rv⟩) (λb u z=>by have z':(none:Option HO)=some u:=z;cases z') (λb z=>absurd rfl z) λz=>absurd rfl z
 | none=>
  refine core (λb=>if b=a then some (.frz {cls:=.type "list",data:=.seq vs.toArray} (.lst (ns.map V.int))) else none) (λb=>?_) (.inl (.inr ⟨{cls:=.type "list",data:=.seq vs.toArray},if_pos rfl⟩)) (λb u z=>?_) (λb z=>?_) λ_=>hk
  .by_cases hb:b=a
   .exact .inr ⟨_,_,if_pos hb⟩
   .exact .inl (if_neg hb)
  .by_cases hb:b=a
   .have z':=(if_pos hb).symm.trans z;cases z';subst hb;exact⟨ha,by rw[Aa];exact hl,vs,_,rv,ha⟩
   .have z':=(if_neg hb).symm.trans z;cases z'
  .by_cases hb:b=a
   .exact hb
   .exact absurd (if_neg hb) z
theorem UJ{l:PySem.W.OpenLaw}{n k:Nat}{q:Ca}{loose:List Str}{XP:(Str->Option Ae)->Heap->Prop}{YP:Ct->Heap->Prop}{d:DefRec}{K:Params->Ab}{CX:Ct->j9}{sp:Ct->Sp}{x:Str}(hn:l.most=some n)(hn2:n<=Ap)(hdf:d.params.defaults=[])(hr:cN k callerA)(hY:∀(w:Ct) (h:Heap),YP w h->(K w.params).In h)(F:∀(w:Ct) (mg:Str->Option Ae) (fa:Addr) (h:Heap),(K w.params).In h->h.Ns Eh mg->mg d.name=some (.ref fa)->
   ∃fd:Bv,(∀(s:Aj) (u:Ae),BindsTo s fd ⟨[u],[]⟩ [(x,u)])/\
    ∀base:Heap,(K w.params).In base->base.Ns Eh mg->eR l.prog w (K w.params) mg base (CX w) k fa fd [x] (sp w))(hsp:∀(w:Ct) (H:Hp) (a:Addr) (ns:List Int),ns.length<=n->sA H->bH (K w.params) H a (ns.map V.int)->sp w [.ref a] H (λv _=>v=.bl true) λ_ _ _=>False)(hCX:∀(w:Ct) (H:Hp) (s:Aj) (e:Ae) (s':Aj),CX w [] H s (λ_ _ _=>False) e s'->False):
  PySem.W.WalkO q loose XP YP l.row.toRowW d [] (λf vs=>PySem.call f vs):=by
 refine Att.attach_call hn hdf λw s₀ s1 mg mb fa o pm cd doc a vs ns G Y ho hd hcd hmg hobj hints hlen hg=>?_;have KX:=hY w _ Y;obtain⟨fd,hb,hF⟩:=F w mg fa _ KX G.T.g hmg;exact UI KX G.T.g G.T.b G.T.builtins G.T.nolimit hg hobj hints (Ah hlen hn2) hr hF hb (λH hO hS=>hsp w H a ns hlen hO hS) λH e s'=>hCX w H s1 e s'
abbrev fW:j9:=λ_ _ _ _ _ _=>False
abbrev E0:XK:=λ_ _ _=>False
theorem pR{X:Cx}:lN fW X E0:=λ_ _ _ _ _ _ _ h=>h.elim
structure jM(K:Ab)(x qual:Str)(st:Stmt)(f:Addr)(fd:Bv):Prop where
 ex:∃(oc:Ae) (od:Option Addr) (kV doc pm:Ae) (an:Option Addr) (cdv ct:Ae) (osl:Array (Option Ae)),
  fd=Ep x qual (iZ st) (gQ st) (d4 st) .none kV doc pm an cdv ct/\K.lookup f=some ⟨oc,od,.func fd,osl⟩/\Ji K cdv qual=true
 kp:Fs K (.ref f)=true
section
variable {P:Ca}{w:Ct}{K:Ab}{mg:Str->Option Ae}{base:Heap}
theorem jM.ok{x qual:Str}{st:Stmt}{f:Addr}{fd:Bv}{N ps:List Str}{k:Nat}{sp:Sp}(F:jM K x qual st f fd)(S:mR N ps (d4 st))(len:∀vs H Q E,sp vs H Q E->vs.length=ps.length)(hbody:∀(cdv:Ae) (A:Dg) (outer:List Env) (s:Aj) (H:Hp) (vs:List V) (Q:VK) (E:XK),cN k (A.deeper (Kx qual (d4 st) s.heap.objs.size f cdv))->sp vs H Q E->
   ∃t,gB (kX fW P w K mg base N qual (d4 st) f cdv A outer s H E).nox (gQ st) t/\t {nx:=λ_ H'=>Q .non H',rt:=Q} (start N vs) H):eR P w K mg base fW (k+1) f fd ps sp:=by
 obtain⟨oc,od,kV,doc,pm,an,cdv,ct,osl,rfl,lk,hcd⟩:=F.ex;refine RT lk hcd S len λA outer s H vs Q E hr hsp=>?_;obtain⟨t,h,q⟩:=hbody cdv A outer s H vs Q E hr hsp;exact⟨t,h.nox,q⟩
theorem jM.binds{x qual:Str}{st:Stmt}{f:Addr}{fd:Bv}{ps:List Str}(F:jM K x qual st f fd)(h:∀(kV doc pm:Ae) (an:Option Addr) (cdv ct:Ae) (us:List Ae),us.length=ps.length->bindArgs (Ep x qual (iZ st) (gQ st) (d4 st) .none kV doc pm an cdv ct) ⟨us,[]⟩=pure (ps.zip us)):Binds K fd ps []:=by
 obtain⟨oc,od,kV,doc,pm,an,cdv,ct,osl,rfl,lk,hcd⟩:=F.ex;exact .all (h kV doc pm an cdv ct)
theorem nZ{x qual:Str}{st:Stmt}{f:Addr}{oc:Ae}{od an:Option Addr}{osl:Array (Option Ae)}{kV doc pm cdv ct:Ae}(l:K.lookup f=some ⟨oc,od,.func (Ep x qual (iZ st) (gQ st) (d4 st) .none kV doc pm an cdv ct),osl⟩)(c:Ji K cdv qual=true)(k:Fs K (.ref f)=true):jM K x qual st f (Ep x qual (iZ st) (gQ st) (d4 st) .none kV doc pm an cdv ct):=⟨⟨oc,od,kV,doc,pm,an,cdv,ct,osl,rfl,l,c⟩,k⟩
end
theorem ES{A:Dg}{k:Nat}(hr:cN k A):A.units+1<Fo:=Gh (Nf (by decide:1<=64) _) hr.units
section
variable {X:Cx}
theorem UK:b7 X (.builtin "len") (λxs H Q=>∃a kvs,xs=[V.ref a]/\H a=some (.dK kvs)/\Q (.int kvs.length) H):=by
 intro pins s Z H xs us Q I r h;obtain⟨a,kvs,rfl,ha,q⟩:=h;obtain⟨u,rfl,ru⟩:=vals1 r;cases ru;exact T6 I (.inl ha) λt s' I'=>⟨.int kvs.length,H,I',⟨t,rfl⟩,q⟩
end
theorem UL{A B:Prop}(h:B):if false=true then A else B:=by
 rw[if_neg Av];exact h
theorem UM{A B:Prop}(h:A):if true=true then A else B:=by
 rw[if_pos rfl];exact h
end L2
set_option maxHeartbeats 4000000
namespace L2
open PySem Spec PyProof.Rows
structure kE where
 cl:List (Str×Addr)
 s:Aj
 H:Hp
 fp:List Addr
 C:Addr
def dN(X:Cx)(sc:Jm)(N':List Str)(B:kE):Cx where
 prog:=X.prog
 w:=X.w
 K:=X.K
 mg:=X.mg
 base:=X.base
 A:=X.A
 N:=N'
 s₀:=B.s
 H₀:=B.H
 env:=compEnvC sc B.cl B.C X.env
 outer:=X.stack
 stack:=X.stack
 ex:=B.fp
 fn:=λ_=>false
 calm:=X.calm
 pn:=[]
 xe:=λ_ _=>False
def gJ(cells:List (Str×Addr)):List (Str×Iw)->List (Str×Addr)->List (Str×Addr)
 | [],acc=>acc
 | (n,k)::r,acc=>if k=.free then gJ cells r ((n,(cells.lookup n).getD 0)::acc) else gJ cells r acc
theorem ET{scope:Jm}{env:Env}(h:∀y∈scope.names,y.2=.free->∃c,env.cells.lookup y.1=some c):closureFor scope env=pure (gJ env.cells scope.names []):=by
 have key:∀(names:List (Str×Iw)) (acc:List (Str×Addr)),(∀y∈names,y.2=.free->∃c,env.cells.lookup y.1=some c)->
   (forIn names acc λ(x:Str×Iw) (cs:List (Str×Addr))=>(if (x.2==NameKind.free)=true then(do let a <-cellOf env x.1;pure (ForInStep.yield ((x.1,a)::cs))) else pure (ForInStep.yield cs):Sem (ForInStep (List (Str×Addr)))))=(pure (gJ env.cells names acc):Sem _):=by
  intro names
  induction names with
  | nil=>intro acc _;rfl
  | cons y r ih=>
   intro acc hy;obtain⟨n,k⟩:=y;rw[List.forIn_cons]
   by_cases hk:k=.free
   .subst hk;obtain⟨c,hc⟩:=hy (n,.free) Ai rfl;have e1:cellOf env n=(pure c:Sem Addr):=by
     unfold cellOf;rw[show env.cells.lookup n=some c from hc]
    simp only[beq_self_eq_true,if_true,e1,pure_bind];rw[ih _ λz hz=>hy z (Af _ hz)];simp only[gJ,if_true];rw[show env.cells.lookup n=some c from hc];rfl
   .have hb:(k==NameKind.free)=false:=by simpa using hk
    simp only[hb,Ea,if_false,pure_bind];rw[ih _ λz hz=>hy z (Af _ hz)];simp only[gJ,if_neg hk]
 have e:closureFor scope env=((forIn scope.names [] λ(x:Str×Iw) (cs:List (Str×Addr))=>(if (x.2==NameKind.free)=true then(do let a <-cellOf env x.1;pure (ForInStep.yield ((x.1,a)::cs))) else pure (ForInStep.yield cs):Sem (ForInStep (List (Str×Addr)))))>>=λcs=>pure cs):=by
  unfold closureFor;rfl
 rw[e,key _ _ h,pure_bind]
theorem v3{cells:List (Str×Addr)}{x:Str}{c:Addr}:∀{names:List (Str×Iw)} {acc:List (Str×Addr)},(∀y∈names,y.2=.free->∃c,cells.lookup y.1=some c)->
  (∀x c,acc.lookup x=some c->cells.lookup x=some c)->(gJ cells names acc).lookup x=some c->cells.lookup x=some c
 | [],acc,_,ha,e=>ha x c e
 | (n,k)::r,acc,hy,ha,e=>by
  have hr:∀y∈r,y.2=.free->∃c,cells.lookup y.1=some c:=λz hz=>hy z (Af _ hz);unfold gJ at e
  by_cases hk:k=.free
  .subst hk;rw[if_pos rfl]at e;obtain⟨d,hd⟩:=hy (n,.free) Ai rfl;have hd:cells.lookup n=some d:=hd;refine v3 hr (λz b q=>?_) e;rw[Hc]at q
   by_cases hz:z=n
   .subst hz;rw[beq_self_eq_true,hd]at q;rw[hd];exact q
   .have:(z==n)=false:=beq_eq_false_iff_ne.mpr hz;rw[this]at q;exact ha z b q
  .rw[if_neg hk]at e;exact v3 hr ha e
theorem sC{cells:List (Str×Addr)}{x:Str}:∀{names:List (Str×Iw)} {acc:List (Str×Addr)},((x,NameKind.free)∈names\/∃c,acc.lookup x=some c)->∃c,(gJ cells names acc).lookup x=some c
 | [],acc,h=>by
  rcases h with h|h
  .cases h
  .exact h
 | (n,k)::r,acc,h=>by
  unfold gJ
  by_cases hk:k=.free
  .subst hk;rw[if_pos rfl];refine sC ?_
   by_cases hx:x=n
   .subst hx;right;rw[Hc,beq_self_eq_true];exact⟨_,rfl⟩
   .have hb:(x==n)=false:=beq_eq_false_iff_ne.mpr hx;rcases h with h|⟨c,h⟩
    .rcases Bj.mp h with e|h
     .cases e;exact absurd rfl hx
     .exact .inl h
    .right;rw[Hc,hb];exact⟨c,h⟩
  .rw[if_neg hk];refine sC ?_;rcases h with h|h
   .rcases Bj.mp h with e|h
    .cases e;exact absurd rfl hk
    .exact .inl h
   .exact .inr h
structure mU(N':List Str)(sc osc:Jm):Prop where
 kind:sc.kind=.function
 nd:N'.Nodup
 nocell:∀y∈sc.names,y.2≠.cell
 loc:∀y∈sc.names,y.2=.local->sc.names.lookup y.1=some .local
 free:∀y∈sc.names,y.2=.free->osc.names.lookup y.1=some .cell\/osc.names.lookup y.1=some .free
def mV(N':List Str)(sc osc:Jm):Bool:=
 decide (sc.kind=.function)&&decide N'.Nodup&&sc.names.all (λy=>decide (y.2≠.cell))&&sc.names.all (λy=>decide (y.2=.local->sc.names.lookup y.1=some .local)) &&
  sc.names.all (λy=>decide (y.2=.free->osc.names.lookup y.1=some .cell\/osc.names.lookup y.1=some .free))
theorem mU.of{N':List Str}{sc osc:Jm}(h:mV N' sc osc=true):mU N' sc osc:=by
 unfold mV at h;simp only[Cw]at h;obtain⟨⟨⟨⟨h1,h2⟩,h3⟩,h4⟩,h5⟩:=h;exact⟨of_decide_eq_true h1,of_decide_eq_true h2,λy hy=>of_decide_eq_true (Gb.mp h3 y hy),λy hy=>of_decide_eq_true (Gb.mp h4 y hy),λy hy=>of_decide_eq_true (Gb.mp h5 y hy)⟩
def cmap(js:List (Option Nat))(Z:St):St:=js.map λo=>o.bind λj=>(Z[j]?).join
def fP(N' N:List Str)(sc:Jm):List (Option Nat)->List Str->Bool
 | [],[]=>true
 | none::js,_::r=>fP N' N sc js r
 | some j::js,x::r=>decide (N[j]? = some x)&&decide (sc.names.lookup x=some .free)&&fP N' N sc js r
 | _,_=>false
theorem v5{N' N:List Str}{sc:Jm}:∀{js:List (Option Nat)} {r:List Str},fP N' N sc js r=true->js.length=r.length
 | [],[],_=>rfl
 | none::js,_::r,h=>by
  have:=v5 (js:=js) (r:=r) h;simp[this]
 | some j::js,x::r,h=>by
  unfold fP at h;rw[Cw]at h;have:=v5 (js:=js) (r:=r) h.2;simp[this]
 | [],_::_,h=>by simp[fP]at h
 | none::_,[],h=>by simp[fP]at h
 | some _::_,[],h=>by simp[fP]at h
theorem v7{N' N:List Str}{sc:Jm}:∀{js:List (Option Nat)} {r:List Str} {i j:Nat} {x:Str},fP N' N sc js r=true->js[i]? = some (some j)->r[i]? = some x->N[j]? = some x/\sc.names.lookup x=some .free
 | [],[],i,j,x,_,e,_=>by simp at e
 | none::js,_::r,0,j,x,h,e,_=>by simp at e
 | none::js,_::r,i+1,j,x,h,e,e2=>v7 (js:=js) (r:=r) (i:=i) h (by simpa using e) (by simpa using e2)
 | some k::js,y::r,0,j,x,h,e,e2=>by
  unfold fP at h;rw[Cw,Cw]at h;simp at e e2;subst e;subst e2;exact⟨of_decide_eq_true h.1.1,of_decide_eq_true h.1.2⟩
 | some k::js,y::r,i+1,j,x,h,e,e2=>by
  unfold fP at h;rw[Cw,Cw]at h;exact v7 (js:=js) (r:=r) (i:=i) h.2 (by simpa using e) (by simpa using e2)
 | [],_::_,_,_,_,h,_,_=>by simp[fP]at h
 | none::_,[],_,_,_,h,_,_=>by simp[fP]at h
 | some _::_,[],_,_,_,h,_,_=>by simp[fP]at h
theorem v8{env:Env}{x:Str}:∀{names:List (Str×Iw)},(∀y∈names,y.2≠.cell)->
  (((names.map λ(n,k)=>if (k==NameKind.free&&env.scope.kind==.function&&env.kindOf n==some .cell) then(n,NameKind.cell) else(n,k)).lookup x=some .cell\/
    (names.map λ(n,k)=>if (k==NameKind.free&&env.scope.kind==.function&&env.kindOf n==some .cell) then(n,NameKind.cell) else(n,k)).lookup x=some .free)↔names.lookup x=some .free)
 | [],_=>by simp
 | (n,k)::r,h=>by
  have ih:=@v8 env x r λy hy=>h y (Af _ hy);have hk:k≠.cell:=h (n,k) Ai;rw[Ay];dsimp only
  by_cases hx:(x==n)=true
  .by_cases hc:(k==NameKind.free&&env.scope.kind==.function&&env.kindOf n==some .cell)=true
   .rw[if_pos hc];simp only[Hc,hx];have:k=.free:=by
     rw[Cw,Cw]at hc;exact beq_iff_eq.mp hc.1.1
    simp[this]
   .rw[if_neg hc];simp only[Hc,hx];constructor
    .rintro(e|e)
     .cases e;exact absurd rfl hk
     .exact e
    .intro e;exact .inr e
  .have hx:(x==n)=false:=by simpa using hx
   by_cases hc:(k==NameKind.free&&env.scope.kind==.function&&env.kindOf n==some .cell)=true
   .rw[if_pos hc];simp only[Hc,hx];exact ih
   .rw[if_neg hc];simp only[Hc,hx];exact ih
theorem v9{x:Str}{k:Iw}:∀{names:List (Str×Iw)},names.lookup x=some k->(x,k)∈names:=λh=>Ha h
section
variable {X:Cx}{sc:Jm}{N':List Str}{js:List (Option Nat)}{pins:List (Addr×Obj)}{Z:St}{H H1:Hp}{s:Aj}{fp:List Addr}{C:Addr}
theorem wA(S:mU N' sc X.env.scope)(I:Inv X pins Z H s):∀y∈sc.names,y.2=.free->∃c,X.env.cells.lookup y.1=some c:=λy hy hk=>
 I.ok.has y.1 (S.free y hy hk)
theorem UN(S:mU N' sc X.env.scope)(hj:fP N' X.N sc js N'=true)(I:Inv X pins Z H s)(hf:∀b∈fp,gZ X pins H b)(ho:∀b∈fp,∃o,s.heap.get? b=some o){h1:Heap}{tk:Nat}{m:Str->Option Ae}(hC:s.heap.objs.size<=C)(keep:∀b o,s.heap.get? b=some o->h1.get? b=some o)(un:Un (iF X.stack) fp H H1 s.heap h1)(hok:cI X.prog X.w H1 h1)(hn:h1.Ns C m)(hfree:H1 C=none):
  Inv (dN X sc N' ⟨gJ X.env.cells sc.names [],s,H,fp,C⟩) [] (cmap js Z) H1 {s with heap:=h1,toks:=tk}:=by
 have cs:=wA S I;have sub:∀x c,(gJ X.env.cells sc.names []).lookup x=some c->X.env.cells.lookup x=some c:=λx c e=>v3 cs (λ_ _ z=>by simp at z) e;refine⟨⟨I.ok.mod,S.kind,I.ok.glob,I.ok.blt,hC,λx y c e1 e2=>I.ok.inj x y c (sub x c e1) (sub y c e2),λx hx=>?_,λ_ _ h _=>absurd (show false=true from h) Av,I.ok.hd,I.ok.frames,.inl rfl,λb hb=>?_,I.bs,Ah I.ok.bsz I.sz,λb o e hb=>?_,λb hb hb'=>?_,I.stack,I.stkFree⟩,
  rfl,I.bare,un,⟨m,hn,λi x v e1 e2 e3=>?_⟩,λx c e=>?_,hfree,λx c e=>?_,λp hp=>absurd (show p∈([]:List (Addr×Obj)) from hp) (by simp),hok,?_⟩
 .have q:sc.names.lookup x=some .free:=(v8 (env:=X.env) S.nocell).mp hx;exact sC (.inl (v9 q))
 .obtain⟨o,e⟩:=ho b hb;exact⟨Bs (Bq (Bi e) hC),λx c q=>(hf b hb).2.2.2.2.1 x c (sub x c q)⟩
 .rcases(hf b hb).2.2.2.1 with z|z
  .exact I.ok.noex b o e z
  .exact absurd (Bq (Bi e) (Ah I.ok.bsz z)) (Dz _)
 .rcases Bj.mp (I.stkSub b hb') with z|z
  .exact(hf b hb).2.1 z
  .exact(hf b hb).2.2.1 z
 .
  have e1:N'[i]? = some x:=e1;unfold cmap at e2;rw[Ax]at e2;cases hji:js[i]? with
  | none=>rw[hji]at e2;cases e2
  | some o=>
   rw[hji]at e2;cases o with
   | none=>cases e2
   | some j=>
    obtain⟨a1,a2⟩:=v7 hj hji e1;have e2:(Z[j]?).join=some v:=by simpa using e2
    have e2':Z[j]? = some (some v):=by
     cases q:Z[j]? with
     | none=>rw[q]at e2;cases e2
     | some z=>rw[q]at e2;simpa using e2
    obtain⟨m0,hn0,hl0⟩:=I.loc;have kx:=S.free _ (v9 a2) rfl;obtain⟨u,r,l⟩:=hl0 j x v a1 e2' (kx.elim (λz=>.inr (.inl z)) λz=>.inr (.inr z));refine⟨u,r,.inr ⟨(v8 (env:=X.env) S.nocell).mpr a2,?_⟩⟩;rcases l with⟨k,_⟩|⟨_,c,ec,hc⟩
    .have k:X.env.scope.names.lookup x=some .local:=k;rcases kx with z|z
     .rw[k]at z;cases z
     .rw[k]at z;cases z
    .obtain⟨c',ec'⟩:=sC (cells:=X.env.cells) (acc:=[]) (.inl (v9 a2));have:c'=c:=Cj ((sub x c' ec').symm.trans ec);subst this;obtain⟨oc,hoc,hd⟩:=hc;exact⟨c',ec',oc,keep _ _ hoc,hd⟩
 .obtain⟨v,oc,hoc,hd⟩:=I.cell x c (sub x c e);exact⟨v,oc,keep _ _ hoc,hd⟩
 .obtain⟨v,oc,hoc,hd⟩:=I.cell x c (sub x c e);have nfp:c∉fp:=λz=>(hf c z).2.2.2.2.1 x c (sub x c e) rfl;exact un.free c oc hoc (I.freeC x c (sub x c e)) nfp
 .show(cmap js Z).length=N'.length;unfold cmap;rw[Aa];exact v5 hj
end
section
variable {prog:Ca}{w:Ct}{A:Dg}{R:Result->Aj->Prop}{s:Aj}
theorem UO{elt target iter:Expr}{ifs:List Expr}{scope:Jm}{pos:Pos}{it acc:Ae}{env:Env}(I:Nat->Aj->Prop)(turn:∀n s,I n s->Bo (Bw prog w) A (Ml it) (λr s1=>match r with
   | none=>R (.ok .next) s1
   | some v=>Bo (Bw prog w) A (Nc target it v) (λ_ s₀=>Bo (Bw prog w) A (Mo target env v) (λ_ s2=>
     Bo (Bw prog w) A (forIn ifs true λc r=>if r=true then do let ok <-isTrue c env (eval c env);pure (ForInStep.yield ok) else pure (ForInStep.yield r)) (λok s3=>
      if ok=true then Bo (Bw prog w) A (eval elt env) (λx s4=>
       Bo (Bw prog w) A (call (.builtin "list.append") [acc,x]) (λ_ s₅=>∃m,m<n/\I m s₅) (λ_ _=>False) s4) (λ_ _=>False) s3
      else ∃m,m<n/\I m s3) (λ_ _=>False) s2) (λ_ _=>False) s₀) (λ_ _=>False) s1) (λ_ _=>False) s)(n:Nat)(h:I n s):
  Mi (Bw prog w) A (.compLoop (.ListComp elt [⟨target,iter,ifs,0⟩] scope pos) 0 it acc env) R s:=by
 refine codeAny_loop rfl I (λn s hI=>?_) n h;show Bo _ A ((compTurn (.ListComp elt [⟨target,iter,ifs,0⟩] scope pos) 0 it acc env).onRaise (λx=>do noteFrame x env;theTreesLotGoes x)) _ _ s;refine wpAny_noted ?_;rw[compTurn_list];refine Ac (Nn (Ac (Ht (turn n s hI) (λr s1 h1=>?_) λ_ _ h'=>h'.elim)));cases r with
 | none=>exact Ao h1
 | some v=>
  refine Ac (Ht h1 (λ_ s₀ h₀=>?_) λ_ _ h'=>h'.elim);refine Ac (Ht h₀ (λ_ s2 h2=>Ac (Ht h2 (λok s3 h3=>?_) λ_ _ h'=>h'.elim)) λ_ _ h'=>h'.elim);cases ok with
  | false=>exact Ao ⟨rfl,h3⟩
  | true=>
   exact Ac (Ac (Ht h3 (λx s4 h4=>Ac (Ht h4 (λ_ s₅ h₅=>Ao (Ao ⟨rfl,h₅⟩)) λ_ _ h'=>h'.elim)) λ_ _ h'=>h'.elim))
end
def iT(X:Cx)(ifs:List Expr)(t:TT):Prop:=
 ∀(pins:List (Addr×Obj)) (s:Aj) (Z:St) (H:Hp) (Q:Bool->Hp->Prop),Inv X pins Z H s->t Z H Q->
  Bo (Bw X.prog X.w) X.A (forIn ifs true λc r=>if r=true then do let ok <-isTrue c X.env (eval c X.env);pure (ForInStep.yield ok) else pure (ForInStep.yield r)) (TP X pins Z Q) X.xe s
def UP:TT:=λ_ H Q=>Q true H
theorem UQ{X:Cx}:iT X [] UP:=λ_ _ _ H _ I h=>wpAny_tests_nil ⟨H,I,h⟩
theorem UR{X:Cx}{c:Expr}{t:TT}(h:PT X c t):iT X [c] t:=λpins s Z H Q I hw=>wpAny_tests_one (h pins s Z H Q I hw)
def wB(J:It)(g:TG)(tt:TT)(te:TE)(p:Addr)(σ₀:St)(H1:Hp)(Q:VK):Prop:=
 ∃W:Nat->Nat->St->List V->Hp->Prop,(∃m,W 0 m σ₀ [] (aQ H1 p (.lst [])))/\∀i m σ' acc H,W i m σ' acc H->
  (J.stop i H/\Q (.ref p) H)\/(J.go i H/\∃N:St->List V->Hp->Prop,(∀σ2 acc' H',N σ2 acc' H'->∃m',m'<m/\W (i+1) m' σ2 acc' H')/\∀x H',J.yld i H x H'->g x σ' H' λσ2 H2=>tt σ2 H2 λb H3=>
   if b=true then te σ2 H3 λy H4=>H4 p=some (.lst acc)/\acc.length<Ap/\N σ2 (acc++[y]) (aQ H4 p (.lst (acc++[y])))
   else N σ2 acc H3)
def wC(wi:TI)(g:kE->TG)(tt:kE->TT)(te:kE->TE)(js:List (Option Nat)):TE:=λZ H Q=>wi Z H λJ H1=>∀p,H1 p=none->∀B:kE,wB J (g B) (tt B) (te B) p (cmap js Z) H1 Q
section
variable {X:Cx}{sc:Jm}{N':List Str}{js:List (Option Nat)}{tg iter elt:Expr}{ifs:List Expr}{pos:Pos}{wi:TI}{g:kE->TG}{tt:kE->TT}{te:kE->TE}
theorem EU(S:mU N' sc X.env.scope)(hj:fP N' X.N sc js N'=true)(hc:X.calm=true)(hg:∀B,PG (dN X sc N' B) tg (g B))(ht:∀B,iT (dN X sc N' B) ifs (tt B))(he:∀B,PE (dN X sc N' B) elt (te B)){pins:List (Addr×Obj)}{s:Aj}{Z:St}{J:It}{H:Hp}{it:Addr}{fp:List Addr}{tn:Nat->Heap->Prop}(I:Inv X pins Z H s)(T:jL X.prog X.w X.K tg J fp it tn)(st:tn 0 s.heap)(hf:∀b∈fp,gZ X pins H b){Q:VK}(hw:∀p,H p=none->∀B:kE,wB J (g B) (tt B) (te B) p (cmap js Z) H Q){E:Ae->Aj->Prop}{RR:Ae->Addr->Result->Aj->Prop}(hRR:∀p C H' s' m,Inv X pins Z H' s'->gZ X pins H' C->s'.heap.Ns C m->Q (.ref p) H'->RR (.ref p) C (.ok .next) s'):
  Bo (Bw X.prog X.w) X.A (newList []) (λacc s₃=>Bo (Bw X.prog X.w) X.A (newFunctionEnv sc X.env.globals (gJ X.env.cells sc.names []) [] X.env.qual none .none (some X.env)) (λcenv s₄=>
   Mi (Bw X.prog X.w) X.A (.compStart (.ListComp elt [⟨tg,iter,ifs,0⟩] sc pos) 0 (.ref it) acc {cenv with scope:=relabel sc X.env}) (RR acc cenv.locals) s₄) E s₃) E s:=by
 refine Ew (wpAny_newFunctionEnv S.nocell (by intro y hy;simp at hy) (λh1 hns1 hsb1=>?_) S.kind);dsimp only at hns1 hsb1⊢;generalize hH2:s.heap.push {cls:=.type "list",dict:=none,data:=.seq ([]:List Ae).toArray} = H2 at hns1 hsb1⊢;have hC:H2.objs.size=s.heap.objs.size+1:=by rw[<-hH2,Er]
 have hDC:s.heap.objs.size≠H2.objs.size:=by rw[hC];exact Bs (Hd _)
 have hCle:s.heap.objs.size<=H2.objs.size:=by rw[hC];exact Nat.le_succ _
 have below:∀b,b<s.heap.objs.size->b≠H2.objs.size:=λb hb=>by rw[hC];exact Bs (Hw hb)
 have old:∀b o,s.heap.get? b=some o->h1.get? b=some o:=λb o e=>hsb1.extBut b o (below b (Bi e)) (Am _ (hH2▸Am _ e));have hacc:h1.get? s.heap.objs.size=some {cls:=.type "list",dict:=none,data:=.seq ([]:List Ae).toArray}:=hsb1.extBut _ _ hDC (Am _ (hH2▸Be _ rfl));have hp0:H s.heap.objs.size=none:=I.hok.fresh (Ag _);have newO:b8 X.prog X.w (aQ H s.heap.objs.size (.lst [])) h1 s.heap.objs.size (.lst []):=⟨Bf _,[],_,.nil,hacc⟩;have hok1:cI X.prog X.w (aQ H s.heap.objs.size (.lst [])) h1:=I.hok.laid old (Ag _) newO;have un1:Un (iF X.stack) fp H (aQ H s.heap.objs.size (.lst [])) s.heap h1:=Un.laid old (Ag _) hp0;have fC:(aQ H s.heap.objs.size (.lst [])) H2.objs.size=none:=by rw[bI (Co hDC)];exact I.hok.fresh hCle
 have IB:=UN (tk:=s.toks+([]:List (Str×Ae)).length) S hj I hf (λb hb=>let ⟨o,e,_⟩:=T.obj 0 _ st b hb;⟨o,e⟩) hCle old un1 hok1 hns1 fC;obtain⟨W,⟨m0,w0⟩,turn⟩:=hw _ hp0 ⟨gJ X.env.cells sc.names [],s,H,fp,H2.objs.size⟩;have st1:tn 0 h1:=T.keep _ _ _ st λb _ o e=>old b o e;have loop:∀s₃:Aj,s₃ = {s with heap:=h1,toks:=s.toks+([]:List (Str×Ae)).length}->
   Mi (Bw X.prog X.w) X.A (.compLoop (.ListComp elt [⟨tg,iter,ifs,0⟩] sc pos) 0 (.ref it) (.ref s.heap.objs.size) (compEnvC sc (gJ X.env.cells sc.names []) H2.objs.size X.env))
    (RR (.ref s.heap.objs.size) H2.objs.size) s₃:=by
  rintro s₃ rfl;generalize hB:(⟨gJ X.env.cells sc.names [],s,H,fp,H2.objs.size⟩:kE)=B at turn w0 IB;have eB:compEnvC sc (gJ X.env.cells sc.names []) H2.objs.size X.env=(dN X sc N' B).env:=by subst hB;rfl
  have exB:(dN X sc N' B).ex=fp:=by subst hB;rfl
  rw[eB];have stat:∀{σ':St} {H':Hp} {s':Aj},Inv (dN X sc N' B) [] σ' H' s'->(∀b∈fp,H' b=none)->∀b∈fp,gZ (dN X sc N' B) [] H' b:=λ{σ' H' s'} J' hn b hb=>by
   refine⟨hn b hb,(J'.ok.exf b (by rw[exB];exact hb)).1,J'.ok.exfs b (by rw[exB];exact hb),.inl (by rw[exB];exact hb),(J'.ok.exf b (by rw[exB];exact hb)).2,λp hp=>absurd (show p∈([]:List (Addr×Obj)) from hp) (by simp)⟩
  have fp0:∀b∈fp,(aQ H s.heap.objs.size (.lst [])) b=none:=λb hb=>by
   obtain⟨o,e,_⟩:=T.obj 0 _ st b hb;rw[bI (Bs (Bi e))];exact(hf b hb).1
  refine UO (λn s'=>∃i σ' acc H',Inv (dN X sc N' B) [] σ' H' s'/\tn i s'.heap/\(∀b∈fp,H' b=none)/\W i n σ' acc H') ?_ m0 ⟨0,_,[],_,IB,st1,fp0,w0⟩;rintro n s3 ⟨i,σ3,acc,H3,I3,st3,fr3,w3⟩;rcases turn i n σ3 acc H3 w3 with⟨stop,qn⟩|⟨go,N,hN,step⟩
  .refine a8 (T.done (dN X sc N' B) rfl rfl rfl hc i [] s3 σ3 H3 (λ_ _=>False) I3 (stat I3 fr3) st3 stop) λr s4 ⟨hr,I4⟩=>?_;subst hr;obtain⟨m4,hn4,_⟩:=I4.loc;have u4:Un (iF X.stack) fp H H3 s.heap s4.heap:=by have:=I4.base;subst hB;exact this
   have o4:s4.os=s.os:=by have:=I4.os;subst hB;exact this
   have c4:(dN X sc N' B).env.locals=H2.objs.size:=by subst hB;rfl
   have hIX:Inv X pins Z H3 s4:=I.call' (ch:=fp) o4 u4 I4.hok I4.bare λb hb=>⟨(hf b hb).2.2.2.1,(hf b hb).2.1,(hf b hb).2.2.2.2.1,(hf b hb).2.2.2.2.2⟩
   exact hRR _ _ H3 s4 m4 hIX (I.fpOk hCle (by rw[<-c4];exact I4.free)) (by rw[<-c4];exact hn4) qn
  .refine a8 (T.item (dN X sc N' B) rfl rfl rfl hc i [] s3 σ3 H3 (λ_ _=>False) I3 (stat I3 fr3) st3 go) λr s4 ⟨u,hr,h4⟩=>?_;subst hr;refine a8 h4 λ_ s5 ⟨x,H5,I5,r5,y5,st5,fr5⟩=>?_;have I5':=I5.pinned (stat I5 fr5) (T.obj _ _ st5);refine a8 (hg B _ s5 σ3 H5 x u _ I5' r5 (step x H5 y5)) λ_ s6 ⟨σ6,H6,I6,q6⟩=>?_;refine a8 (ht B _ s6 σ6 H6 _ I6 q6) λok s7 ⟨H7,I7,q7⟩=>?_;have again:∀{H8:Hp} {s8:Aj} {acc':List V},Inv (dN X sc N' B) ([]++pL fp s5.heap) σ6 H8 s8->(∃m',m'<n/\W (i+1) m' σ6 acc' H8)->∃m,m<n/\∃i σ' acc H',Inv (dN X sc N' B) [] σ' H' s8/\tn i s8.heap/\(∀b∈fp,H' b=none)/\W i m σ' acc H':=
    λ{H8 s8 acc'} I8 ⟨m',hm,w8⟩=>by
     refine⟨m',hm,i+1,σ6,acc',H8,I8.unpinned,T.keep _ _ _ st5 λb hb o e=>(I8.pin (b,o) (Ba _ (Ba _ (rV hb e)))).1,λb hb=>?_,w8⟩;obtain⟨o,e,d⟩:=T.obj _ _ st5 b hb;exact(I8.pin (b,o) (Ba _ (Ba _ (rV hb e)))).2.1
   cases ok with
   | false=>
    rw[if_neg Av]at q7;rw[if_neg Av];exact again I7 (hN _ _ _ q7)
   | true=>
    rw[if_pos rfl]at q7;rw[if_pos rfl];refine a8 (he B _ s7 σ6 H7 _ I7 q7) λy s8 ⟨z,H8,I8,r8,hp8,hl8,q8⟩=>?_;exact a8 (EI _ s8 σ6 H8 (.ref s.heap.objs.size) [z] (.ref s.heap.objs.size) [y] (λ_ H9=>N σ6 (acc++[z]) H9) I8 rfl (.cons r8 .nil) ⟨_,acc,z,rfl,rfl,hp8,hl8,q8⟩) λ_ s9 ⟨_,H9,I9,_,q9⟩=>again I9 (hN _ _ _ q9)
 exact codeAny_compStart_list (loop _ rfl) (T.self _ 0 _ _ _ st1 (loop _ rfl))
theorem US(N':List Str)(js:List (Option Nat))(hi:PI X tg iter wi)(hg:∀B,PG (dN X sc N' B) tg (g B))(ht:∀B,iT (dN X sc N' B) ifs (tt B))(he:∀B,PE (dN X sc N' B) elt (te B))(S0:mV N' sc X.env.scope=true:=by kernel_rfl)(hj:fP N' X.N sc js N'=true:=by kernel_rfl)(hc:X.calm=true:=by rfl)(hs:∀x,Hb iter X.env x=pure x:=by intro _;rfl):PE X (.ListComp elt [⟨tg,iter,ifs,0⟩] sc pos) (wC wi g tt te js):=by
 intro pins s Z H Q I h;have S:=mU.of S0;rw[eval_ListComp];refine wpAny_comprehension_free (use:=none) rfl hs (ET (wA S I)) S.kind S.loc (a8 (hi pins s Z H _ I h) λxv s1 h1=>a8 h1 λitv s2 h2=>?_);obtain⟨it,fp,tn,J,H2,e,I2,T,st2,f2,hw⟩:=h2;subst e;refine EU (RR:=λacc C=>compPost (Bw X.prog X.w) X.A X.xe none (EP X pins Z Q) acc C) S hj hc hg ht he I2 T st2 f2 hw ?_;intro p C H' s' m I' fC hn q;refine⟨m,hn,λh' hs'=>⟨.ref p,H',?_,rfl,q⟩⟩;exact I'.turned (t':=s'.toks) (λb o hb e=>(hs'.2 b hb).trans e) fC.1 fC.2.1 fC.2.2.2.1 fC.2.2.2.2.1 fC.2.2.2.2.2
theorem UT{i:Nat}{x:Str}{px spos:Pos}(hN:X.N.Nodup)(hi0:X.N[i]? = some x)(hx:Loc X.env.scope x)(N':List Str)(js:List (Option Nat))(hi:PI X tg iter wi)(hg:∀B,PG (dN X sc N' B) tg (g B))(ht:∀B,iT (dN X sc N' B) ifs (tt B))(he:∀B,PE (dN X sc N' B) elt (te B))(S0:mV N' sc X.env.scope=true:=by kernel_rfl)(hj:fP N' X.N sc js N'=true:=by kernel_rfl)(hc:X.calm=true:=by rfl)(hsw:Jt (.ListComp elt [⟨tg,iter,ifs,0⟩] sc pos) (some (.Name x px)) spos.line X.env=pure true:=by rfl)(hf:X.fn x=true\/X.env.scope.names.lookup x=some .local:=by first|exact .inl rfl|exact .inr rfl|assumption)(hs:∀x,Hb iter X.env x=pure x:=by intro _;rfl):PS X (.Assign [.Name x px] (.ListComp elt [⟨tg,iter,ifs,0⟩] sc pos) spos) (rR (wC wi g tt te js) (vL i)):=by
 intro pins s Z H D I h;have S:=mU.of S0;rw[exec_Assign_Name_used _ _ _ _ hsw];refine Ac (Nn (Ac ?_));show Bo _ X.A (do let _ <-comprehension (.ListComp elt [⟨tg,iter,ifs,0⟩] sc pos) sc X.env _ (newList []) false (eval iter X.env) (some (Mo (.Name x px) X.env))) _ _ s;refine Ac (Ht (wpAny_comprehension_free (use:=some (Mo (.Name x px) X.env)) (Q:=λ_ s'=>SP X pins D .next s') rfl hs (ET (wA S I)) S.kind S.loc
  (a8 (hi pins s Z H _ I h) λxv s1 h1=>a8 h1 λitv s2 h2=>?_)) (λ_ s' hq=>Ao (Ao hq)) λ_ _ e=>e)
 obtain⟨it,fp,tn,J,H2,e,I2,T,st2,f2,hw⟩:=h2;subst e;refine EU (RR:=λacc C=>compPost (Bw X.prog X.w) X.A X.xe (some (Mo (.Name x px) X.env)) (λ_ s'=>SP X pins D .next s') acc C) S hj hc hg ht he I2 T st2 f2 hw ?_;intro p C H' s' m I' fC hn q;show Bo _ X.A (Mo (.Name x px) X.env (.ref p)) _ _ _;refine wpAny_assign_Name (DH I' hN hi0 hx (v:=.ref p) rfl (λs'' I'' ⟨a,sb,ha⟩=>?_) hf);have hCa:C≠a:=by
  rcases ha with e|e
  .rw[e];exact fC.2.1
  .exact λz=>fC.2.2.2.2.1 x a e z.symm
 refine⟨m,hn.sameBut sb hCa,λh' hs'=>⟨_,H',?_,q⟩⟩;exact I''.turned (t':=s''.toks) (λb o hb e=>(hs'.2 b hb).trans e) fC.1 fC.2.1 fC.2.2.2.1 fC.2.2.2.2.1 fC.2.2.2.2.2
end
section
variable {g:TG}{tt:TT}{te:TE}{p:Addr}{σ₀:St}{H1:Hp}{Q:VK}
theorem UU{J:It}(n:Nat)(Pv:Nat->St->List V->Hp->Prop)(h0:Pv 0 σ₀ [] (aQ H1 p (.lst [])))(hd:∀Z acc H,Pv n Z acc H->J.stop n H/\Q (.ref p) H)(hs:∀i Z acc H,i<n->Pv i Z acc H->J.go i H/\∀x H',J.yld i H x H'->g x Z H' λσ2 H2=>tt σ2 H2 λb H3=>
   if b=true then te σ2 H3 λy H4=>H4 p=some (.lst acc)/\acc.length<Ap/\Pv (i+1) σ2 (acc++[y]) (aQ H4 p (.lst (acc++[y]))) else Pv (i+1) σ2 acc H3):wB J g tt te p σ₀ H1 Q:=by
 refine⟨λi m Z acc H=>m=n-i/\i<=n/\Pv i Z acc H,⟨n,by simp,Bf _,h0⟩,?_⟩;rintro i m Z acc H ⟨rfl,hi,q⟩
 by_cases hlt:i<n
 .obtain⟨hg,hy⟩:=hs i Z acc H hlt q;exact .inr ⟨hg,Pv (i+1),λσ2 acc' H' q'=>⟨n-(i+1),by lia,rfl,hlt,q'⟩,hy⟩
 .have e:i=n:=by lia
  subst e;exact .inl (hd Z acc H q)
end
section
variable {X:Cx}
theorem EV{i:Int}(h:i.natAbs<2 ^ 4096):Gp i<=2 ^ 20:=by
 unfold Gp;split
 .exact Bf _
 .rename_i h0;have hn:i.natAbs≠0:=by
   intro z;have:i=0:=Int.natAbs_eq_zero.mp z;rw[this]at h0;exact h0 rfl
  have:i.natAbs.log2<4096:=(Nat.log2_lt hn).mpr h;have e:(2:Nat) ^ 20=1048576:=by decide
  lia
def sD(i j:Int):Prop:=i.natAbs<2 ^ 4096/\j.natAbs<2 ^ 4096
theorem UW:a9 X (Ek .Mult) (rI sD λi j=>.int (i*j)):=nV λ_ _ _ _ _ _ _ hc q=>mul_int q (IntMulOk.of_bits (EV hc.1) (EV hc.2))
def EW(i j:Int):Prop:=0<j/\j<2 ^ 4096
theorem UX:a9 X (Ek .FloorDiv) (rI EW λi j=>.int (i/j)):=nV λi j _ _ _ _ _ hc q=>by
 refine floordiv_int (by have:=hc.1;lia) ?_ (.inl (PyProof.noPylong_of_log2 ?_))
 .rw[Int.fdiv_eq_ediv_of_nonneg _ (Int.le_of_lt hc.1)];exact q
 .have h0:j.natAbs≠0:=by have:=hc.1;lia
  have h1:j.natAbs<2 ^ 4096:=by
   have a:=hc.1;have b:=hc.2;lia
  have:=(Nat.log2_lt h0).mpr h1;lia
theorem all_range{bs:List Bool}:(Bp bs.length).all (λi=>bs.getD i false)=bs.all id:=by
 induction bs with
 | nil=>rfl
 | cons b r ih=>
  rw[Az,List.range_succ_eq_map,Jz,Kl,Jz];have:((λi=>(b::r).getD i false) ∘ Nat.succ)=λi=>r.getD i false:=by
   funext i;simp[List.getD]
  rw[this,ih];simp
theorem EX(hc:X.calm=true):b7 X (.builtin "all") (λxs H Q=>∃(p:Addr) (bs:List Bool),xs=[.ref p]/\bH X.K H p (bs.map V.bl)/\Q (.bl (bs.all id)) H):=by
 intro pins s Z H xs us Q I r h;obtain⟨p,bs,rfl,hq,q⟩:=h;obtain⟨u,rfl,ru⟩:=vals1 r;cases ru;obtain⟨its,rv,pl,hz⟩:=I.list hq;have hlt:p<s.heap.objs.size:=by obtain⟨_,e,_⟩:=pl.isList;exact Bi e
 refine call_all_walk (Ih pl.isList ?_);have hA:X.A.in1.handled=none:=I.ok.hd hc;refine⟨s.heap.objs.size,[s.heap.objs.size,p],[s.heap.objs.size],its.toArray.size,(λi v=>its.toArray[i]? = some v),_,(λi=>bs.getD i false),rfl,Walks.list hA s.heap.objs.size p (Bs hlt) its.toArray,
  ⟨⟨_,Be _ rfl,rfl,rfl⟩,pl.isList.push _⟩,?_,λh' tk hk=>?_⟩
 .intro i v s' Q' E' hv hQ';have hv':its[i]? = some v:=by simpa using hv
  have hi:i<its.length:=(Ak.mp hv').1;have hl:=rv.length;rw[Aa]at hl;have hb:bs[i]? = some (bs.getD i false):=by
   have hi':i<bs.length:=by lia
   simp[List.getD,Bc hi']
  obtain⟨u,hu,ru⟩:=rv.get (i:=i) (x:=.bl (bs.getD i false)) (by rw[Ax,hb];rfl);rw[hv']at hu;cases hu;cases (show v=Value.bool (bs.getD i false) from ru);exact Ao hQ'
 .have hl:=rv.length;rw[Aa]at hl;have e:(Bp its.toArray.size).all (λi=>bs.getD i false)=bs.all id:=by
   rw[Bg,<-hl,all_range]
  rw[e];refine⟨.bl (bs.all id),H,?_,rfl,q⟩;exact I.kept (t':=tk) λb o eb=>hk b o (λz=>by
   have:b=s.heap.objs.size:=by simpa using z
   exact absurd (Bi eb) (by rw[this];exact Dz _)) (Am _ eb)
theorem UY:b7 X (.builtin "isinstance") (λxs H Q=>∃x T t b,xs=[x,.ty T]/\iG X.K H x t/\Jh X.K t (.type T)=some b/\Q (.bl b) H):=by
 intro pins s Z H xs us Q I r h;obtain⟨x,T,t,b,rfl,ty,e,q⟩:=h;obtain⟨u,w',rfl,ru,rw'⟩:=vals2 r;cases (show w'=Value.type T from rw');exact RD I ru ty e λtk=>⟨.bl b,H,I.tok _,rfl,q⟩
def wD(z:Str):It:=⟨λi _=>i<z.cps.size,λi H x H'=>H'=H/\∃c,z.cps.toList[i]? = some c/\x=.str ⟨#[c]⟩,λi _=>z.cps.size<=i⟩
theorem EY{P:Ca}{w:Ct}{K:Ab}{x:Str}{px:Pos}(z:Str)(it:Addr)(ty:String)(tk0:Tok)(nx:∀(A:Dg) (s:Aj) (i c:Nat) (Q:Option Ae->Aj->Prop) (E:Ae->Aj->Prop),s.heap.IsStrIter it ty z tk0 i->z.cps[i]? = some c->
   (∀h',h'.IsStrIter it ty z tk0 (i+1)->Ez it s.heap h'->Q (some (.str ⟨#[c]⟩ s.toks)) {s with heap:=h',toks:=s.toks+1})->Bo (Bw P w) A (Ml (.ref it)) Q E s)(en:∀(A:Dg) (s:Aj) (i:Nat) (Q:Option Ae->Aj->Prop) (E:Ae->Aj->Prop),A.handled=none->s.heap.IsStrIter it ty z tk0 i->z.cps[i]? = none->
   (∀h',Heap.ExtBut it s.heap h'->Q none {s with heap:=h'})->Bo (Bw P w) A (Ml (.ref it)) Q E s)(slf:∀(A:Dg) (i:Nat) (s:Aj) (Q:Ae->Aj->Prop) (E:Ae->Aj->Prop),s.heap.IsStrIter it ty z tk0 i->Q (.ref it) s->Bo (Bw P w) A (pyIter (.ref it)) Q E s):
  jL P w K (.Name x px) (wD z) [it] it (λi h=>h.IsStrIter it ty z tk0 i) where
 mem:=by simp
 obj:=λi h st b hb=>by
  have e:b=it:=by simpa using hb
  subst e;obtain⟨o,ho,_,hd⟩:=st;exact⟨o,ho,λv q=>by rw[hd]at q;cases q⟩
 keep:=λi h h' st k=>by
  obtain⟨o,ho,r⟩:=st;exact⟨o,k it (by simp) o ho,r⟩
 item:=by
  intro X hP hw hK hc i pins s Z H E I hf st hg;subst hP hw hK;obtain⟨f0,f1,f2,f3,f4,f5⟩:=hf it (by simp);have hi:z.cps[i]? = some z.cps[i]:=Array.getElem?_eq_getElem hg;refine nx X.A s i _ _ _ st hi λh' st' sb=>?_;have I1:Inv X pins Z H {s with heap:=h',toks:=s.toks+1}:=I.turned (λb o hb e=>(sb.2 b hb).trans e) f0 f1 f3 f4 f5;exact⟨_,rfl,Ao ⟨.str ⟨#[z.cps[i]]⟩,H,I1,⟨_,rfl⟩,⟨rfl,z.cps[i],by rw[Em];exact hi,rfl⟩,st',λb hb=>(hf b hb).1⟩⟩
 done:=by
  intro X hP hw hK hc i pins s Z H E I hf st hg;subst hP hw hK;obtain⟨f0,f1,f2,f3,f4,f5⟩:=hf it (by simp);have hg':z.cps.size<=i:=hg;exact en X.A s i _ _ (I.ok.hd hc) st (Array.getElem?_eq_none hg') λh' eb=>⟨rfl,I.turned (t':=s.toks) (λb o hb e=>eb b o hb e) f0 f1 f3 f4 f5⟩
 self:=slf
theorem EZ{prog:Ca}{w:Ct}{A:Dg}{E:Ae->Aj->Prop}{it l:Addr}{items:Array Ae}(hne:l≠it):∀(n i:Nat) (s:Aj) (Q:List Ae->Aj->Prop),s.heap.IsListIter it l i->s.heap.IsList l items->i+n<=items.size->
  (∀h',h'.IsListIter it l (i+n)->Ez it s.heap h'->Q ((items.toList.drop i).take n) {s with heap:=h'})->Bo (Bw prog w) A (draw (.ref it) n) Q E s
 | 0,i,s,Q,hit,_,_,hQ=>by
  show Bo _ _ (pure []) Q E s;exact Ao (by simpa using hQ s.heap hit (Heap.SameBut.refl ..))
 | n+1,i,s,Q,hit,ht,hle,hQ=>by
  have hlt:i<items.size:=by lia
  show Bo _ _ (Ml (.ref it)>>=_) Q E s;refine Ac (wpAny_pyNext_list_item hit ht (x:=items[i]) (by simp[hlt]) λh1 hit1 hs1=>?_);refine Ac (Du (EZ hne n (i+1) _ _ hit1 (ht.extBut hs1.extBut hne) (by lia) λh2 hit2 hs2=>Ao ?_));have hd:items.toList.drop i=items[i]::items.toList.drop (i+1):=by simp[Gn,hlt]
  have:=hQ h2 (by rw[show i+(n+1)=i+1+n by lia];exact hit2) (hs1.trans hs2);rw[hd,List.take_succ_cons]at this;exact this
theorem UZ{prog:Ca}{w:Ct}{A:Dg}{E:Ae->Aj->Prop}{s:Aj}{t:Addr}{items:Array Ae}{targets:List (Bool×(Ae->Sem Unit))}{Q:Unit->Aj->Prop}(hh:A.handled=none)(ht:s.heap.IsList t items)(hn:targets.length=items.size)(hstar:targets.findIdx? (·.1)=none)(h:∀h',Heap.ExtBut s.heap.objs.size s.heap h'->Bo (Bw prog w) A (assignInOrder (targets.map (·.2)) items.toList) Q E {s with heap:=h'}):
  Bo (Bw prog w) A (unpack (.ref t) targets) Q E s:=by
 have hlt:t≠s.heap.objs.size:=by obtain⟨o,ho,_⟩:=ht;exact Bs (Bi ho)
 unfold unpack;rw[hn,hstar];refine Ac (Du ?_);unfold unpackItems;refine Ac ?_;unfold notIterableAtAll;refine Ac (wpAny_specialOf ht.typeIs F.slot_list_iter.lookup ?_);refine Ao ?_;simp only[Ea,if_false];refine Ac (Du (Ih ht ?_));refine Ac (Du (EZ hlt items.size 0 _ _ ⟨_,Be _ rfl,rfl,rfl⟩ (ht.push _) (by lia) λh1 hit1 hs1=>?_));have hall:List.take items.size (List.drop 0 items.toList)=items.toList:=by
  rw[List.drop_zero];exact Hh (by simp)
 rw[hall];rw[if_neg (by simp)];have ht1:h1.IsList t items:=(ht.push _).extBut hs1.extBut hlt;refine Ac (Du (wpAny_pyNext_list_end hh hit1 ht1 (by simp) λh2 he2=>?_));simp only[Option.isSome_none,Ea,if_false];refine Ao (h h2 λb o hb e=>he2 b o hb (hs1.extBut b o hb (Am _ e)))
def U0(K:Ab)(n:Nat)(t:jK):TG:=λv Z H Q=>∃a xs,v=.ref a/\bH K H a xs/\xs.length=n/\t xs Z H Q
theorem E1{es:List Expr}{k:Nat}{pos:Pos}{t:jK}{n:Nat}(hc:X.calm=true)(h:i0 X es t)(hn:(Gr es X.env).length=n:=by rfl)(hst:(Gr es X.env).findIdx? (·.1)=none:=by rfl):PG X (.Tuple es k pos) (U0 X.K n t):=by
 intro pins s Z H v u Q I r hw;obtain⟨a,xs,e1,hq,hl,hw⟩:=hw;subst e1;cases r;obtain⟨its,rv,ht,hz⟩:=I.list hq;rw[PyProof.Rows.assign_Tuple];refine Ac (Nn (UZ (I.ok.hd hc) ht.isList (by simp[hn,<-hl,rv.length]) hst λh' hx=>?_));have I1:Inv X pins Z H {s with heap:=h'}:=I.kept (t':=s.toks) λb o e=>hx b o (Bs (Bi e)) e;exact h pins _ Z H xs _ Q I1 (by simpa using rv) hw
end
end L2
namespace Rg
open PySem Spec PyProof.Rows L2
theorem E2{i:Nat}{m n:Nat}(h:i<2 ^ m)(hm:m<=n):i<2 ^ n:=Bq h (Dq (by decide) hm)
end Rg
namespace L2
open PySem Spec PyProof.Rows
section
variable {X:Cx}
def n5(d:Iu):Prop:=d.canLay0=true/\d.depth<=60
theorem wF:∀{xs:List V} {us:List Ae},xs.length=us.length->(∀(j:Nat) (u:Ae),us[j]? = some u->∃x,xs[j]? = some x/\RelV x u)->aW xs us
 | [],[],_,_=>.nil
 | [],_::_,h,_=>by simp at h
 | _::_,[],h,_=>by simp at h
 | x::xs,u::us,h,k=>by
  obtain⟨y,e,r⟩:=k 0 u rfl;simp at e;subst e;exact .cons r (wF (by simpa using h) λj v hv=>by
   obtain⟨y,e,r⟩:=k (j+1) v (by simpa using hv);exact⟨y,by simpa using e,r⟩)
theorem wH:∀{kvs:List (aC×V)} {vs:List (aC×Ae)} {j:Nat} {k:aC} {x:Ae},KV kvs vs->vs[j]? = some (k,x)->∃v,kvs[j]? = some (k,v)
 | _,_,_,_,_,.nil,e=>by simp at e
 | _,_,0,_,_,.cons (a:=p) r _,e=>by
  simp at e;subst e;exact⟨p.2,by obtain⟨a,b⟩:=p;cases r.1;rfl⟩
 | _,_,j+1,k,x,.cons _ t,e=>by
  obtain⟨v,q⟩:=wH (j:=j) (k:=k) (x:=x) t (by simpa using e);exact⟨v,by simpa using q⟩
theorem sE{k:aC}{v:Ae}(h:mN k v=true):RelV (kV k) v:=by
 rcases j8 h with⟨i,t,rfl,rfl⟩|⟨x,t,rfl,rfl⟩
 .exact⟨t,rfl⟩
 .exact⟨t,rfl⟩
theorem U1(hc:X.calm=true):b7 X (.type "list") (λxs H Q=>∃d kvs,xs=[.ref d]/\H d=some (.dK kvs)/\∀l,H l=none->Q (.ref l) (aQ H l (.lst (kvs.map λkv=>kV kv.1)))):=by
 intro pins s Z H xs us Q I r h;obtain⟨d,kvs,rfl,hd,q⟩:=h;obtain⟨u,rfl,ru⟩:=vals1 r;cases ru;obtain⟨hz,hne,vs,rkv,hD⟩:=(show b8 X.prog X.w H s.heap d (.dK kvs) from I.hok d _ hd);obtain⟨ep,hat⟩:=hD.dictAt;have hl:=rkv.length;refine PySem.W.kdl_call (PySem.W.kdl_dict (knd:=cR X.prog X.w) (kvs:=vs) (ep:=ep) hne) (I.ok.hd hc) hat (by rw[<-hl];exact hz) λh' tk acc' c' hk hS hacc=>?_;refine⟨.ref s.heap.objs.size,_,I.laid (o:=.lst (kvs.map λkv=>kV kv.1)) (t':=tk) hk (Ag _) ⟨by rw[Aa];exact hz,acc'.toList,c',?_,by rw[Kd];exact hS⟩,rfl,q _ (I.hok.fresh (Ag _))⟩;refine wF (by have h1:=hacc.1;have h2:acc'.toList.length=acc'.size:=Fx;have h3:(kvs.map λkv=>kV kv.1).length=kvs.length:=Aa ..;lia) λj v hv=>?_;obtain⟨k,x,hx,hk'⟩:=hacc.2 j v (by rw[<-Em];exact hv);obtain⟨y,hy⟩:=wH rkv hx;exact⟨kV k,by rw[Ax,hy];rfl,sE hk'⟩
theorem E4{n:Nat}(i:Nat)(h:i≠0):n+i≠n:=by lia
theorem E5{n:Nat}(i:Nat):n<=n+i:=by lia
end
section
variable {X:Cx}
def wI(K:Ab)(a:Addr)(xs:List V):It:=
 ⟨λi H=>bH K H a xs/\i<xs.length,
   λi H x H'=>∃p u,xs[i]? = some u/\H p=none/\x=.ref p/\H'=aQ H p (.tup [.int (i:Nat),u]),
   λi H=>bH K H a xs/\xs.length<=i⟩
theorem Inv.laidT{pins:List (Addr×Obj)}{Z:St}{H:Hp}{s:Aj}{fp:List Addr}{h'':Heap}{tk:Nat}{xs:List V}{its:List Ae}(I:Inv X pins Z H s)(hf:∀b∈fp,gZ X pins H b)(keep2:∀q o,q∉fp->s.heap.get? q=some o->h''.get? q=some o)(hz:xs.length<=Ap)(rv:aW xs its)(hp2:h''.get? s.heap.objs.size=some {cls:=.type "tuple",data:=.seq its.toArray}):
  Inv X pins Z (aQ H s.heap.objs.size (.tup xs)) {s with heap:=h'',toks:=tk}:=by
 have hfr:H s.heap.objs.size=none:=I.hok.fresh (Ag _);have nfp:∀q∈fp,H q=none:=λq hq=>(hf q hq).1;refine I.step (g':=s.gens) (d':=s.drawn) (t':=tk) (ch:=fp) (λq hq=>⟨(hf q hq).2.2.2.1,(hf q hq).2.1,(hf q hq).2.2.2.2.1,(hf q hq).2.2.2.2.2⟩)
  (λq o _ _ hc e _=>keep2 q o hc e) (λq o _ _ hc e _=>⟨o.slots,keep2 q o hc e⟩) (λq o _ e n=>by rw[bI (Bs (Bi e))];exact n)
  (λq o hc e=>⟨o,keep2 q o hc e⟩) (λq zs e=>by rw[bI (e7 e hfr)];exact e) (λq o zs e=>by rw[bI (e7 e hfr)];exact e) (λq ps e=>⟨#[],by rw[bI (e7 e hfr),e];simp⟩) (λm hm=>?_) ?_ I.bare
 .obtain⟨o,es,ep,ho,r⟩:=hm;exact⟨o,es,ep,keep2 _ o (λz=>absurd rfl (hf _ z).2.1) ho,r⟩
 .intro q o e
  by_cases hq:q=s.heap.objs.size
  .subst hq;rw[cU]at e;cases e;exact⟨hz,its,rv,⟨_,hp2,rfl,_,rfl⟩⟩
  .rw[bI hq]at e;refine(I.hok q o e).stay (λt w' ht qq=>keep2 t w' (λz=>?_) qq) (λt qq=>by rw[bI (e7 qq hfr)];exact qq) λt zs qq=>by rw[bI (e7 qq hfr)];exact qq
   have n0:=nfp t z;rcases ht with rfl|ht
   .rw[n0]at e;cases e
   .rw[n0]at ht;cases ht
theorem Inv.turnedT{pins:List (Addr×Obj)}{Z:St}{H:Hp}{s:Aj}{fp:List Addr}{h'':Heap}{tk:Nat}(I:Inv X pins Z H s)(hf:∀b∈fp,gZ X pins H b)(keep2:∀q o,q∉fp->s.heap.get? q=some o->h''.get? q=some o):Inv X pins Z H {s with heap:=h'',toks:=tk}:=by
 have nfp:∀q∈fp,H q=none:=λq hq=>(hf q hq).1;refine I.step (g':=s.gens) (d':=s.drawn) (t':=tk) (ch:=fp) (λq hq=>⟨(hf q hq).2.2.2.1,(hf q hq).2.1,(hf q hq).2.2.2.2.1,(hf q hq).2.2.2.2.2⟩)
   (λq o _ _ hc e _=>keep2 q o hc e) (λq o _ _ hc e _=>⟨o.slots,keep2 q o hc e⟩) (λq o _ e n=>n)
   (λq o hc e=>⟨o,keep2 q o hc e⟩) (λq zs e=>e) (λq o zs e=>e) (λq ps e=>⟨#[],by rw[e];simp⟩) (λm hm=>?_) ?_ I.bare
 .obtain⟨o,es,ep,ho,r⟩:=hm;exact⟨o,es,ep,keep2 _ o (λz=>absurd rfl (hf _ z).2.1) ho,r⟩
 .intro q o e;refine(I.hok q o e).stay (λt w' ht qq=>keep2 t w' (λz=>?_) qq) (λt qq=>qq) λt zs qq=>qq;have n0:=nfp t z;rcases ht with rfl|ht
  .rw[n0]at e;cases e
  .rw[n0]at ht;cases ht
theorem U2{P:Ca}{w:Ct}{K:Ab}{es:List Expr}{kx:Nat}{px:Pos}(a e it:Addr)(xs:List V)(hne:e≠it):
  jL P w K (.Tuple es kx px) (wI K a xs) [e,it] e (λi h=>(∃old,IsEnum h e it (i:Nat) old)/\h.IsListIter it a i) where
 mem:=by simp
 obj:=λi h st c hc=>by
  obtain⟨⟨old,h1⟩,⟨o4,h4,_,h4d⟩⟩:=st;simp only[Bj,Fp,or_false]at hc;rcases hc with rfl|rfl
  .exact⟨_,h1,λv q=>by cases q⟩
  .exact⟨_,h4,λv q=>by rw[h4d]at q;cases q⟩
 keep:=λi h h' st k=>by
  obtain⟨⟨old,h1⟩,⟨o4,h4,r4⟩⟩:=st;exact⟨⟨old,k e (by simp) _ h1⟩,⟨o4,k it (by simp) _ h4,r4⟩⟩
 item:=by
  intro X hP hw hK hc i pins s Z H E I hf st hg;subst hP hw hK;obtain⟨⟨old,h1⟩,h4⟩:=st;obtain⟨hqa,hi⟩:=hg;obtain⟨its,rv,pl,hz⟩:=I.list hqa;obtain⟨u,hu,ru⟩:=rv.get (Bc hi);refine wpAny_pyNext_enum_item h1 h4 pl.isList (x:=u) (by simpa using hu) hne λh' a1 a2 a3 a4 hk=>?_;refine⟨_,rfl,wpAny_letOwnedTupleGo_enum a1 λh'' e' sb=>?_⟩;have hfr:H s.heap.objs.size=none:=I.hok.fresh (Ag _);have lte:e<s.heap.objs.size:=Bi h1;have lti:it<s.heap.objs.size:=by obtain⟨_,q,_⟩:=h4;exact Bi q
  have keep2:∀q o,q∉[e,it]->s.heap.get? q=some o->h''.get? q=some o:=λq o hq eq=>by
   simp only[Bj,Fp,or_false,not_or]at hq;exact(sb.2 q hq.1).trans (hk q o hq.1 hq.2 eq)
  have hp2:h''.get? s.heap.objs.size=some {cls:=.type "tuple",data:=.seq [.int (i:Nat) s.toks,u].toArray}:=(sb.2 _ (Hm lte)).trans a3;have I1:Inv X pins Z (aQ H s.heap.objs.size (.tup [.int (i:Nat),xs[i]])) {s with heap:=h'',toks:=s.toks+1}:=I.laidT (its:=[.int (i:Nat) s.toks,u]) hf keep2 (by show 2<=Ap;decide) (.cons ⟨_,rfl⟩ (.cons ru .nil)) hp2;refine⟨.ref s.heap.objs.size,_,I1,rfl,⟨s.heap.objs.size,xs[i],Bc hi,hfr,rfl,rfl⟩,⟨⟨u,by rw[Jf];exact e'⟩,a2.extBut sb.extBut hne.symm⟩,λq hq=>?_⟩;rw[bI]
  .exact(hf q hq).1
  .intro eq;subst eq;simp only[Bj,Fp,or_false]at hq;rcases hq with q|q
   .exact Hm lte q
   .exact Hm lti q
 done:=by
  intro X hP hw hK hc i pins s Z H E I hf st hg;subst hP hw hK;obtain⟨⟨old,h1⟩,h4⟩:=st;obtain⟨hqa,hij⟩:=hg;obtain⟨its,rv,pl,hz⟩:=I.list hqa;have l1:=rv.length;refine wpAny_pyNext_enum_end (I.ok.hd hc) h1 h4 pl.isList (by simp;lia) λh' hk=>⟨rfl,?_⟩
  exact I.turnedT (tk:=s.toks) hf λq o hq eq=>hk q o (λz=>hq (by simp[z])) eq
 self:=λ_ _ _ _ _ st h=>by
  obtain⟨⟨old,h1⟩,_⟩:=st;exact Mf h1 h
def U3(K:Ab)(ta:TA):TI:=λZ H R=>ta Z H λvs H1=>∃a xs,vs=[.ref a]/\bH K H1 a xs/\R (wI K a xs) H1
theorem U4{a:Expr}{ta:TA}{p pos:Pos}{es:List Expr}{kx:Nat}{px:Pos}(hg:Gl X "enumerate")(hm:X.mg "enumerate" = none)(ha:PA X [a] ta)(hs:Br [a] X.env=[(false,eval a X.env)]:=by rfl):
  PI X (.Tuple es kx px) (.Call (.Name "enumerate" p) [a] [] pos) (U3 X.K ta):=by
 intro pins s Z H R I h;refine Call_ (kW I hg hm boot_enumerate (Eb (a8 (ha pos pins s Z H _ I h) λus s1 ⟨vs,H1,I1,r1,q1⟩=>?_) hs rfl));obtain⟨a,xs,rfl,hqa,q⟩:=q1;obtain⟨u,rfl,ru⟩:=vals1 r1;cases ru;obtain⟨its,rv1,pl,hz⟩:=I1.list hqa;refine call_enumerate_list pl.isList λh' g1 g2 g3 k=>?_;refine Mf g1 ?_;refine⟨s1.heap.objs.size+1,[s1.heap.objs.size+1,s1.heap.objs.size],_,_,H1,rfl,I1.kept (t':=s1.toks) k,U2 a _ _ xs (E4 1 (by decide)),⟨⟨_,g1⟩,g2⟩,λq hq=>?_,q⟩;have hge:s1.heap.objs.size<=q:=by
  simp only[Bj,Fp,or_false]at hq;rcases hq with e|e
  .rw[e];exact E5 1
  .rw[e];exact Ag _
 exact I1.fpOk hge (I1.hok.fresh hge)
end
abbrev zgt:=aC×List aC
end L2
namespace L2
open PySem PySem.Spec PySem.W PyProof.Rows
section
variable {prog:Ca}{w:Ct}{A:Dg}{E:Ae->Aj->Prop}{s:Aj}
theorem E6{it d:Addr}{i ep:Nat}{es:Array Fn}{od:Obj}{Q:Option Ae->Aj->Prop}(hit:s.heap.IsKeyIter it d i es.size ep)(hod:s.heap.get? d=some od)(hdd:od.data=.dict es ep)(hi:i<es.size)(hQ:∀h',h'.IsKeyIter it d (i+1) es.size ep->Ez it s.heap h'->Q (some es[i].key) {s with heap:=h'}):Bo (Bw prog w) A (Ml (.ref it)) Q E s:=by
 have hT:=hit.typeIs;obtain⟨o,ho,hc,hd⟩:=id hit;have own:Builtin.Dict_items.ownsTuple "dict_keyiterator" = false:=by decide
 have nn:¬((Value.ref d==Value.none)=true):=Av;have up:(s.heap.update it (Obj.mapFields (·.setIfInBounds 1 (Lu ((i:Int)+1))))).IsKeyIter it d (i+1) es.size ep:=
  ⟨_,Hs _ ho (Obj.isFreed_of_fields (La hd _)),(Obj.cls_mapFields ..).trans hc,by rw[La hd];simp[Lu]⟩
 have uT:=up.typeIs (s:={s with heap:=s.heap.update it (Obj.mapFields (·.setIfInBounds 1 (Lu ((i:Int)+1))))});unfold Ml;refine Ac (wpAny_attempt (Hj (name:=Eg "__next__") hT Es (Fi Es hT PySem.F.entry_dict_keyiterator_next ?_ (PySem.F.args_dict_keyiterator_next_1 _))));refine Ac (Ao (Ac (Ac ?_)))
 first|refine Ac (Hr hT (Ao ?_))|refine Ac (Jl hT (Ao ?_))
 refine Ac (wpAny_fieldsOf ho hd ?_);rw[own,if_neg Av];show Bo _ _ (if (Value.ref d==Value.none)=true then _ else _) _ _ _;rw[if_neg nn];refine Ac (Ao (Ac (Ii hod hdd ?_)));rw[if_neg (by simp)];refine Ac (Ao (Ac (wpAny_dictEpoch hod hdd ?_)));rw[if_neg (by simp)];refine Ao ?_;simp only[show ¬((i:Int)<0) by lia,if_false,Fj,Array.getElem?_eq_getElem hi];refine Ac ?_
 first|refine Ac (Hr hT (Ao ?_))|refine Ac (Jl hT (Ao ?_))
 refine Ac (wpAny_isOneOf_keyiter hT ?_);show Bo _ _ (setField (.ref it) 1 (Lu ((i:Int)+1))>>=_) _ _ _;refine Ac (Ni ho hd (by simp) (Ac (Du (Ac (wpAny_isOneOf_keyiter uT ?_)))));show Bo _ _ (pure es[i].key) _ _ _;exact Ao (Ao ⟨_,rfl,Ao (hQ _ up (Fd ..))⟩)
theorem E7{it d:Addr}{i ep:Nat}{es:Array Fn}{od:Obj}{Q:Option Ae->Aj->Prop}(hh:A.handled=none)(hit:s.heap.IsKeyIter it d i es.size ep)(hod:s.heap.get? d=some od)(hdd:od.data=.dict es ep)(hi:es.size<=i)(hQ:∀h',Heap.ExtBut it s.heap h'->Q none {s with heap:=h'}):Bo (Bw prog w) A (Ml (.ref it)) Q E s:=by
 have hT:=hit.typeIs;obtain⟨o,ho,hc,hd⟩:=id hit;have own:Builtin.Dict_items.ownsTuple "dict_keyiterator" = false:=by decide
 have nn:¬((Value.ref d==Value.none)=true):=Av;unfold Ml;refine Ac (wpAny_attempt (Hj (name:=Eg "__next__") hT Es (Fi Es hT PySem.F.entry_dict_keyiterator_next ?_ (PySem.F.args_dict_keyiterator_next_1 _))));refine Ac (Ao (Ac (Ac ?_)))
 first|refine Ac (Hr hT (Ao ?_))|refine Ac (Jl hT (Ao ?_))
 refine Ac (wpAny_fieldsOf ho hd ?_);rw[own,if_neg Av];show Bo _ _ (if (Value.ref d==Value.none)=true then _ else _) _ _ _;rw[if_neg nn];refine Ac (Ao (Ac (Ii hod hdd ?_)));rw[if_neg (by simp)];refine Ac (Ao (Ac (wpAny_dictEpoch hod hdd ?_)));rw[if_neg (by simp)];refine Ao ?_;simp only[show ¬((i:Int)<0) by lia,if_false,Fj,Array.getElem?_eq_none hi];refine Ac ?_
 first|refine Ac (Hr hT (Ao ?_))|refine Ac (Jl hT (Ao ?_))
 show Bo _ _ (setField (.ref it) 0 .none>>=_) _ _ _;refine Ac (Ni ho hd (by simp) ?_);show Bo _ _ (newExc (.type "StopIteration") []>>=_) _ _ _;refine Ac ?_;simp only[newExc,newTuple];refine Ac (Ew (Ac (m:=Nj _ _) (wpAny_of_eq (a:=Value.none) (by first|rfl|(simp only[Nj];rfl)) (Ew ?_ (by size_fits)))) (by size_fits));simp only[raiseNew];refine Ac (wpAny_handled ?_);rw[show A.in1.handled=none from hh];refine Ac (Ao (wpAny_throw ?_));refine Ac (wpAny_isInstance (T:="StopIteration") (b:=true) ⟨_,Be _ rfl,rfl⟩ isSubtype_stop ?_);exact Ao (hQ _ (((Fd ..).extBut.push _).push _))
theorem U5(hh:A.handled=none)(I d:Addr)(hne:d≠I)(es:Array Fn)(ep:Nat):
  Walks prog w A I [I,d] [I] es.size (λi v=>∃e,es[i]? = some e/\v=e.key) (λi h=>h.IsKeyIter I d i es.size ep/\∃od,h.get? d=some od/\od.data=.dict es ep) where
 sub:=λb hb=>by simp at hb;simp[hb]
 frame:=λ_ _ _ st hk=>⟨st.1.at λo e=>hk I (by simp) o e,let ⟨od,h1,h2⟩:=st.2;⟨od,hk d (by simp) od h1,h2⟩⟩
 item:=λi s Q E hi st hQ=>by
  obtain⟨od,h1,h2⟩:=st.2;refine E6 st.1 h1 h2 hi λh' hit' hs'=>?_;exact hQ _ h' s.toks ⟨es[i],by simp[hi],rfl⟩ ⟨hit',od,hs'.extBut d od hne h1,h2⟩ λb o hb e=>hs'.extBut b o (λh=>hb (by simp[h])) e
 done:=λs Q E st hQ=>by
  obtain⟨od,h1,h2⟩:=st.2;exact E7 hh st.1 h1 h2 (Ag _) λh' he'=>hQ h' s.toks λb o hb e=>he' b o (λh=>hb (by simp[h])) e
 self:=λ_ _ _ _ st hQ=>wpAny_pyIter_keyiter st.1 hQ
def i5(h:Heap)(a:Addr)(es:Array Fn)(ep:Nat):Prop:=∃o,h.get? a=some o/\o.ExactDict/\o.data=.dict es ep
theorem i5.typeIs{d:Addr}{es:Array Fn}{ep:Nat}(h:i5 s.heap d es ep):s.TypeIs (.ref d) "dict":=let ⟨o,ho,hc,_⟩:=h;⟨o,ho,hc.1⟩
theorem i5.at{h h':Heap}{d:Addr}{es:Array Fn}{ep:Nat}(x:i5 h d es ep)(e:∀o,h.get? d=some o->h'.get? d=some o):i5 h' d es ep:=let ⟨o,ho,r⟩:=x;⟨o,e o ho,r⟩
theorem i5.lt{h:Heap}{d:Addr}{es:Array Fn}{ep:Nat}(x:i5 h d es ep):d<h.objs.size:=let ⟨_,ho,_⟩:=x;Bi ho
theorem wJ{d:Addr}{es:Array Fn}{ep:Nat}{Q:Ae->Aj->Prop}(hd:(d==Fg)=false)(hm:i5 s.heap d es ep)(hQ:Q (.ref s.heap.objs.size) {s with heap:=s.heap.push {cls:=.type "dict_keyiterator",data:=.fields #[.ref d,.int 0 0,.int es.size 0,.int ep 0]}}):Bo (Bw prog w) A (pyIter (.ref d)) Q E s:=by
 have hT:=hm.typeIs;obtain⟨o,ho,hc,hdat⟩:=hm;refine wpAny_pyIter_slot hT PySem.F.slot_dict_iter (Fi PySem.F.slot_dict_iter hT PySem.F.entry_dict_iter ?_ (PySem.F.args_dict_iter_1 _));unfold Mz.«dict.__iter__»;refine Ac ?_;unfold Builtin.Dict.dictSlotNone;refine Ac (Kg hT (Ao ?_));show Bo _ _ (Builtin.Dict.showsAll d>>=_) _ _ _;unfold Builtin.Dict.showsAll;rw[if_neg (by rw[hd];exact Av)];refine Ac (Ao (Ac (Ii ho hdat (Ac (wpAny_dictEpoch ho hdat ?_)))));refine Ac (Ew (Ao ⟨_,rfl,"dict_keyiterator",_,⟨_,Be _ rfl,rfl⟩,Es.lookup,?_⟩));simpa [Lu] using hQ
theorem U6{d:Addr}{es:Array Fn}{ep:Nat}(lo:(d==Fg)=false):KdlSrc prog w "dict" d d es.size (λi v=>∃e,es[i]? = some e/\v=e.key) (λh=>i5 h d es ep) where
 type:=λ_ hm=>hm.typeIs
 there:=λ_ hm=>⟨hm.lt,hm.lt⟩
 keep:=λ_ _ hm hk=>hm.at λo e=>hk d (.inl rfl) o e
 notList:=by decide
 notTuple:=by decide
 hint:=λ_ _ _ _ hm hq=>kdl_hint_dict hm.typeIs hq
 iter:=λ_ _ hh hm=>⟨_,_,(λ_ _ hq=>wJ lo hm hq),U5 hh _ d (Bs hm.lt) es ep,⟨⟨_,Be _ rfl,rfl,rfl⟩,let ⟨o,ho,_,hd⟩:=hm;⟨o,Am _ ho,hd⟩⟩⟩
end
end L2
namespace PySem
namespace Zt
open PyProof.Rows L2 PySem.Spec
section
variable {prog:Ca}{w:Ct}{A:Dg}{E:Ae->Aj->Prop}{s:Aj}
theorem U7{O:Type}{Q:O->Aj->Prop}(hh:A.handled=none)(hE:∀h' e,(∀c o,s.heap.get? c=some o->h'.get? c=some o)->(∃o,h'.get? e=some o/\o.cls=.type "StopIteration")->E (.ref e) {s with heap:=h'}):
  Bo (Bw prog w) A (Builtin.SmallTypes.stopIteration:Sem O) Q E s:=by
 unfold Builtin.SmallTypes.stopIteration;refine Ac (m:=newExc (.type "StopIteration") []) ?_;simp only[newExc,newTuple];refine Ac (Ew (Ac (m:=Nj _ _) (wpAny_of_eq (a:=Value.none) (by first|rfl|(simp only[Nj];rfl)) (Ew ?_ (by size_fits)))) (by size_fits));simp only[raiseNew];refine Ac (wpAny_handled ?_);rw[hh];refine Ac (Ao (wpAny_throw (hE _ _ (λc o e=>Am _ (Am _ e)) ⟨_,Be _ rfl,rfl⟩)))
structure U8(prog:Ca)(w:Ct)(i l:Addr)(xs:Array Ae)(St:Nat->Heap->Prop):Prop where
 keep:∀k h h',St k h->(∀c,c=i\/c=l->∀o,h.get? c=some o->h'.get? c=some o)->St k h'
 there:∀k h,St k h->i<h.objs.size
 item:∀(A:Dg) (E:Ae->Aj->Prop) (s:Aj) (k:Nat) (x:Ae) (Q:Ae->Aj->Prop),St k s.heap->xs[k]? = some x->(∀h',St (k+1) h'->Ez i s.heap h'->Q x {s with heap:=h'})->
  Bo (Bw prog w) A (Hg (.ref i)) Q E s
 stop:∀(A:Dg) (E:Ae->Aj->Prop) (s:Aj) (k:Nat) (Q:Ae->Aj->Prop),A.handled=none->St k s.heap->xs[k]? = none->
  (∀h' e,Heap.ExtBut i s.heap h'->(∃o,h'.get? e=some o/\o.cls=.type "StopIteration")->E (.ref e) {s with heap:=h'})->Bo (Bw prog w) A (Hg (.ref i)) Q E s
theorem side_tuple(i l:Addr)(hne:l≠i)(xs:Array Ae):U8 prog w i l xs (λk h=>h.IsTupleIter i l k/\h.IsTuple l xs) where
 keep:=λk h h' x hk=>by
  obtain⟨⟨o,e,r⟩,⟨u,g,q⟩⟩:=x;exact⟨⟨o,hk i (.inl rfl) o e,r⟩,⟨u,hk l (.inr rfl) u g,q⟩⟩
 there:=λk h x=>by obtain⟨_,e,_⟩:=x.1;exact Bi e
 item:=λA E s k x Q st hx hQ=>by
  obtain⟨⟨o,ho,hc,hd⟩,⟨u,hu,hcu,n,hdu⟩⟩:=st;have ty:s.TypeIs (.ref i) "tuple_iterator":=⟨o,ho,hc⟩;unfold Hg;refine Ac (Hj (name:=Eg "__next__") ty Ir (Fi Ir ty F.entry_tuple_iterator_next ?_ (F.args_tuple_iterator_next_1 _)));show Bo _ _ (field (.ref i) 0>>=λq=>_) _ _ _;refine Ac (Km ho hd (x:=.ref l) rfl ?_);show Bo _ _ (if (Value.ref l==Value.none)=true then _ else _) _ _ s;rw[if_neg (show ¬(Value.ref l==Value.none)=true from λz=>nomatch z)];show Bo _ _ (field (.ref i) 1>>=λq=>_) _ _ _;refine Ac (Km ho hd (x:=.int k 0) rfl ?_);show Bo _ _ (seqItems? (.ref l)>>=λq=>_) _ _ _;refine Ac (wpAny_seqItems hu hdu ?_);simp only[Fj,hx];refine Ac (Ni ho hd (by simp) (Ao ⟨x,rfl,Ao (hQ _ ⟨⟨_,Hs _ ho (Obj.isFreed_of_fields (La hd _)),(Obj.cls_mapFields ..).trans hc,?_⟩,⟨u,?_,hcu,n,hdu⟩⟩ (Fd ..))⟩))
  .rw[La hd];simp[Lu]
  .exact(Hi _ _ (Co hne)).trans hu
 stop:=λA E s k Q hh st hx hE=>by
  obtain⟨⟨o,ho,hc,hd⟩,⟨u,hu,hcu,n,hdu⟩⟩:=st;have ty:s.TypeIs (.ref i) "tuple_iterator":=⟨o,ho,hc⟩;unfold Hg;refine Ac (Hj (name:=Eg "__next__") ty Ir (Fi Ir ty F.entry_tuple_iterator_next ?_ (F.args_tuple_iterator_next_1 _)));show Bo _ _ (field (.ref i) 0>>=λq=>_) _ _ _;refine Ac (Km ho hd (x:=.ref l) rfl ?_);show Bo _ _ (if (Value.ref l==Value.none)=true then _ else _) _ _ s;rw[if_neg (show ¬(Value.ref l==Value.none)=true from λz=>nomatch z)];show Bo _ _ (field (.ref i) 1>>=λq=>_) _ _ _;refine Ac (Km ho hd (x:=.int k 0) rfl ?_);show Bo _ _ (seqItems? (.ref l)>>=λq=>_) _ _ _;refine Ac (wpAny_seqItems hu hdu ?_);simp only[Fj,hx];refine Ac (Kj (Ac (Ni ho hd (by simp) (U7 hh λh' e hk he=>hE h' e (λc q hc' g=>hk c q ((Hi _ _ (Co hc')).trans g)) he))))
end
end Zt
end PySem
namespace L2
open PySem Spec PyProof.Rows
section
variable {X:Cx}
theorem E8:∀{vs:List Ae} {ks:List Str},vs.length=ks.length->(∀(j:Nat) v,vs[j]? = some v->∃x t,ks[j]? = some x/\v=.str x t)->StrsAre vs ks
 | [],[],_,_=>.nil
 | [],_::_,e,_=>by simp at e
 | _::_,[],e,_=>by simp at e
 | v::vs,k::ks,e,h=>by
  obtain⟨x,t,h1,rfl⟩:=h 0 v rfl;cases (show k=x by simpa using h1);exact .cons k t (E8 (by simpa using e) λj v hv=>by simpa using h (j+1) v (by simpa using hv))
theorem E9:∀{vs:List Ae} {ss:List Str},StrsAre vs ss->aW (ss.map V.str) vs
 | _,_,.nil=>.nil
 | _,_,.cons y t r=>.cons ⟨t,rfl⟩ (E9 r)
theorem U9(hc:X.calm=true):b7 X (.builtin "sorted") (λxs H Q=>∃(d:Addr) (kvs:List (aC×V)) (ks:List Str),xs=[.ref d]/\H d=some (.dK kvs)/\kvs.map Cu=ks.map Sum.inr/\ks.length<64/\
  ∀ss:List Str,ss.Perm ks->∀p,H p=none->Q (.ref p) (aQ H p (.lst (ss.map V.str)))):=by
 intro pins s Z H xs us Q I r h;obtain⟨d,kvs,ks,rfl,hd,hks,h64,q⟩:=h;obtain⟨u,rfl,ru⟩:=vals1 r;cases ru;obtain⟨hz,hne,vs,rkv,hD⟩:=(show b8 X.prog X.w H s.heap d (.dK kvs) from I.hok d _ hd);obtain⟨ep,hat⟩:=hD.dictAt;have hl:=rkv.length;have hkl:kvs.length=ks.length:=by have:=congrArg Dv hks;simpa using this
 refine Calls.call_function_entry kind_sorted plain_sorted entry_sorted (args_sorted1 _) ?_;unfold Mz.«sorted»;refine Ac (m:=checkCount "sorted" 1 1 _) (Ao (Ac (PySem.W.kdu_collect (A:=X.A.in1) (PySem.W.kdl_dict (knd:=cR X.prog X.w) (kvs:=vs) (ep:=ep) hne) (I.ok.hd hc) hat (by rw[<-hl];exact hz) λh' tk acc hk hacc=>?_)));have hsz:acc.toList.length=ks.length:=by have h1:=hacc.1;have h2:acc.toList.length=acc.size:=Fx;lia
 have hS:StrsAre acc.toList ks:=E8 hsz λj v hv=>by
  obtain⟨k,x,hx,hk'⟩:=hacc.2 j v (by rw[<-Em];exact hv);obtain⟨y,hy⟩:=wH rkv hx;have e1:(kvs.map Cu)[j]? = some k:=by rw[Ax,hy];rfl
  rw[hks,Ax]at e1;obtain⟨z,hz',rfl⟩:=Bb.mp e1;obtain⟨t,e⟩:=(show RelV (kV (Sum.inr z)) v from sE hk');exact⟨z,t,hz',e⟩
 have I1:Inv X pins Z H {s with heap:=h',toks:=tk}:=I.kept (t':=tk) hk;refine Ac (wpAny_newList ?_ (by rw[hsz];lia));have ho:(h'.push (Jg "list" acc.toList.toArray 0)).get? h'.objs.size=some (Jg "list" acc.toList.toArray 0):=Be _ rfl;refine Ac (Du (Fi slot_list_sort ⟨_,ho,rfl⟩ entry_list_sort (list_sort_treeK strKind_oneLt ho hS.keysOf (λv1 v2 rest e=>keyKind_strs (by rw[<-e];exact hS)) (by rw[hsz];exact h64) λst' a1 a2=>⟨_,rfl,?_⟩) (args_list_sort _)));obtain⟨ss,h1,h2,h3⟩:=sorted_out_str hS a1 a2;obtain⟨e,he⟩:=sortedHeap_at (out:=(arrOf st').map (·.2)) ho;have hlen:ss.length=ks.length:=h2.length_eq;refine Ao ⟨_,rfl,.ref h'.objs.size,_,I1.laid (o:=.lst (ss.map V.str)) (t':=tk) (λb o eb=>?_) (Ag _) ⟨by rw[Aa];exact Ah (Gz (by lia:ss.length<64)) (by decide),((arrOf st').map (·.2)).toList,e,E9 h1,by rw[Kd];exact he⟩,rfl,q ss h2 _ I1.fresh⟩;have hlt:b<h'.objs.size:=Bi eb;exact(sortedHeap_old (Bs hlt) (by rw[Er];exact Hw hlt)).trans (Am _ eb)
end
section
variable {X:Cx}
theorem ints_get{ns:List Int}{its:List Ae}(r:aW (ns.map V.int) its){i:Nat}{v:Ae}(h:its[i]? = some v):∃t,v=.int (ns.getD i 0) t:=by
 have hl:=r.length;rw[Aa]at hl;have hi:i<ns.length:=by have:=(Ak.mp h).1;lia
 obtain⟨u,hu,ru⟩:=r.get (i:=i) (x:=.int ns[i]) (by rw[Ax,Bc hi];rfl);rw[h]at hu;cases hu;obtain⟨t,e⟩:=ru;exact⟨t,by rw[e];congr 1;simp[List.getD,Bc hi]⟩
theorem VA(hc:X.calm=true):b7 X (.builtin "sum") (λxs H Q=>∃(p:Addr) (ns:List Int),xs=[.ref p]/\bH X.K H p (ns.map V.int)/\Q (.int ns.sum) H):=by
 intro pins s Z H xs us Q I r h;obtain⟨p,ns,rfl,hq,q⟩:=h;obtain⟨u,rfl,ru⟩:=vals1 r;cases ru;obtain⟨its,rv,pl,hz⟩:=I.list hq;have hlt:p<s.heap.objs.size:=by obtain⟨_,e,_⟩:=pl.isList;exact Bi e
 have hl:=rv.length;rw[Aa]at hl;have hA:X.A.in1.handled=none:=I.ok.hd hc;refine call_sum_walkG (Ih pl.isList ⟨s.heap.objs.size,[s.heap.objs.size,p],[s.heap.objs.size],its.toArray.size,(λi v=>its.toArray[i]? = some v),_,(λi=>ns.getD i 0),rfl,Walks.list (A:=X.A.in1) hA s.heap.objs.size p (Bs hlt) its.toArray,
  ⟨⟨_,Be _ rfl,rfl,rfl⟩,pl.isList.push _⟩,?_,λi v hv=>ints_get rv (by simpa using hv),λh' tk t' hk=>?_⟩)
 .intro b hb;rw[Er];simp only[Bj,Fp,or_false]at hb;rcases hb with rfl|rfl
  .exact Hd _
  .exact Hw hlt
 .rw[preSum_getD,Bg,<-hl,Cb];refine⟨.int ns.sum,H,I.kept (t':=tk) λb o eb=>hk b o (λz=>?_) (Am _ eb),⟨_,rfl⟩,q⟩;exact absurd (Bi eb) (by rw[An.mp z];exact Dz _)
end
end L2
namespace L3
open PySem Spec PyProof.Rows L2
abbrev SV:=L2.St
inductive W where
 | non|bl (b:Bool)|int (i:Int)|str (x:Str)|ty (n:String)|tup (ws:List W)|rl (ws:List W)|sc (ws:List W)|ref (a:Addr)
 | dk (kvs:List (aC×W))|dt (kvs:List (List aC×W))|fk (kvs:List (aC×W))|ft (kvs:List (List aC×W))
inductive MO where
 | lst (ws:List W)|dK (kvs:List (aC×W))|dT (kvs:List (List aC×W))|fix (vs:List V)|ins (C dx:Addr) (fs:List (Str×W))
abbrev Mm:=Addr->Option MO
def zgu(pos:Pos):Option Addr->Array Ae
 | none=>#[]
 | some c=>#[Lu pos.line,Lu pos.col,.ref c]
def put(M:Mm)(a:Addr)(o:MO):Mm:=λb=>if b=a then some o else M b
def del(M:Mm)(a:Addr):Mm:=λb=>if b=a then none else M b
theorem aS{M:Mm}{a:Addr}{o:MO}:put M a o a=some o:=by unfold put;rw[if_pos rfl]
theorem aK{M:Mm}{a b:Addr}{o:MO}(h:b≠a):put M a o b=M b:=by unfold put;rw[if_neg h]
theorem gK{M:Mm}{a:Addr}{o u:MO}:put (put M a o) a u=put M a u:=by
 funext b;unfold put;split<;>rfl
theorem i6{M:Mm}{a:Addr}{o:MO}(h:M a=none):del (put M a o) a=M:=by
 funext b;unfold del put;split
 .rename_i e;rw[e,h]
 .rfl
theorem mW{M:Mm}{a:Addr}:del M a a=none:=by unfold del;rw[if_pos rfl]
theorem iU{M:Mm}{a b:Addr}(h:b≠a):del M a b=M b:=by unfold del;rw[if_neg h]
theorem VB{M:Mm}{a b:Addr}{o u:MO}(h:a≠b):put (put M a o) b u=put (put M b u) a o:=by
 funext c;unfold put
 by_cases h1:c=b
 .by_cases h2:c=a
  .exact absurd (h2.symm.trans h1) h
  .rw[if_pos h1,if_neg h2,if_pos h1]
 .by_cases h2:c=a
  .rw[if_neg h1,if_pos h2,if_pos h2]
  .rw[if_neg h1,if_neg h2,if_neg h2,if_neg h1]
theorem VC{M:Mm}{a:Addr}{o:MO}(h:M a=some o):put M a o=M:=by
 funext b;unfold put;split
 .rename_i e;rw[e,h]
 .rfl
def Sub(M M':Mm):Prop:=∀a o,M a=some o->M' a=some o
theorem Sub.refl(M:Mm):Sub M M:=λ_ _ h=>h
theorem Sub.trans{M M1 M2:Mm}(a:Sub M M1)(b:Sub M1 M2):Sub M M2:=λc o h=>b c o (a c o h)
theorem Sub.new{M:Mm}{a:Addr}{o:MO}(h:M a=none):Sub M (put M a o):=λb u e=>by
 rw[aK (λz=>by rw[z,h]at e;cases e)];exact e
theorem Sub.put{M M':Mm}{a:Addr}{o:MO}(h:Sub M M'):Sub (put M a o) (put M' a o):=λb u e=>by
 unfold L3.put at e⊢;split at e
 .rename_i z;rw[if_pos z];exact e
 .rename_i z;rw[if_neg z];exact h b u e
theorem Sub.del{M:Mm}{a:Addr}:Sub (del M a) M:=λb u e=>by
 unfold L3.del at e;split at e
 .cases e
 .exact e
theorem Sub.non{M M':Mm}(h:Sub M M'){a:Addr}(e:M' a=none):M a=none:=by
 cases q:M a with
 | none=>rfl
 | some o=>rw[h a o q]at e;cases e
def kY(K:Ab)(H:Hp)(a:Addr)(xs:List V):Prop:=
 (∃o,H a=some (.frz o (.lst xs)))\/
  ∃(o:Obj) (its:Array Ae) (n:Nat),K.lookup a=some o/\o.cls=.type "list"/\o.dict=none/\o.data=.seq its n/\its.size<=Ap/\aW xs its.toList
theorem kY.sq{K:Ab}{H:Hp}{a:Addr}{xs:List V}(h:kY K H a xs):bH K H a xs:=by
 rcases h with⟨o,h⟩|h
 .exact .inl (.inr ⟨o,h⟩)
 .exact .inr h
mutual
inductive AV(K:Ab)(H:Hp)(M:Mm):V->W->Prop
 | non:AV K H M .non .non
 | bl (b:Bool):AV K H M (.bl b) (.bl b)
 | int (i:Int):AV K H M (.int i) (.int i)
 | str (x:Str):AV K H M (.str x) (.str x)
 | ty (n:String):AV K H M (.ty n) (.ty n)
 | tup {a:Addr} {xs:List V} {ws:List W}:H a=some (.tup xs)->aL K H M xs ws->AV K H M (.ref a) (.tup ws)
 | sc {a:Addr} {xs:List V} {ws:List W}:kY K H a xs->aL K H M xs ws->AV K H M (.ref a) (.sc ws)
 | rl {a:Addr} {xs:List V} {ws:List W}:H a=some (.lst xs)->M a=none->aL K H M xs ws->AV K H M (.ref a) (.rl ws)
 | ref (a:Addr):AV K H M (.ref a) (.ref a)
 | dk {a:Addr} {ks:List (aC×V)} {kvs:List (aC×W)}:H a=some (.dK ks)->M a=none->ks.map Cu=kvs.map Cu->aL K H M (ks.map Gu) (kvs.map Gu)->AV K H M (.ref a) (.dk kvs)
 | dt {a:Addr} {ks:List (List aC×V)} {kvs:List (List aC×W)}:H a=some (.dT ks)->M a=none->ks.map Cu=kvs.map Cu->aL K H M (ks.map Gu) (kvs.map Gu)->AV K H M (.ref a) (.dt kvs)
 | fk {a:Addr} {o:Obj} {ks:List (aC×V)} {kvs:List (aC×W)}:H a=some (.frz o (.dK ks))->ks.map Cu=kvs.map Cu->aL K H M (ks.map Gu) (kvs.map Gu)->AV K H M (.ref a) (.fk kvs)
 | ft {a:Addr} {o:Obj} {ks:List (List aC×V)} {kvs:List (List aC×W)}:H a=some (.frz o (.dT ks))->ks.map Cu=kvs.map Cu->aL K H M (ks.map Gu) (kvs.map Gu)->AV K H M (.ref a) (.ft kvs)
inductive aL(K:Ab)(H:Hp)(M:Mm):List V->List W->Prop
 | nil:aL K H M [] []
 | cons {v:V} {vs:List V} {w:W} {ws:List W}:AV K H M v w->aL K H M vs ws->aL K H M (v::vs) (w::ws)
end
abbrev bJ(K:Ab)(H:Hp)(M:Mm)(U:Type):List (U×V)->List (U×W)->Prop:=Iv λp q=>p.1=q.1/\AV K H M p.2 q.2
theorem mX{K:Ab}{H:Hp}{M:Mm}{U:Type}:∀{ks:List (U×V)} {kvs:List (U×W)},ks.map Cu=kvs.map Cu->aL K H M (ks.map Gu) (kvs.map Gu)->bJ K H M U ks kvs
 | [],[],_,_=>.nil
 | [],_::_,e,_=>by simp at e
 | _::_,[],e,_=>by simp at e
 | p::ps,q::qs,e,h=>by
  rw[Ay,Ay]at e h;rw[Dn]at e;cases h with
  | cons x r=>exact .cons ⟨e.1,x⟩ (mX e.2 r)
theorem bJ.keys{K:Ab}{H:Hp}{M:Mm}{U:Type}{ks:List (U×V)}{kvs:List (U×W)}(h:bJ K H M U ks kvs):ks.map Cu=kvs.map Cu:=by
 induction h with
 | nil=>rfl
 | cons r _ ih=>rw[Ay,Ay,ih,r.1]
theorem bJ.vals{K:Ab}{H:Hp}{M:Mm}{U:Type}{ks:List (U×V)}{kvs:List (U×W)}(h:bJ K H M U ks kvs):aL K H M (ks.map Gu) (kvs.map Gu):=by
 induction h with
 | nil=>exact .nil
 | cons r _ ih=>exact .cons r.2 ih
def AO(K:Ab)(H:Hp)(M:Mm)(a:Addr):MO->Prop
 | .lst ws=>∃vs,H a=some (.lst vs)/\aL K H M vs ws
 | .dK kvs=>∃ks,H a=some (.dK ks)/\bJ K H M aC ks kvs
 | .dT kvs=>∃ks,H a=some (.dT ks)/\bJ K H M (List aC) ks kvs
 | .fix vs=>H a=some (.lst vs)
 | .ins C dx fs=>∃gs,H a=some (.ins C dx gs)/\bJ K H M Str gs fs
def AM(K:Ab)(H:Hp)(M:Mm):Prop:=∀a o,M a=some o->AO K H M a o
structure Kp(H:Hp)(M:Mm)(H':Hp)(M':Mm):Prop where
 fr:∀a o,M a=none->H a=some o->H' a=some o/\M' a=none
 dom:∀a o,M a=some o->∃u,H' a=some u
structure Go(H:Hp)(M:Mm)(H':Hp)(M':Mm):Prop where
 ht:∀b xs,H b=some (.tup xs)->H' b=some (.tup xs)
 hf:∀b o u,H b=some (.frz o u)->H' b=some (.frz o u)
 hl:∀b o,M b=none->H b=some o->H' b=some o/\M' b=none
section
variable {K:Ab}{H H' H1 H2:Hp}{M M' M1 M2:Mm}{a:Addr}
theorem AO.has{o:MO}(h:AO K H M a o):∃u,H a=some u:=by
 cases o with
 | lst ws=>obtain⟨vs,e,_⟩:=h;exact⟨_,e⟩
 | dK kvs=>obtain⟨ks,e,_⟩:=h;exact⟨_,e⟩
 | dT kvs=>obtain⟨ks,e,_⟩:=h;exact⟨_,e⟩
 | fix vs=>exact⟨_,h⟩
 | ins C dx fs=>obtain⟨gs,e,_⟩:=h;exact⟨_,e⟩
theorem AM.nonM(am:AM K H M)(h:H a=none):M a=none:=by
 cases q:M a with
 | none=>rfl
 | some o=>obtain⟨u,e⟩:=(am a o q).has;rw[h]at e;cases e
theorem AM.noTup(am:AM K H M){xs:List V}(h:H a=some (.tup xs)):M a=none:=by
 cases q:M a with
 | none=>rfl
 | some o=>
  have:=am a o q;cases o with
  | lst ws=>obtain⟨vs,e,_⟩:=this;rw[h]at e;cases e
  | dK kvs=>obtain⟨ks,e,_⟩:=this;rw[h]at e;cases e
  | dT kvs=>obtain⟨ks,e,_⟩:=this;rw[h]at e;cases e
  | fix vs=>have e:H a=some (.lst vs):=this;rw[h]at e;cases e
  | ins C dx fs=>obtain⟨gs,e,_⟩:=this;rw[h]at e;cases e
theorem AM.noFrz(am:AM K H M){ob:Obj}{u:HO}(h:H a=some (.frz ob u)):M a=none:=by
 cases q:M a with
 | none=>rfl
 | some o=>
  have:=am a o q;cases o with
  | lst ws=>obtain⟨vs,e,_⟩:=this;rw[h]at e;cases e
  | dK kvs=>obtain⟨ks,e,_⟩:=this;rw[h]at e;cases e
  | dT kvs=>obtain⟨ks,e,_⟩:=this;rw[h]at e;cases e
  | fix vs=>have e:H a=some (.lst vs):=this;rw[h]at e;cases e
  | ins C dx fs=>obtain⟨gs,e,_⟩:=this;rw[h]at e;cases e
theorem Kp.refl(am:AM K H M):Kp H M H M:=⟨λa o h e=>⟨e,h⟩,λa o h=>(am a o h).has⟩
theorem Kp.trans(x:Kp H M H1 M1)(y:Kp H1 M1 H2 M2):Kp H M H2 M2 where
 fr:=λa o h e=>by
  obtain⟨e1,n1⟩:=x.fr a o h e;exact y.fr a o n1 e1
 dom:=λa o h=>by
  obtain⟨u,e⟩:=x.dom a o h;cases q:M1 a with
  | none=>exact⟨u,(y.fr a u q e).1⟩
  | some o1=>exact y.dom a o1 q
theorem Kp.sub(x:Kp H M H1 M1)(h:Sub M2 M1):Kp H M H1 M2 where
 fr:=λa o n e=>⟨(x.fr a o n e).1,h.non (x.fr a o n e).2⟩
 dom:=x.dom
theorem Kp.go(am:AM K H M)(k:Kp H M H' M'):Go H M H' M':=⟨λb xs e=>(k.fr b _ (am.noTup e) e).1,λb o u e=>(k.fr b _ (am.noFrz e) e).1,k.fr⟩
theorem Go.sub(h:Sub M' M):Go H M H M':=⟨λ_ _ e=>e,λ_ _ _ e=>e,λb o n e=>⟨e,h.non n⟩⟩
theorem AV.go(g:Go H M H' M'){v:V}{w:W}(h:AV K H M v w):AV K H' M' v w:=AV.rec (motive_1:=λv w _=>AV K H' M' v w) (motive_2:=λvs ws _=>aL K H' M' vs ws) .non .bl .int .str .ty (λe _ q=>.tup (g.ht _ _ e) q) (λe _ q=>.sc (e.elim (λz=>.inl (z.elim λo q=>⟨o,g.hf _ _ _ q⟩)) .inr) q) (λe n _ q=>.rl (g.hl _ _ n e).1 (g.hl _ _ n e).2 q) .ref
  (λe n ke _ q=>.dk (g.hl _ _ n e).1 (g.hl _ _ n e).2 ke q) (λe n ke _ q=>.dt (g.hl _ _ n e).1 (g.hl _ _ n e).2 ke q) (λe ke _ q=>.fk (g.hf _ _ _ e) ke q) (λe ke _ q=>.ft (g.hf _ _ _ e) ke q) .nil (λ_ _ x r=>.cons x r) h
theorem aL.go(g:Go H M H' M'){vs:List V}{ws:List W}(h:aL K H M vs ws):aL K H' M' vs ws:=aL.rec (motive_1:=λv w _=>AV K H' M' v w) (motive_2:=λvs ws _=>aL K H' M' vs ws) .non .bl .int .str .ty (λe _ q=>.tup (g.ht _ _ e) q) (λe _ q=>.sc (e.elim (λz=>.inl (z.elim λo q=>⟨o,g.hf _ _ _ q⟩)) .inr) q) (λe n _ q=>.rl (g.hl _ _ n e).1 (g.hl _ _ n e).2 q) .ref
  (λe n ke _ q=>.dk (g.hl _ _ n e).1 (g.hl _ _ n e).2 ke q) (λe n ke _ q=>.dt (g.hl _ _ n e).1 (g.hl _ _ n e).2 ke q) (λe ke _ q=>.fk (g.hf _ _ _ e) ke q) (λe ke _ q=>.ft (g.hf _ _ _ e) ke q) .nil (λ_ _ x r=>.cons x r) h
theorem bJ.go{U:Type}{ks:List (U×V)}{kvs:List (U×W)}(g:Go H M H' M')(h:bJ K H M U ks kvs):bJ K H' M' U ks kvs:=Paired.mapP h λp q z=>⟨z.1,z.2.go g⟩
theorem AO.go{o:MO}(g:Go H M H' M')(e:H' a=H a)(h:AO K H M a o):AO K H' M' a o:=by
 cases o with
 | lst ws=>obtain⟨vs,e1,r⟩:=h;exact⟨vs,by rw[e];exact e1,r.go g⟩
 | dK kvs=>obtain⟨vs,e1,r⟩:=h;exact⟨vs,by rw[e];exact e1,r.go g⟩
 | dT kvs=>obtain⟨vs,e1,r⟩:=h;exact⟨vs,by rw[e];exact e1,r.go g⟩
 | fix vs=>exact e.trans h
 | ins C dx fs=>obtain⟨gs,e1,r⟩:=h;exact⟨gs,by rw[e];exact e1,r.go g⟩
theorem AM.sub(am:AM K H M')(h:Sub M M'):AM K H M:=λa o e=>(am a o (h a o e)).go (Go.sub h) rfl
theorem AV.sub(h:Sub M' M){v:V}{w:W}(x:AV K H M v w):AV K H M' v w:=x.go (Go.sub h)
theorem aL.sub(h:Sub M' M){v:List V}{w:List W}(x:aL K H M v w):aL K H M' v w:=x.go (Go.sub h)
theorem AV.kp(am:AM K H M)(k:Kp H M H' M'){v:V}{w:W}(h:AV K H M v w):AV K H' M' v w:=h.go (k.go am)
theorem aL.kp(am:AM K H M)(k:Kp H M H' M'){vs:List V}{ws:List W}(h:aL K H M vs ws):aL K H' M' vs ws:=h.go (k.go am)
theorem aL.length:∀{vs:List V} {ws:List W},aL K H M vs ws->vs.length=ws.length
 | _,_,.nil=>rfl
 | _,_,.cons _ r=>by simp[aL.length r]
theorem aL.append:∀{vs us:List V} {ws zs:List W},aL K H M vs ws->aL K H M us zs->aL K H M (vs++us) (ws++zs)
 | _,_,_,_,.nil,s=>s
 | _,_,_,_,.cons x r,s=>.cons x (aL.append r s)
theorem aL.getW:∀{vs:List V} {ws:List W} {i:Nat} {w:W},aL K H M vs ws->ws[i]? = some w->∃v,vs[i]? = some v/\AV K H M v w
 | _,_,_,_,.nil,e=>by simp at e
 | _,_,0,_,.cons x _,e=>by simp at e;subst e;exact⟨_,rfl,x⟩
 | _,_,i+1,w,.cons _ r,e=>by
  obtain⟨v,h1,h2⟩:=aL.getW (i:=i) (w:=w) r (by simpa using e);exact⟨v,by simpa using h1,h2⟩
theorem aL.getV:∀{vs:List V} {ws:List W} {i:Nat} {v:V},aL K H M vs ws->vs[i]? = some v->∃w,ws[i]? = some w/\AV K H M v w
 | _,_,_,_,.nil,e=>by simp at e
 | _,_,0,_,.cons x _,e=>by simp at e;subst e;exact⟨_,rfl,x⟩
 | _,_,i+1,v,.cons _ r,e=>by
  obtain⟨w,h1,h2⟩:=aL.getV (i:=i) (v:=v) r (by simpa using e);exact⟨w,by simpa using h1,h2⟩
theorem aL.set{v:V}{w:W}(x:AV K H M v w):∀{vs:List V} {ws:List W} (i:Nat),aL K H M vs ws->aL K H M (vs.set i v) (ws.set i w)
 | _,_,_,.nil=>.nil
 | _,_,0,.cons _ t=>.cons x t
 | _,_,i+1,.cons q t=>.cons q (aL.set x i t)
theorem aL.take:∀{vs:List V} {ws:List W} (n:Nat),aL K H M vs ws->aL K H M (vs.take n) (ws.take n)
 | _,_,0,_=>by simp;exact .nil
 | _,_,_+1,.nil=>.nil
 | _,_,n+1,.cons x t=>.cons x (aL.take n t)
theorem aL.drop:∀{vs:List V} {ws:List W} (n:Nat),aL K H M vs ws->aL K H M (vs.drop n) (ws.drop n)
 | _,_,0,h=>h
 | _,_,_+1,.nil=>.nil
 | _,_,n+1,.cons _ t=>aL.drop n t
theorem aL.dropLast{vs:List V}{ws:List W}(h:aL K H M vs ws):aL K H M vs.dropLast ws.dropLast:=by
 rw[List.dropLast_eq_take,List.dropLast_eq_take,h.length];exact h.take _
theorem aL.flatRep{vs:List V}{ws:List W}(h:aL K H M vs ws):∀n:Nat,aL K H M (Cg n vs).flatten (Cg n ws).flatten
 | 0=>.nil
 | n+1=>by
  rw[Fy,Fy,Gx,Gx];exact h.append (aL.flatRep h n)
theorem aL.int(is:List Int):aL K H M (is.map V.int) (is.map W.int):=by
 induction is with
 | nil=>exact .nil
 | cons i r ih=>exact .cons (.int i) ih
theorem FA{p:Addr}{u:HO}(hp:H p=none)(hs:∀b,b≠p->M b=none->M' b=none):Go H M (aQ H p u) M':=
 ⟨λb xs e=>by rw[bI (e7 e hp)];exact e,λb o x e=>by rw[bI (e7 e hp)];exact e,λb o n e=>⟨by rw[bI (e7 e hp)];exact e,hs b (e7 e hp) n⟩⟩
theorem FC{p:Addr}{o:MO}{u:HO}(hp:H p=none):Go H M (aQ H p u) (put M p o):=FA hp λb ne n=>by rw[aK ne];exact n
theorem go_same{p:Addr}{u:HO}(hp:H p=none):Go H M (aQ H p u) M:=FA hp λb ne n=>n
theorem AM.laid{p:Addr}{o:MO}{u:HO}(am:AM K H M)(hp:H p=none)(h:AO K (aQ H p u) (put M p o) p o):AM K (aQ H p u) (put M p o)/\Kp H M (aQ H p u) (put M p o):=by
 refine⟨λa x e=>?_,λa x h e=>⟨?_,?_⟩,λa x h=>?_⟩
 .by_cases ha:a=p
  .subst ha;rw[aS]at e;cases e;exact h
  .rw[aK ha]at e;exact(am a x e).go (FC hp) (bI ha)
 .rw[bI (e7 e hp)];exact e
 .rw[aK (e7 e hp)];exact h
 .obtain⟨y,e⟩:=(am a x h).has;exact⟨y,by rw[bI (e7 e hp)];exact e⟩
theorem FE{p:Addr}{o u:MO}:Go H (put M p o) H (put M p u):=⟨λ_ _ e=>e,λ_ _ _ e=>e,λb x n e=>⟨e,by
 have ne:b≠p:=λz=>by rw[z,aS]at n;cases n
 rw[aK ne]at n⊢;exact n⟩⟩
theorem AM.tup{p:Addr}{u:HO}(am:AM K H M)(hp:H p=none):AM K (aQ H p u) M/\Kp H M (aQ H p u) M:=by
 refine⟨λa x e=>?_,λa x h e=>⟨?_,h⟩,λa x h=>?_⟩
 .have ne:a≠p:=λz=>by rw[z,am.nonM hp]at e;cases e
  exact(am a x e).go (go_same hp) (bI ne)
 .rw[bI (e7 e hp)];exact e
 .obtain⟨y,e⟩:=(am a x h).has;exact⟨y,by rw[bI (e7 e hp)];exact e⟩
theorem mY{l:Addr}{o0 o:MO}{u:HO}(am:AM K H M)(hl:M l=some o0):Go H M (aQ H l u) (put M l o):=
 ⟨λb xs e=>by rw[bI (λz=>by rw[<-z,am.noTup e]at hl;cases hl)];exact e,λb ob x e=>by rw[bI (λz=>by rw[<-z,am.noFrz e]at hl;cases hl)];exact e,
   λb x n e=>by
  have ne:b≠l:=λz=>by rw[<-z,n]at hl;cases hl
  rw[bI ne,aK ne];exact⟨e,n⟩⟩
theorem AM.write{l:Addr}{o0 o:MO}{u:HO}(am:AM K H M)(hl:M l=some o0)(h:AO K (aQ H l u) (put M l o) l o):AM K (aQ H l u) (put M l o)/\Kp H M (aQ H l u) (put M l o):=by
 refine⟨λa x e=>?_,λa x h e=>?_,λa x h=>?_⟩
 .by_cases ha:a=l
  .subst ha;rw[aS]at e;cases e;exact h
  .rw[aK ha]at e;exact(am a x e).go (mY am hl) (bI ha)
 .have:a≠l:=λz=>by rw[z,hl]at h;cases h
  rw[bI this,aK this];exact⟨e,h⟩
 .by_cases ha:a=l
  .subst ha;exact⟨u,cU⟩
  .obtain⟨y,e⟩:=(am a x h).has;exact⟨y,by rw[bI ha];exact e⟩
theorem AM.lst(am:AM K H M){ws:List W}(h:M a=some (.lst ws)):∃vs,H a=some (.lst vs)/\aL K H M vs ws:=am a _ h
theorem aL.newT{p:Addr}{u:HO}{vs:List V}{ws:List W}(hp:H p=none)(h:aL K H M vs ws):aL K (aQ H p u) M vs ws:=h.go (go_same hp)
theorem aL.newL{p:Addr}{u:HO}{o:MO}{vs:List V}{ws:List W}(hp:H p=none)(h:aL K H M vs ws):aL K (aQ H p u) (put M p o) vs ws:=h.go (FC hp)
theorem aL.wr{l:Addr}{o0 o:MO}{u:HO}{vs:List V}{ws:List W}(am:AM K H M)(hl:M l=some o0)(h:aL K H M vs ws):aL K (aQ H l u) (put M l o) vs ws:=h.go (mY am hl)
theorem AV.wr{l:Addr}{o0 o:MO}{u:HO}{v:V}{w:W}(am:AM K H M)(hl:M l=some o0)(h:AV K H M v w):AV K (aQ H l u) (put M l o) v w:=h.go (mY am hl)
end
abbrev S3:=List (Option W)
abbrev K3:=W->Mm->Prop
abbrev aY:=S3->Mm->K3->Prop
abbrev dD:=S3->Mm->(Bool->Mm->Prop)->Prop
abbrev dP:=S3->Mm->(List W->Mm->Prop)->Prop
abbrev R3:=W->W->Mm->K3->Prop
structure D3 where
 nx:S3->Mm->Prop
 rt:K3
 bk:S3->Mm->Prop:=λ_ _=>False
 ct:S3->Mm->Prop:=λ_ _=>False
abbrev aH:=D3->S3->Mm->Prop
def AS(K:Ab)(H:Hp)(M:Mm):SV->S3->Prop:=Iv λov ow=>∀w,ow=some w->∃v,ov=some v/\AV K H M v w
section
variable {K:Ab}{H H':Hp}{M M':Mm}
theorem AS.kp(am:AM K H M)(k:Kp H M H' M'){Z:SV}{τ:S3}(h:AS K H M Z τ):AS K H' M' Z τ:=
 Paired.mapP h λov ow z w e=>by obtain⟨v,e1,r⟩:=z w e;exact⟨v,e1,r.kp am k⟩
theorem AS.sub{M':Mm}(g:Sub M' M){Z:SV}{τ:S3}(h:AS K H M Z τ):AS K H M' Z τ:=
 Paired.mapP h λov ow z w e=>by obtain⟨v,e1,r⟩:=z w e;exact⟨v,e1,r.sub g⟩
theorem AS.get{w:W}:∀{Z:SV} {τ:S3} {i:Nat},AS K H M Z τ->τ[i]? = some (some w)->∃v,Z[i]? = some (some v)/\AV K H M v w
 | _,_,_,.nil,e=>by simp at e
 | _,_,0,.cons r _,e=>by
  simp at e;obtain⟨v,h1,h2⟩:=r w e;exact⟨v,by rw[h1];rfl,h2⟩
 | _,_,i+1,.cons _ t,e=>by
  obtain⟨v,h1,h2⟩:=AS.get (i:=i) t (by simpa using e);exact⟨v,by simpa using h1,h2⟩
theorem AS.set{v:V}{w:W}(r:AV K H M v w):∀{Z:SV} {τ:S3} (i:Nat),AS K H M Z τ->AS K H M (Z.set i (some v)) (τ.set i (some w))
 | _,_,_,.nil=>.nil
 | _,_,0,.cons _ t=>.cons (λx e=>⟨v,rfl,by cases e;exact r⟩) t
 | _,_,i+1,.cons q t=>.cons q (AS.set r i t)
theorem AS.nones:∀n:Nat,AS K H M (Cg n none) (Cg n none)
 | 0=>.nil
 | n+1=>.cons (λ_ e=>nomatch e) (AS.nones n)
theorem AS.start{vs:List V}{ws:List W}(h:aL K H M vs ws)(n:Nat):AS K H M (vs.map some++Cg n none) (ws.map some++Cg n none):=by
 induction vs generalizing ws with
 | nil=>cases h;exact AS.nones n
 | cons v vs ih=>
  cases h with
  | cons x r=>exact .cons (λw e=>⟨v,rfl,by cases e;exact x⟩) (ih r)
end
def Up(K:Ab)(H:Hp)(M:Mm)(R:K3)(Q:VK):Prop:=∀v H' w M',Kp H M H' M'->AM K H' M'->AV K H' M' v w->R w M'->Q v H'
def up(K:Ab)(t:aY):TE:=λZ H Q=>∃τ M R,AS K H M Z τ/\AM K H M/\t τ M R/\Up K H M R Q
def kF(K:Ab)(t:dD):TT:=λZ H Q=>∃(τ:S3) (M:Mm) (R:Bool->Mm->Prop),AS K H M Z τ/\AM K H M/\t τ M R/\∀b H' M',Kp H M H' M'->AM K H' M'->R b M'->Q b H'
def n6(K:Ab)(t:dP):TA:=λZ H Q=>∃(τ:S3) (M:Mm) (R:List W->Mm->Prop),AS K H M Z τ/\AM K H M/\t τ M R/\∀vs H' ws M',Kp H M H' M'->AM K H' M'->aL K H' M' vs ws->R ws M'->Q vs H'
def iH(K:Ab)(H:Hp)(M:Mm)(R:S3->Mm->Prop)(Q:SV->Hp->Prop):Prop:=∀σ' H' τ' M',Kp H M H' M'->AM K H' M'->AS K H' M' σ' τ'->R τ' M'->Q σ' H'
structure pT(K:Ab)(H:Hp)(M:Mm)(D:D3)(E:kU):Prop where
 nx:iH K H M D.nx E.nx
 rt:Up K H M D.rt E.rt
 bk:iH K H M D.bk E.bk
 ct:iH K H M D.ct E.ct
def pU(K:Ab)(t:aH):TS:=λE Z H=>∃τ M D,AS K H M Z τ/\AM K H M/\t D τ M/\pT K H M D E
section
variable {K:Ab}{H H1:Hp}{M M1:Mm}
theorem Up.kp{R:K3}{Q:VK}(h:Up K H M R Q)(k:Kp H M H1 M1):Up K H1 M1 R Q:=λv H' w M' k' am av r=>h v H' w M' (k.trans k') am av r
theorem iH.kp{R:S3->Mm->Prop}{Q:SV->Hp->Prop}(h:iH K H M R Q)(k:Kp H M H1 M1):iH K H1 M1 R Q:=λv H' w M' k' am av r=>h v H' w M' (k.trans k') am av r
theorem pT.kp{D:D3}{E:kU}(h:pT K H M D E)(k:Kp H M H1 M1):pT K H1 M1 D E:=⟨h.nx.kp k,h.rt.kp k,h.bk.kp k,h.ct.kp k⟩
theorem Up.at{R:K3}{Q:VK}(h:Up K H M R Q)(am:AM K H M){v:V}{w:W}(av:AV K H M v w)(r:R w M):Q v H:=h v H w M (Kp.refl am) am av r
end
def frz:W->Mm->K3->Prop
 | .ref p,M,R=>(∃ws,M p=some (.lst ws)/\R (.rl ws) (del M p))\/(∃kvs,M p=some (.dK kvs)/\R (.dk kvs) (del M p))\/(∃kvs,M p=some (.dT kvs)/\R (.dt kvs) (del M p))\/R (.ref p) M
 | w,M,R=>R w M
theorem Up.frz{K:Ab}{H:Hp}{M:Mm}{R:K3}{Q:VK}(h:Up K H M R Q):Up K H M (λw M'=>frz w M' R) Q:=λv H' w M' k am av r=>by
 have av':=av;cases av<;>first|exact h _ _ _ _ k am av' r|skip
 case ref p=>
  rcases r with⟨ws,e,r⟩|⟨kvs,e,r⟩|⟨kvs,e,r⟩|r
  .obtain⟨vs,f,q⟩:=am.lst e;exact h _ _ _ _ (k.sub Sub.del) (am.sub Sub.del) (.rl f mW (q.sub Sub.del)) r
  .obtain⟨ks,f,q⟩:=am _ _ e;exact h _ _ _ _ (k.sub Sub.del) (am.sub Sub.del) (.dk f mW q.keys (q.vals.sub Sub.del)) r
  .obtain⟨ks,f,q⟩:=am _ _ e;exact h _ _ _ _ (k.sub Sub.del) (am.sub Sub.del) (.dt f mW q.keys (q.vals.sub Sub.del)) r
  .exact h _ _ _ _ k am (.ref p) r
theorem VD{M:Mm}{p:Addr}{ws:List W}{R:K3}(hp:M p=none)(r:R (.rl ws) M):frz (.ref p) (put M p (.lst ws)) R:=.inl ⟨ws,aS,by rw[i6 hp];exact r⟩
theorem VE{M:Mm}{p:Addr}{kvs:List (aC×W)}{R:K3}(hp:M p=none)(r:R (.dk kvs) M):frz (.ref p) (put M p (.dK kvs)) R:=.inr (.inl ⟨kvs,aS,by rw[i6 hp];exact r⟩)
theorem VF{M:Mm}{p:Addr}{kvs:List (List aC×W)}{R:K3}(hp:M p=none)(r:R (.dt kvs) M):frz (.ref p) (put M p (.dT kvs)) R:=.inr (.inr (.inl ⟨kvs,aS,by rw[i6 hp];exact r⟩))
def aZ(ws:List W)(M:Mm)(R:K3):Prop:=∀p,M p=none->R (.ref p) (put M p (.lst ws))
def pV(kvs:List (aC×W))(M:Mm)(R:K3):Prop:=∀p,M p=none->R (.ref p) (put M p (.dK kvs))
def jN(kvs:List (List aC×W))(M:Mm)(R:K3):Prop:=∀p,M p=none->R (.ref p) (put M p (.dT kvs))
theorem aZ.frz{M:Mm}{ws:List W}{R:K3}(r:R (.rl ws) M):aZ ws M λw M'=>L3.frz w M' R:=λp hp=>VD hp r
theorem jN.frz{M:Mm}{kvs:List (List aC×W)}{R:K3}(r:R (.dt kvs) M):jN kvs M λw M'=>L3.frz w M' R:=λp hp=>VF hp r
def cP(t:aY):aY:=λτ M R=>t τ M λw M'=>frz w M' R
def VG(K:Ab)(H:Hp)(M:Mm)(v:V):W->Prop
 | .non=>v=.non
 | .bl b=>v=.bl b
 | .int i=>v=.int i
 | .str x=>v=.str x
 | .ty n=>v=.ty n
 | .tup ws=>∃a xs,v=.ref a/\H a=some (.tup xs)/\aL K H M xs ws
 | .sc ws=>∃a xs,v=.ref a/\kY K H a xs/\aL K H M xs ws
 | .rl ws=>∃a xs,v=.ref a/\H a=some (.lst xs)/\M a=none/\aL K H M xs ws
 | .ref a=>v=.ref a
 | .dk kvs=>∃a ks,v=.ref a/\H a=some (.dK ks)/\M a=none/\bJ K H M aC ks kvs
 | .dt kvs=>∃a ks,v=.ref a/\H a=some (.dT ks)/\M a=none/\bJ K H M (List aC) ks kvs
 | .fk kvs=>∃a ks,v=.ref a/\(∃o,H a=some (.frz o (.dK ks)))/\bJ K H M aC ks kvs
 | .ft kvs=>∃a ks,v=.ref a/\(∃o,H a=some (.frz o (.dT ks)))/\bJ K H M (List aC) ks kvs
section
variable {K:Ab}{H:Hp}{M:Mm}{v:V}{vs:List V}{w:W}{ws:List W}{C:Prop}
theorem AV.inv(h:AV K H M v w):VG K H M v w:=by
 cases h
 case non|bl|int|str|ty|ref=>rfl
 case tup|sc=>rename_i e q;exact⟨_,_,rfl,e,q⟩
 case rl=>rename_i e n q;exact⟨_,_,rfl,e,n,q⟩
 case dk|dt=>rename_i e n z q;exact⟨_,_,rfl,e,n,mX z q⟩
 case fk|ft=>rename_i e z q;exact⟨_,_,rfl,⟨_,e⟩,mX z q⟩
theorem AV.tupE(h:AV K H M v (.tup ws))(c:∀a xs,v=.ref a->H a=some (.tup xs)->aL K H M xs ws->C):C:=
 let ⟨a,xs,e,f,q⟩:=h.inv;c a xs e f q
theorem AV.scE(h:AV K H M v (.sc ws))(c:∀a xs,v=.ref a->kY K H a xs->aL K H M xs ws->C):C:=
 let ⟨a,xs,e,f,q⟩:=h.inv;c a xs e f q
theorem AV.rlE(h:AV K H M v (.rl ws))(c:∀a xs,v=.ref a->H a=some (.lst xs)->aL K H M xs ws->C):C:=
 let ⟨a,xs,e,f,_,q⟩:=h.inv;c a xs e f q
theorem aL.nil_(h:aL K H M vs []):vs=[]:=by cases h;rfl
theorem aL.one(h:aL K H M vs [w]):∃v,vs=[v]/\AV K H M v w:=by
 cases h with
 | cons x r=>rw[r.nil_];exact⟨_,rfl,x⟩
theorem aL.oneE(h:aL K H M vs [w])(c:∀v,vs=[v]->AV K H M v w->C):C:=h.one.elim λv h=>c v h.1 h.2
theorem aL.two{z:W}(h:aL K H M vs [w,z]):∃v u,vs=[v,u]/\AV K H M v w/\AV K H M u z:=by
 cases h with
 | cons x r=>obtain⟨u,rfl,y⟩:=r.one;exact⟨_,_,rfl,x,y⟩
theorem AM.lstE{a:Addr}(am:AM K H M)(e:M a=some (.lst ws))(c:∀xs,H a=some (.lst xs)->aL K H M xs ws->C):C:=(am.lst e).elim λv h=>c v h.1 h.2
theorem iI{x y:V}(e:vs=[x])(f:x=y):vs=[y]:=by rw[e,f]
end
theorem up.el{K:Ab}{H:Hp}{Z:SV}{C:Prop}{t:aY}{Q:VK}(h:up K t Z H Q)(c:∀τ M R,AS K H M Z τ->AM K H M->t τ M R->Up K H M R Q->C):C:=by obtain⟨τ,M,R,a,b,h,k⟩:=h;exact c τ M R a b h k
theorem kF.el{K:Ab}{H:Hp}{Z:SV}{C:Prop}{t:dD}{Q:Bool->Hp->Prop}(h:kF K t Z H Q)(c:∀τ M R,AS K H M Z τ->AM K H M->t τ M R->(∀b H' M',Kp H M H' M'->AM K H' M'->R b M'->Q b H')->C):C:=by obtain⟨τ,M,R,a,b,h,k⟩:=h;exact c τ M R a b h k
theorem n6.el{K:Ab}{H:Hp}{Z:SV}{C:Prop}{t:dP}{Q:List V->Hp->Prop}(h:n6 K t Z H Q)(c:∀τ M R,AS K H M Z τ->AM K H M->t τ M R->(∀vs H' ws M',Kp H M H' M'->AM K H' M'->aL K H' M' vs ws->R ws M'->Q vs H')->C):C:=by obtain⟨τ,M,R,a,b,h,k⟩:=h;exact c τ M R a b h k
theorem pU.el{K:Ab}{H:Hp}{Z:SV}{C:Prop}{t:aH}{E:kU}(h:pU K t E Z H)(c:∀τ M D,AS K H M Z τ->AM K H M->t D τ M->pT K H M D E->C):C:=by obtain⟨τ,M,D,a,b,h,k⟩:=h;exact c τ M D a b h k
end L3
namespace L2
section
variable {X:Cx}
theorem PE.weak{e:Mc}{t t':TE}(h:PE X e t)(k:∀Z H Q,t' Z H Q->t Z H Q):PE X e t':=λpins s Z H Q I q=>h pins s Z H Q I (k Z H Q q)
theorem PT.weak{e:Mc}{t t':TT}(h:PT X e t)(k:∀Z H Q,t' Z H Q->t Z H Q):PT X e t':=λpins s Z H Q I q=>h pins s Z H Q I (k Z H Q q)
theorem PW.weak{e:Mc}{t t':TT}(h:PW X e t)(k:∀Z H Q,t' Z H Q->t Z H Q):PW X e t':=λwh pins s Z H Q I q=>h wh pins s Z H Q I (k Z H Q q)
theorem PA.weak{es:List Mc}{t t':TA}(h:PA X es t)(k:∀Z H Q,t' Z H Q->t Z H Q):PA X es t':=λpos pins s Z H Q I q=>h pos pins s Z H Q I (k Z H Q q)
theorem PS.weak{st:PySem.Stmt}{t t':TS}(h:PS X st t)(k:∀D Z H,t' D Z H->t D Z H):PS X st t':=λpins s Z H D I q=>h pins s Z H D I (k D Z H q)
theorem gB.weak{st:List PySem.Stmt}{t t':TS}(h:gB X st t)(k:∀D Z H,t' D Z H->t D Z H):gB X st t':=λpins s Z H D I q=>h pins s Z H D I (k D Z H q)
theorem PO.weak{e:Option Mc}{t t':TO}(h:PO X e t)(k:∀Z H Q,t' Z H Q->t Z H Q):PO X e t':=λpins s Z H Q I q=>h pins s Z H Q I (k Z H Q q)
theorem iT.weak{es:List Mc}{t t':TT}(h:iT X es t)(k:∀Z H Q,t' Z H Q->t Z H Q):iT X es t':=λpins s Z H Q I q=>h pins s Z H Q I (k Z H Q q)
end
end L2
namespace L3
open PySem Spec PyProof.Rows L2
abbrev E3(X:Cx)(e:Expr)(t:aY):Prop:=PE X e (up X.K t)
abbrev T3(X:Cx)(e:Expr)(t:dD):Prop:=PT X e (kF X.K t)
abbrev W3(X:Cx)(e:Expr)(t:dD):Prop:=PW X e (kF X.K t)
abbrev A3(X:Cx)(es:List Expr)(t:dP):Prop:=PA X es (n6 X.K t)
def cJ(K:Ab)(r:R3):R2:=λx y H Q=>∃wx wy M R,AM K H M/\AV K H M x wx/\AV K H M y wy/\r wx wy M R/\Up K H M R Q
def FF(K:Ab)(r:W->Mm->K3->Prop):V->Hp->VK->Prop:=λx H Q=>∃wx M R,AM K H M/\AV K H M x wx/\r wx M R/\Up K H M R Q
def e8(K:Ab)(r:List W->Mm->K3->Prop):List V->Hp->VK->Prop:=λxs H Q=>∃ws M R,AM K H M/\aL K H M xs ws/\r ws M R/\Up K H M R Q
def kZ(K:Ab)(r:W->List W->Mm->K3->Prop):V->List V->Hp->VK->Prop:=λx xs H Q=>∃wx ws M R,AM K H M/\AV K H M x wx/\aL K H M xs ws/\r wx ws M R/\Up K H M R Q
section
variable {X:Cx}{a b c:Expr}{ta tb tc:aY}{pos:Pos}
def aA(i:Nat):aY:=λτ M R=>∃w,τ[i]? = some (some w)/\R w M
def vC(w:W):aY:=λ_ M R=>R w M
theorem v(i:Nat){x:Str}{pos:Pos}(hN:X.N[i]? = some x:=by rfl)(hv:vJ X.env.scope x:=by first|exact Or.inl rfl|exact Or.inr (Or.inl rfl)|exact Or.inr (Or.inr rfl))(hd:(x==("__debug__" : Str))=false:=by decide)(hcd:(x==("__classdict__" : Str))=false:=by decide):E3 X (.Name x pos) (aA i):=(OG hN hv hd hcd).weak λZ H Q ⟨τ,M,R,as,am,⟨w,e,r⟩,k⟩=>by
 obtain⟨v,e1,av⟩:=as.get e;exact⟨v,e1,k.at am av r⟩
theorem aN{i j pos}:E3 X (.Constant (.int i) j pos) (vC (.int i)):=OH.weak λZ H Q z0=>z0.el λτ M R as am r k=>k.at am (.int i) r
theorem k7{b j pos}:E3 X (.Constant (.bool b) j pos) (vC (.bl b)):=OI.weak λZ H Q z0=>z0.el λτ M R as am r k=>k.at am (.bl b) r
theorem mZ{j pos}:E3 X (.Constant .none j pos) (vC .non):=OJ.weak λZ H Q z0=>z0.el λτ M R as am r k=>k.at am .non r
theorem i7{x j pos}:E3 X (.Constant (.str x) j pos) (vC (.str x)):=OK.weak λZ H Q z0=>z0.el λτ M R as am r k=>k.at am (.str x) r
theorem FG{x:Str}{y:V}{w:W}{u:Ae}{pos:Pos}(hg:Gl X x)(hm:X.mg x=none)(hv:Dc x=some u)(r:RelV y u)(hw:∀H M,AV X.K H M y w)(hn:x≠"__name__":=by decide)(hd:(x==("__debug__" : Str))=false:=by decide):E3 X (.Name x pos) (vC w):=
 (OL hg hm hv r hn hd).weak λZ H Q z0=>z0.el λτ M R as am r k=>k.at am (hw H M) r
theorem c8(ha:E3 X a ta):E3 X a (cP ta):=ha.weak λZ H Q z0=>z0.el λτ M R as am h k=>⟨τ,M,_,as,am,h,k.frz⟩
def aF(r:R3)(ta tb:aY):aY:=λτ M R=>ta τ M λx M1=>tb τ M1 λy M2=>r x y M2 R
theorem sF{K:Ab}{r:R3}{Z:SV}{H:Hp}{Q:VK}(h:up K (aF r ta tb) Z H Q):pN (cJ K r) (up K ta) (up K tb) Z H Q:=by
 obtain⟨τ,M,R,as,am,h,k⟩:=h;refine⟨τ,M,_,as,am,h,λx H1 wx M1 k1 am1 ax h1=>⟨τ,M1,_,as.kp am k1,am1,h1,λy H2 wy M2 k2 am2 ay h2=>?_⟩⟩;exact⟨wx,wy,M2,R,am2,ax.kp am1 k2,ay,h2,(k.kp k1).kp k2⟩
theorem bE{op:Operator}{r:R3}(ho:a9 X (Ek op) (cJ X.K r))(ha:E3 X a ta)(hb:E3 X b tb):E3 X (.BinOp a op b pos) (aF r ta tb):=(P9 ho ha hb).weak λ_ _ _ h=>sF h
theorem VH{op:CmpOp}{r:R3}(ho:a9 X (Cq op) (cJ X.K r))(ha:E3 X a ta)(hb:E3 X b tb)(hm:Hz op b=false):E3 X (.Compare a [op] [b] pos) (aF r ta tb):=(QT ho ha hb hm).weak λ_ _ _ h=>sF h
def b5(t:aY):dD:=λτ M Q=>t τ M λw M'=>∃k,w=.bl k/\Q k M'
theorem AV.bl_inv{K:Ab}{H:Hp}{M:Mm}{v:V}{k:Bool}(h:AV K H M v (.bl k)):v=.bl k:=by cases h;rfl
theorem VI{op:CmpOp}{r:R3}(ho:a9 X (Cq op) (cJ X.K r))(ha:E3 X a ta)(hb:E3 X b tb)(hm:Hz op b=false):T3 X (.Compare a [op] [b] pos) (b5 (aF r ta tb)):=
 (QV ho ha hb hm).weak λZ H Q z0=>z0.el λτ M R as am h k=>sF ⟨τ,M,_,as,am,h,λv H' w M' k' am' av ⟨c,e,r⟩=>by
  subst e;exact⟨c,av.bl_inv,k c H' M' k' am' r⟩⟩
def i8(r:W->Mm->K3->Prop)(ta:aY):aY:=λτ M R=>ta τ M λx M1=>r x M1 R
theorem jO{op:UnaryOp}{r:W->Mm->K3->Prop}(ho:pM X (unaryOp op) (FF X.K r))(ha:E3 X a ta):E3 X (.UnaryOp op a pos) (i8 r ta):=
 (QA ho ha).weak λZ H Q z0=>z0.el λτ M R as am h k=>⟨τ,M,_,as,am,h,λx H1 wx M1 k1 am1 ax h1=>⟨wx,M1,R,am1,ax,h1,k.kp k1⟩⟩
def VJ:W->Mm->(Bool->Mm->Prop)->Prop
 | .non,M,Q=>Q false M
 | .bl b,M,Q=>Q b M
 | .int i,M,Q=>Q (i !=0) M
 | .str y,M,Q=>y.length<=Ap/\Q ((y.length:Int) !=0) M
 | .tup ws,M,Q=>Q (!ws.isEmpty) M
 | .rl ws,M,Q=>Q (!ws.isEmpty) M
 | .sc ws,M,Q=>Q (!ws.isEmpty) M
 | .dk kvs,M,Q=>Q (!kvs.isEmpty) M
 | .ref p,M,Q=>(∃ws,M p=some (.lst ws)/\Q (!ws.isEmpty) M)\/∃kvs,M p=some (.dK kvs)/\Q (!kvs.isEmpty) M
 | _,_,_=>False
def lS(t:aY):dD:=λτ M Q=>t τ M λw M'=>VJ w M' Q
theorem aL.empty{K:Ab}{H:Hp}{M:Mm}{vs:List V}{ws:List W}(h:aL K H M vs ws):(!ws.isEmpty) = !vs.isEmpty:=by cases h<;>rfl
theorem m7(ha:E3 X a ta)(he:∀whole,isTrue a X.env whole=(do let v <-whole;Nl a.pos;Jn [v] (truthy v)):=by intro _;rfl):T3 X a (lS ta):=
 (QY ha he).weak λZ H Q z0=>z0.el λτ M R as am h k=>⟨τ,M,_,as,am,h,λv H' w M' k' am' av r=>by
  cases av with
  | non=>exact⟨false,rfl,k _ _ _ k' am' r⟩
  | bl b=>exact⟨b,rfl,k _ _ _ k' am' r⟩
  | int i=>exact⟨_,rfl,k _ _ _ k' am' r⟩
  | str y=>exact⟨_,⟨r.1,rfl⟩,k _ _ _ k' am' r.2⟩
  | ty n=>exact(show False from r).elim
  | tup e q=>exact⟨_,.inr (.inl ⟨_,bU.of e,q.empty⟩),k _ _ _ k' am' r⟩
  | rl e n q=>exact⟨_,.inl ⟨_,bH.of e,q.empty⟩,k _ _ _ k' am' r⟩
  | sc e q=>exact⟨_,.inl ⟨_,e.sq,q.empty⟩,k _ _ _ k' am' r⟩
  | @dk a ks kvs e n ke q=>exact⟨!kvs.isEmpty,.inr (.inr ⟨_,e,by have:=mX ke q;cases this<;>rfl⟩),k _ _ _ k' am' r⟩
  | dt e n ke q=>exact(show False from r).elim
  | fk e ke q=>exact(show False from r).elim
  | ft e ke q=>exact(show False from r).elim
  | ref p=>
   rcases r with⟨ws,e,r⟩|⟨kvs,e,r⟩
   .obtain⟨vs,e1,q⟩:=am'.lst e;exact⟨_,.inl ⟨_,bH.of e1,q.empty⟩,k _ _ _ k' am' r⟩
   .obtain⟨ks,e1,q⟩:=am' _ _ e;exact⟨!kvs.isEmpty,.inr (.inr ⟨_,e1,by cases q<;>rfl⟩),k _ _ _ k' am' r⟩⟩
def FH(t u:dD):dD:=λτ M Q=>t τ M λc M1=>if c=true then u τ M1 Q else Q false M1
def m8(t u:dD):dD:=λτ M Q=>t τ M λc M1=>if c=true then Q true M1 else u τ M1 Q
def wL(t:dD):dD:=λτ M Q=>t τ M λc M1=>Q (!c) M1
variable {tA tB':dD}{rest:List Expr}
theorem VL(ha:T3 X a tA):W3 X (.BoolOp .And [a] pos) tA:=OP ha
theorem pX(ha:T3 X a tA):W3 X (.BoolOp .Or [a] pos) tA:=OQ ha
theorem VM(ha:T3 X a tA)(hb:W3 X (.BoolOp .And (b::rest) pos) tB'):W3 X (.BoolOp .And (a::b::rest) pos) (FH tA tB'):=
 (OR ha hb).weak λZ H Q z0=>z0.el λτ M R as am h k=>⟨τ,M,_,as,am,h,λc H1 M1 k1 am1 h1=>by
  cases c with
  | true=>exact⟨τ,M1,R,as.kp am k1,am1,h1,λb H' M' k' am' r=>k b H' M' (k1.trans k') am' r⟩
  | false=>exact k false H1 M1 k1 am1 h1⟩
theorem n8(ha:T3 X a tA)(hb:W3 X (.BoolOp .Or (b::rest) pos) tB'):W3 X (.BoolOp .Or (a::b::rest) pos) (m8 tA tB'):=
 (OS ha hb).weak λZ H Q z0=>z0.el λτ M R as am h k=>⟨τ,M,_,as,am,h,λc H1 M1 k1 am1 h1=>by
  cases c with
  | true=>exact k true H1 M1 k1 am1 h1
  | false=>exact⟨τ,M1,R,as.kp am k1,am1,h1,λb H' M' k' am' r=>k b H' M' (k1.trans k') am' r⟩⟩
theorem FI(ha:T3 X a tA):T3 X (.UnaryOp .Not a pos) (wL tA):=
 (OT ha).weak λZ H Q z0=>z0.el λτ M R as am h k=>⟨τ,M,_,as,am,h,λc H1 M1 k1 am1 h1=>k (!c) H1 M1 k1 am1 h1⟩
def pY(t:dD)(ta tb:aY):aY:=λτ M R=>t τ M λc M1=>if c=true then ta τ M1 R else tb τ M1 R
theorem sG{c:Expr}(hc:T3 X c tA)(ha:E3 X a ta)(hb:E3 X b tb):E3 X (.IfExp c a b pos) (pY tA ta tb):=
 (OV hc ha hb).weak λZ H Q z0=>z0.el λτ M R as am h k=>⟨τ,M,_,as,am,h,λc H1 M1 k1 am1 h1=>by
  cases c with
  | true=>exact⟨τ,M1,R,as.kp am k1,am1,h1,k.kp k1⟩
  | false=>exact⟨τ,M1,R,as.kp am k1,am1,h1,k.kp k1⟩⟩
def aE:dP:=λ_ M R=>R [] M
def aB(ta:aY)(tr:dP):dP:=λτ M R=>ta τ M λx M1=>tr τ M1 λxs M2=>R (x::xs) M2
variable {e:Expr}{es:List Expr}{te:aY}{t:dP}
theorem aG:A3 X [] aE:=RH.weak λZ H Q z0=>z0.el λτ M R as am h k=>k [] H [] M (Kp.refl am) am .nil h
theorem aD(ha:E3 X e te)(hr:A3 X es t)(hs:Br (e::es) X.env=(false,eval e X.env)::Br es X.env:=by rfl):A3 X (e::es) (aB te t):=
 (RI ha hr hs).weak λZ H Q z0=>z0.el λτ M R as am h k=>⟨τ,M,_,as,am,h,λx H1 wx M1 k1 am1 ax h1=>⟨τ,M1,_,as.kp am k1,am1,h1,λxs H2 ws M2 k2 am2 axs h2=>
  k (x::xs) H2 (wx::ws) M2 (k1.trans k2) am2 (.cons (ax.kp am1 k2) axs) h2⟩⟩
def bP(t:dP):aY:=λτ M R=>t τ M λws M1=>ws.length<=Ap/\R (.tup ws) M1
def g9(t:dP):aY:=λτ M R=>t τ M λws M1=>ws.length<=Ap/\aZ ws M1 R
theorem laidT{K:Ab}{H:Hp}{M:Mm}{R:K3}{Q:VK}{p:Addr}{xs:List V}{ws:List W}(am:AM K H M)(k:Up K H M R Q)(hp:H p=none)(ax:aL K H M xs ws)(r:R (.tup ws) M):Q (.ref p) (aQ H p (.tup xs)):=by
 obtain⟨am2,k2⟩:=am.tup (u:=.tup xs) hp;exact k _ _ _ _ k2 am2 (.tup cU (ax.newT hp)) r
theorem iJ{K:Ab}{H:Hp}{M:Mm}{R:K3}{Q:VK}{p:Addr}{xs:List V}{ws:List W}(am:AM K H M)(k:Up K H M R Q)(hp:H p=none)(ax:aL K H M xs ws)(r:∀p,M p=none->R (.ref p) (put M p (.lst ws))):Q (.ref p) (aQ H p (.lst xs)):=by
 obtain⟨am2,k2⟩:=am.laid (o:=.lst ws) (u:=.lst xs) hp ⟨xs,cU,ax.newL hp⟩;exact k _ _ _ _ k2 am2 (.ref p) (r p (am.nonM hp))
theorem wM{K:Ab}{H:Hp}{M:Mm}{R:K3}{Q:VK}{l:Addr}{xs:List V}{ws ws0:List W}{y:V}{w:W}(am:AM K H M)(k:Up K H M R Q)(hl:M l=some (.lst ws0))(ax:aL K H M xs ws)(ay:AV K H M y w)(r:R w (put M l (.lst ws))):Q y (aQ H l (.lst xs)):=by
 obtain⟨am2,k2⟩:=am.write (o:=.lst ws) (u:=.lst xs) hl ⟨xs,cU,ax.wr am hl⟩;exact k _ _ _ _ k2 am2 (ay.wr am hl) r
theorem bX{x1}(h:A3 X es t):E3 X (.Tuple es x1 pos) (bP t):=
 (RL h).weak λZ H Q z0=>z0.el λτ M R as am h k=>⟨τ,M,_,as,am,h,λxs H1 ws M1 k1 am1 axs ⟨hl,r⟩=>⟨by rw[axs.length];exact hl,λp hp=>laidT am1 (k.kp k1) hp axs r⟩⟩
theorem jP(h:A3 X es t):E3 X (.List es pos) (g9 t):=
 (DW h).weak λZ H Q z0=>z0.el λτ M R as am h k=>⟨τ,M,_,as,am,h,λxs H1 ws M1 k1 am1 axs ⟨hl,r⟩=>⟨by rw[axs.length];exact hl,λp hp=>iJ am1 (k.kp k1) hp axs r⟩⟩
def bN(r:List W->Mm->K3->Prop)(t:dP):aY:=λτ M R=>t τ M λws M1=>r ws M1 R
variable {x:Str}{p:Pos}{id T:String}{r:List W->Mm->K3->Prop}
theorem FJ{K:Ab}{Z:SV}{H:Hp}{Q:VK}(h:up K (bN r t) Z H Q):vT (e8 K r) (n6 K t) Z H Q:=by
 obtain⟨τ,M,R,as,am,h,k⟩:=h;exact⟨τ,M,_,as,am,h,λxs H1 ws M1 k1 am1 axs h1=>⟨ws,M1,R,am1,axs,h1,k.kp k1⟩⟩
theorem cY(hc:b7 X (.builtin id) (e8 X.K r))(hg:Gl X x)(hm:X.mg x=none)(hv:Dc x=some (.builtin id))(ha:A3 X (e::es) t)(hn:x≠"__name__":=by decide)(hdb:(x==("__debug__" : Str))=false:=by decide)(hs:Br (e::es) X.env=(false,eval e X.env)::Br es X.env:=by rfl)(hpl:(Hk pos (Br es X.env)).any (·.1)=false:=by rfl):E3 X (.Call (.Name x p) (e::es) [] pos) (bN r t):=(RU hc hg hm hv ha hn hdb hs hpl).weak λ_ _ _ h=>FJ h
theorem iK(hc:b7 X (.type T) (e8 X.K r))(hg:Gl X x)(hm:X.mg x=none)(hv:Dc x=some (.type T))(ha:A3 X (e::es) t)(hn:x≠"__name__":=by decide)(hdb:(x==("__debug__" : Str))=false:=by decide)(hs:Br (e::es) X.env=(false,eval e X.env)::Br es X.env:=by rfl)(hpl:(Hk pos (Br es X.env)).any (·.1)=false:=by rfl):E3 X (.Call (.Name x p) (e::es) [] pos) (bN r t):=(RV hc hg hm hv ha hn hdb hs hpl).weak λ_ _ _ h=>FJ h
abbrev bM:=List W->Mm->K3->Prop
def gL(K:Ab)(sp:bM):Sp:=λvs H Q _=>∃ws M R,AM K H M/\aL K H M vs ws/\sp ws M R/\Up K H M R Q
variable {k:Nat}{f:Addr}{fd:Bv}{ps:List Str}{sp:bM}
def b9(sp:bM)(t:dP):aY:=λτ M R=>t τ M λws M1=>sp ws M1 R
theorem VN{K:Ab}{Z:SV}{H:Hp}{Q:VK}(h:up K (b9 sp t) Z H Q):DX (gL K sp) [] E0 (n6 K t) Z H Q:=by
 obtain⟨τ,M,R,as,am,h,k⟩:=h;exact⟨τ,M,_,as,am,h,λxs H1 ws M1 k1 am1 axs h1=>⟨ws,M1,R,am1,by rw[Cf];exact axs,h1,k.kp k1⟩⟩
theorem wN(F:eR X.prog X.w X.K X.mg X.base fW k f fd ps (gL X.K sp))(hr:cN k X.A)(hg:Gl X x)(hm:X.mg x=some (.ref f))(hk:Fs X.K (.ref f)=true)(hb:Binds X.K fd ps [])(ha:A3 X (e::es) t)(hdb:(x==("__debug__" : Str))=false:=by decide)(he:Br (e::es) X.env=(false,eval e X.env)::Br es X.env:=by rfl)(hpl:(Hk pos (Br es X.env)).any (·.1)=false:=by rfl):
  E3 X (.Call (.Name x p) (e::es) [] pos) (b9 sp t):=(RM F hr hg hm hk hb .nil pR ha hdb he hpl).weak λ_ _ _ h=>VN h
def kG(T:String):W->Mm->Prop
 | .str _,_=>T = "str"
 | .int _,_=>T = "int"
 | .rl _,_=>T = "list"
 | .sc _,_=>T = "list"
 | .dk _,_=>T = "dict"
 | .dt _,_=>T = "dict"
 | .fk _,_=>T = "dict"
 | .ft _,_=>T = "dict"
 | .ref p,M=>(T = "list"/\∃ws,M p=some (.lst ws))\/(T = "dict"/\((∃kvs,M p=some (.dK kvs))\/∃kvs,M p=some (.dT kvs)))
 | _,_=>False
theorem FK{K:Ab}{H:Hp}{M:Mm}{v:V}{w:W}(am:AM K H M)(av:AV K H M v w)(h:kG T w M):rZ K T v H:=by
 cases av with
 | str y=>exact h
 | int i=>exact h
 | rl e n q=>exact .inl ⟨h,_,bH.of e⟩
 | sc e q=>exact .inl ⟨h,_,e.sq⟩
 | dk e n ke q=>exact .inr (.inr (.inl ⟨h,.inl ⟨_,.inl e⟩⟩))
 | dt e n ke q=>exact .inr (.inr (.inl ⟨h,.inr ⟨_,.inl e⟩⟩))
 | ref p=>
  rcases h with⟨e,ws,h⟩|⟨e,h⟩
  .obtain⟨vs,e1,_⟩:=am.lst h;exact .inl ⟨e,vs,bH.of e1⟩
  .refine .inr (.inr (.inl ⟨e,?_⟩));rcases h with⟨kvs,h⟩|⟨kvs,h⟩
   .obtain⟨ks,e1,_⟩:=am _ _ h;exact .inl ⟨ks,.inl e1⟩
   .obtain⟨ks,e1,_⟩:=am _ _ h;exact .inr ⟨ks,.inl e1⟩
 | non=>exact h.elim
 | bl b=>exact h.elim
 | ty n=>exact h.elim
 | tup e q=>exact h.elim
 | fk e ke q=>exact .inr (.inr (.inl ⟨h,.inl ⟨_,.inr ⟨_,e⟩⟩⟩))
 | ft e ke q=>exact .inr (.inr (.inl ⟨h,.inr ⟨_,.inr ⟨_,e⟩⟩⟩))
variable {o:Expr}{to:aY}{name:Str}{apos cpos:Pos}{rm:W->List W->Mm->K3->Prop}
def wO(T:String)(r:W->List W->Mm->K3->Prop)(to:aY):aY:=λτ M R=>to τ M λx M1=>kG T x M1/\r x [] M1 R
def dX(T:String)(r:W->List W->Mm->K3->Prop)(to:aY)(t:dP):aY:=λτ M R=>to τ M λx M1=>kG T x M1/\t τ M1 λxs M2=>r x xs M2 R
theorem FL(pa:PlainAttrs T)(slot:Slot T name id)(hty:typeOf (.builtin id)=pure (.type "method_descriptor"))(hm:iS X id (kZ X.K rm))(ho:E3 X o to)(hbase:Ia o name X.env (eval o X.env)=eval o X.env:=by rfl)(hline:(apos.endLine==cpos.line)=true:=by rfl):E3 X (.Call (.Attribute o name apos) [] [] cpos) (wO T rm to):=
 (EH pa slot hty hm ho hbase hline).weak λZ H Q z0=>z0.el λτ M R as am h k=>⟨τ,M,_,as,am,h,λx H1 wx M1 k1 am1 ax ⟨ty,h1⟩=>⟨FK am1 ax ty,wx,[],M1,R,am1,ax,.nil,h1,k.kp k1⟩⟩
theorem fI(pa:PlainAttrs T)(slot:Slot T name id)(hty:typeOf (.builtin id)=pure (.type "method_descriptor"))(hm:iS X id (kZ X.K rm))(ho:E3 X o to)(ha:A3 X (e::es) t)(hbase:Ia o name X.env (eval o X.env)=eval o X.env:=by rfl)(hfew:((Hk cpos (Br (e::es) X.env)).all (λx=>!x.1)&&(backToKw cpos (Mh [] X.env)).all (λx=>x.1.isSome)
  &&decide ((e::es).length+([]:List Keyword).length+(if ([]:List Keyword).isEmpty then 0 else 1)<30))=true:=by rfl)(hline:(apos.endLine==cpos.line)=true:=by rfl)(hs:Br (e::es) X.env=(false,eval e X.env)::Br es X.env:=by rfl)(hplain:(Hk cpos (Br es X.env)).any (·.1)=false:=by rfl):
  E3 X (.Call (.Attribute o name apos) (e::es) [] cpos) (dX T rm to t):=
 (TL pa slot hty hm ho ha hbase hfew hline hs hplain).weak λZ H Q z0=>z0.el λτ M R as am h k=>⟨τ,M,_,as,am,h,λx H1 wx M1 k1 am1 ax ⟨ty,h1⟩=>⟨FK am1 ax ty,τ,M1,_,as.kp am k1,am1,h1,λxs H2 ws M2 k2 am2 axs h2=>
  ⟨wx,ws,M2,R,am2,ax.kp am1 k2,axs,h2,(k.kp k1).kp k2⟩⟩⟩
end
section
variable {X:Cx}
theorem jQ{f:Ae->Ae->Sem Ae}{r:R2}{r3:R3}(h0:a9 X f r)(h:∀x y H Q M R,AM X.K H M->Up X.K H M R Q->∀wx wy,r3 wx wy M R->AV X.K H M x wx->AV X.K H M y wy->r x y H Q):a9 X f (cJ X.K r3):=
 λpins s Z H x y v u Q I rx ry ⟨wx,wy,M,R,am,ax,ay,h1,k⟩=>h0 pins s Z H x y v u Q I rx ry (h x y H Q M R am k wx wy h1 ax ay)
theorem VO{r:R2}{r3:R3}(h0:i4 X r)(h:∀x y H Q M R,AM X.K H M->Up X.K H M R Q->∀wx wy,r3 wx wy M R->AV X.K H M x wx->AV X.K H M y wy->r x y H Q):i4 X (cJ X.K r3):=
 λvalue slice pins s Z H x y v u Q I rx ry ⟨wx,wy,M,R,am,ax,ay,h1,k⟩=>h0 value slice pins s Z H x y v u Q I rx ry (h x y H Q M R am k wx wy h1 ax ay)
theorem wQ{f:Ae}{r:List V->Hp->VK->Prop}{r3:List W->Mm->K3->Prop}(h0:b7 X f r)(h:∀xs H Q M R,AM X.K H M->Up X.K H M R Q->∀ws,r3 ws M R->aL X.K H M xs ws->r xs H Q):b7 X f (e8 X.K r3):=
 λpins s Z H xs us Q I rs ⟨ws,M,R,am,ax,h1,k⟩=>h0 pins s Z H xs us Q I rs (h xs H Q M R am k ws h1 ax)
def FN:R3
 | .int i,.int j,M,R=>R (.int (i+j)) M
 | .tup xs,.tup ys,M,R=>xs≠[]/\xs.length+ys.length<=Ap/\R (.tup (xs++ys)) M
 | .ref a,.ref b,M,R=>∃xs ys,M a=some (.lst xs)/\M b=some (.lst ys)/\xs.length+ys.length<=Ap/\aZ (xs++ys) M R
 | .rl xs,.ref b,M,R=>∃ys,M b=some (.lst ys)/\xs.length+ys.length<=Ap/\aZ (xs++ys) M R
 | .ref a,.rl ys,M,R=>∃xs,M a=some (.lst xs)/\xs.length+ys.length<=Ap/\aZ (xs++ys) M R
 | .rl xs,.rl ys,M,R=>xs.length+ys.length<=Ap/\aZ (xs++ys) M R
 | _,_,_,_=>False
def k9(M:Mm):W->List W->Prop
 | .ref a,ws=>M a=some (.lst ws)
 | .rl ws,zs=>ws=zs
 | _,_=>False
theorem lT{K:Ab}{H:Hp}{M:Mm}{v:V}{w:W}{ws:List W}(am:AM K H M)(h:AV K H M v w)(e:k9 M w ws):∃a xs,v=.ref a/\H a=some (.lst xs)/\aL K H M xs ws:=by
 cases w<;>first|exact(show False from e).elim|skip
 case ref a=>exact am.lstE e λxs f q=>⟨_,_,h.inv,f,q⟩
 case rl zs=>exact h.rlE λa xs e1 f q=>⟨_,_,e1,f,by rw[<-show zs=ws from e];exact q⟩
theorem VP{P:W->W->Prop}{M:Mm}{R:K3}(c1:∀i j,R (.int (i+j)) M->P (.int i) (.int j))(c2:∀xs ys,xs≠[]/\xs.length+ys.length<=Ap/\R (.tup (xs++ys)) M->P (.tup xs) (.tup ys))(c3:∀x y xs ys,k9 M x xs->k9 M y ys->xs.length+ys.length<=Ap->aZ (xs++ys) M R->P x y):∀x y,FN x y M R->P x y:=by
 intro x y h;cases x<;>first|exact(show False from h).elim|(cases y<;>first|exact(show False from h).elim|skip)
 case int.int=>exact c1 _ _ h
 case tup.tup=>exact c2 _ _ h
 case ref.ref=>obtain⟨xs,ys,e,f,l,r⟩:=h;exact c3 _ _ _ _ e f l r
 case rl.ref=>obtain⟨ys,f,l,r⟩:=h;exact c3 _ _ _ _ rfl f l r
 case ref.rl=>obtain⟨xs,e,l,r⟩:=h;exact c3 _ _ _ _ e rfl l r
 case rl.rl=>exact c3 _ _ _ _ rfl rfl h.1 h.2
theorem VQ:a9 X (Ek .Add) (cJ X.K FN):=jQ (QB.or (SE.or TU)) λx y H Q M R am k=>VP
 (λi j h ax ay=>.inl ⟨i,j,ax.inv,ay.inv,k.at am (.int _) h⟩)
 (λxs ys h ax ay=>ax.tupE λa us e1 f1 q1=>ay.tupE λb vs e2 f2 q2=>.inr (.inl ⟨a,b,us,vs,e1,e2,bU.of f1,bU.of f2,
  λz=>h.1 (Lz.mp (by rw[<-q1.length,z];rfl)),by rw[q1.length,q2.length];exact h.2.1,
  λz=>k.at am (by rw[<-e1];exact ax) (by rw[<-Cf xs,<-Lz.mp (show ys.length=0 by rw[<-q2.length,z];rfl)];exact h.2.2),
  λ_ p hp=>laidT am k hp (q1.append q2) h.2.2⟩))
 (λwx wy xs ys h1 h2 l r ax ay=>.inr (.inr (by
  obtain⟨a,us,e1,f1,q1⟩:=lT am ax h1;obtain⟨b,vs,e2,f2,q2⟩:=lT am ay h2;exact⟨a,b,us,vs,e1,e2,f1,f2,by rw[q1.length,q2.length];exact l,λp hp=>iJ am k hp (q1.append q2) r⟩)))
def pZ(C:Int->Int->Prop)(g:Int->Int->W):R3
 | .int i,.int j,M,R=>C i j/\R (g i j) M
 | _,_,_,_=>False
theorem VR{C:Int->Int->Prop}{g:Int->Int->W}{P:W->W->Prop}{M:Mm}{R:K3}(c:∀i j,C i j/\R (g i j) M->P (.int i) (.int j))(x y:W)(h:pZ C g x y M R):P x y:=by
 cases x<;>first|exact(show False from h).elim|(cases y<;>first|exact(show False from h).elim|exact c _ _ h)
theorem wR{f:Ae->Ae->Sem Ae}{C:Int->Int->Prop}{g:Int->Int->V}{g':Int->Int->W}(h0:a9 X f (rI C g))(hg:∀H M i j,AV X.K H M (g i j) (g' i j)):a9 X f (cJ X.K (pZ C g')):=
 jQ h0 λx y H Q M R am k=>VR λi j h ax ay=>⟨i,j,ax.inv,ay.inv,h.1,k.at am (hg H M i j) h.2⟩
def n9(g:Int->Int->W):R3
 | .int i,.int j,M,R=>R (g i j) M
 | _,_,_,_=>False
theorem VS{g:Int->Int->W}{P:W->W->Prop}{M:Mm}{R:K3}(c:∀i j,R (g i j) M->P (.int i) (.int j))(x y:W)(h:n9 g x y M R):P x y:=by
 cases x<;>first|exact(show False from h).elim|(cases y<;>first|exact(show False from h).elim|exact c _ _ h)
theorem sH{f:Ae->Ae->Sem Ae}{g:Int->Int->V}{g':Int->Int->W}(h0:a9 X f (lM g))(hg:∀H M i j,AV X.K H M (g i j) (g' i j)):a9 X f (cJ X.K (n9 g')):=
 jQ h0 λx y H Q M R am k=>VS λi j h ax ay=>⟨i,j,ax.inv,ay.inv,k.at am (hg H M i j) h⟩
abbrev lU:R3:=n9 λi j=>.int (i-j)
theorem m9:a9 X (Ek .Sub) (cJ X.K lU):=sH QC λ_ _ _ _=>.int _
abbrev iV:R3:=pZ EW λi j=>.int (i/j)
theorem lV:a9 X (Ek .FloorDiv) (cJ X.K iV):=wR UX λ_ _ _ _=>.int _
abbrev gR:R3:=pZ (λ_ j=>0<j) λi j=>.int (i % j)
theorem i9:a9 X (Ek .Mod) (cJ X.K gR):=wR QE λ_ _ _ _=>.int _
abbrev sI:R3:=pZ DL λi j=>.int (i ^ j.toNat)
theorem wU:a9 X (Ek .Pow) (cJ X.K sI):=wR QF λ_ _ _ _=>.int _
def FO:R3
 | .int i,.int j,M,R=>(nW i j\/sD i j)/\R (.int (i*j)) M
 | .ref a,.int n,M,R=>∃xs,M a=some (.lst xs)/\-(2 ^ 63)<=n/\n<2 ^ 63/\xs.length*n.toNat<=Ap/\aZ (Cg n.toNat xs).flatten M R
 | .rl xs,.int n,M,R=>-(2 ^ 63)<=n/\n<2 ^ 63/\xs.length*n.toNat<=Ap/\aZ (Cg n.toNat xs).flatten M R
 | _,_,_,_=>False
theorem VT{P:W->W->Prop}{M:Mm}{R:K3}(c1:∀i j,(nW i j\/sD i j)/\R (.int (i*j)) M->P (.int i) (.int j))(c3:∀x n xs,k9 M x xs->-(2 ^ 63)<=n/\n<2 ^ 63/\xs.length*n.toNat<=Ap/\aZ (Cg n.toNat xs).flatten M R->P x (.int n)):∀x y,FO x y M R->P x y:=by
 intro x y h;cases x<;>first|exact(show False from h).elim|(cases y<;>first|exact(show False from h).elim|skip)
 case int.int=>exact c1 _ _ h
 case ref.int=>obtain⟨xs,e,h⟩:=h;exact c3 _ _ _ e h
 case rl.int=>exact c3 _ _ _ rfl h
theorem VU:a9 X (Ek .Mult) (cJ X.K FO):=jQ (QD.or (UW.or TY)) λx y H Q M R am k=>VT
 (λi j h ax ay=>h.1.elim (λz=>.inl ⟨i,j,ax.inv,ay.inv,z,k.at am (.int _) h.2⟩) λz=>.inr (.inl ⟨i,j,ax.inv,ay.inv,z,k.at am (.int _) h.2⟩))
 (λwx n xs h1 h ax ay=>.inr (.inr (by
  obtain⟨a,us,e1,f1,q1⟩:=lT am ax h1;exact⟨a,n,us,e1,ay.inv,f1,h.1,h.2.1,by rw[q1.length];exact h.2.2.1,λp hp=>iJ am k hp (q1.flatRep _) h.2.2.2⟩)))
def jA:W->Mm->K3->Prop
 | .int i,M,R=>R (.int (-i)) M
 | _,_,_=>False
theorem jR:pM X (unaryOp .USub) (FF X.K jA):=by
 rintro pins s Z H x v Q I rx ⟨wx,M,R,am,ax,h,k⟩;cases wx<;>first|exact(show False from h).elim|skip
 case int i=>exact QH pins s Z H _ v Q I rx ⟨i,ax.inv,k.at am (.int _) h⟩
def lW:R3:=n9 λi j=>.bl (decide (i<j))
theorem oA:a9 X (Cq .Lt) (cJ X.K lW):=sH QL λ_ _ _ _=>.bl _
abbrev FP:R3:=n9 λi j=>.bl (decide (i<=j))
theorem VV:a9 X (Cq .LtE) (cJ X.K FP):=sH QM λ_ _ _ _=>.bl _
abbrev wV:R3:=n9 λi j=>.bl (decide (j<i))
theorem FQ:a9 X (Cq .Gt) (cJ X.K wV):=sH QN λ_ _ _ _=>.bl _
def isNon:W->Bool
 | .non=>true
 | _=>false
def nA(neg:Bool):R3
 | x,.non,M,R=>R (.bl (if neg then !isNon x else isNon x)) M
 | _,_,_,_=>False
theorem AV.isNon{K:Ab}{H:Hp}{M:Mm}{v:V}{w:W}(h:AV K H M v w):decide (v=.non)=L3.isNon w:=by cases h<;>rfl
theorem FR{n:Bool}{P:W->W->Prop}{M:Mm}{R:K3}(c:∀x,R (.bl (if n then !isNon x else isNon x)) M->P x .non)(x y:W)(h:nA n x y M R):P x y:=by
 cases y<;>first|exact(show False from h).elim|exact c _ h
theorem FT:a9 X (Cq .Is) (cJ X.K (nA false)):=jQ QP λx y H Q M R am k=>FR λw h ax ay=>⟨ay.inv,by rw[ax.isNon];exact k.at am (.bl _) h⟩
theorem VW:a9 X (Cq .IsNot) (cJ X.K (nA true)):=jQ QQ λx y H Q M R am k=>FR λw h ax ay=>⟨ay.inv,by rw[ax.isNon];exact k.at am (.bl _) h⟩
mutual
inductive Snap(M:Mm):W->Iu->Prop
 | non:Snap M .non .none
 | bl (b:Bool):Snap M (.bl b) (.bool b)
 | int (i:Int):Snap M (.int i) (.int i)
 | str (x:Str):Snap M (.str x) (.str x)
 | tup {ws:List W} {ds:List Iu}:hJ M ws ds->Snap M (.tup ws) (.tuple ds)
 | rl {ws:List W} {ds:List Iu}:hJ M ws ds->Snap M (.rl ws) (.list ds)
 | ref {a:Addr} {ws:List W} {ds:List Iu}:M a=some (.lst ws)->hJ M ws ds->Snap M (.ref a) (.list ds)
inductive hJ(M:Mm):List W->List Iu->Prop
 | nil:hJ M [] []
 | cons {w:W} {ws:List W} {d:Iu} {ds:List Iu}:Snap M w d->hJ M ws ds->hJ M (w::ws) (d::ds)
end
section
variable {pins:List (Addr×Obj)}{Z:SV}{H:Hp}{s:Aj}{M:Mm}
theorem hJ.reads(I:Inv X pins Z H s)(am:AM X.K H M){ws:List W}{ds:List Iu}(h:hJ M ws ds):∀{vs:List V} {us:List Ae},aL X.K H M vs ws->aW vs us->∃as,ReadsAll s.heap us ds as:=
 hJ.rec (motive_1:=λw d _=>∀{v:V} {u:Ae},AV X.K H M v w->RelV v u->∃as,Reads s.heap u d as) (motive_2:=λws ds _=>∀{vs:List V} {us:List Ae},aL X.K H M vs ws->aW vs us->∃as,ReadsAll s.heap us ds as)
  (λav r=>by rw[show _=_ from av.inv]at r;rw[show _=_ from r];exact⟨_,.none⟩)
  (λb _ _ av r=>by rw[show _=_ from av.inv]at r;rw[show _=_ from r];exact⟨_,.bool b⟩)
  (λi _ _ av r=>by rw[show _=_ from av.inv]at r;exact r.elim λt r=>by rw[r];exact⟨_,.int i t⟩)
  (λx _ _ av r=>by rw[show _=_ from av.inv]at r;exact r.elim λt r=>by rw[r];exact⟨_,.str x t⟩)
  (λ_ ih _ _ av r=>av.tupE λa xs e f q=>by
   rw[e]at r;rw[show _=_ from r];obtain⟨its,rv,⟨o,e1,e2,n,e3⟩,_⟩:=I.tuple (bU.of f);exact(ih q rv).elim λas z=>⟨_,.tuple e1 e2 e3 (by simpa using z)⟩)
  (λ_ ih _ _ av r=>av.rlE λa xs e f q=>by
   rw[e]at r;rw[show _=_ from r];obtain⟨its,rv,pl,_⟩:=I.list (bH.of f);obtain⟨o,e1,e2,n,e3⟩:=pl.isList;exact(ih q rv).elim λas z=>⟨_,.list e1 e2 e3 (by simpa using z)⟩)
  (λe0 _ ih _ _ av r=>am.lstE e0 λvs f q=>by
   rw[show _=_ from av.inv]at r;rw[show _=_ from r];obtain⟨its,rv,pl,_⟩:=I.list (bH.of f);obtain⟨o,e1,e2,n,e3⟩:=pl.isList;exact(ih q rv).elim λas z=>⟨_,.list e1 e2 e3 (by simpa using z)⟩)
  (λav r=>by cases av;cases r;exact⟨_,.nil⟩)
  (λ_ _ ih1 ih2 _ _ av r=>by
   cases av with
   | cons a b=>
    cases r with
    | cons r1 r2=>exact(ih1 a r1).elim λx q1=>(ih2 b r2).elim λy q2=>⟨_,.cons q1 q2⟩) h
theorem Snap.reads(I:Inv X pins Z H s)(am:AM X.K H M){w:W}{d:Iu}{v:V}{u:Ae}(h:Snap M w d)(av:AV X.K H M v w)(r:RelV v u):∃as,Reads s.heap u d as:=
 (hJ.reads I am (.cons h .nil) (.cons av .nil) (.cons r .nil)).elim λ_ z=>by
  cases z with
  | cons q _=>exact⟨_,q⟩
end
def p5(neg:Bool):R3:=λx y M R=>∃da db,Snap M x da/\Snap M y db/\n5 da/\n5 db/\R (.bl (if neg then !PyData.eqv da db else Dw da db)) M
def rEq(neg:Bool):R3
 | .int i,.int j,M,R=>R (.bl (if neg then !decide (i=j) else decide (i=j))) M
 | .str i,.str j,M,R=>R (.bl (if neg then !decide (i=j) else decide (i=j))) M
 | .bl i,.bl j,M,R=>R (.bl (if neg then !decide (i=j) else decide (i=j))) M
 | x,y,M,R=>p5 neg x y M R
theorem FU{i j:Int}:decide (V.int i=V.int j)=decide (i=j):=by rw[Dk];simp
theorem FV{i j:Str}:decide (V.str i=V.str j)=decide (i=j):=by rw[Dk];simp
theorem FW{i j:Bool}:decide (V.bl i=V.bl j)=decide (i=j):=by rw[Dk];simp
theorem FX{n:Bool}{P:W->W->Prop}{M:Mm}{R:K3}(c1:∀i j,R (.bl (if n then !decide (i=j) else decide (i=j))) M->P (.int i) (.int j))(c2:∀i j,R (.bl (if n then !decide (i=j) else decide (i=j))) M->P (.str i) (.str j))(c3:∀i j,R (.bl (if n then !decide (i=j) else decide (i=j))) M->P (.bl i) (.bl j))(c4:∀x y,p5 n x y M R->P x y)(x y:W)(h:rEq n x y M R):P x y:=by
 cases x<;>first|exact c4 _ _ h|(cases y<;>first|exact c1 _ _ h|exact c2 _ _ h|exact c3 _ _ h|exact c4 _ _ h)
theorem sV{i j:V}{x y:V}(e:x=i)(f:y=j)(h:rW i j=true):rW x y=true:=by rw[e,f];exact h
theorem dV{i j:V}{x y:V}{b:Bool}{Q:Bool->Prop}(e:x=i)(f:y=j)(h:decide (i=j)=b)(q:Q b):Q (decide (x=y)):=by rw[e,f,h];exact q
theorem VX(hu:X.A.units+64<Fo):a9 X (Cq .Eq) (cJ X.K (p5 false)):=by
 rintro pins s Z H x y v u Q I rx ry ⟨wx,wy,M,R,am,ax,ay,⟨da,db,ha,hb,fa,fb,q⟩,k⟩;obtain⟨as,ra⟩:=ha.reads I am ax rx;obtain⟨bs,rb⟩:=hb.reads I am ay ry;exact SeqAt.compareEq_reads ra rb fa.1 fb.1 (Gh (Nf (Ah (Nat.min_le_left _ _) (Ah fa.2 (by decide))) _) hu) ⟨.bl _,H,I,rfl,k.at am (.bl _) q⟩
theorem VY(hu:X.A.units+64<Fo):a9 X (Cq .NotEq) (cJ X.K (p5 true)):=by
 rintro pins s Z H x y v u Q I rx ry ⟨wx,wy,M,R,am,ax,ay,⟨da,db,ha,hb,fa,fb,q⟩,k⟩;obtain⟨as,ra⟩:=ha.reads I am ax rx;obtain⟨bs,rb⟩:=hb.reads I am ay ry;exact SeqAt.compareNe_reads ra rb fa.1 fb.1 (Gh (Nf (Ah (Nat.min_le_left _ _) (Ah fa.2 (by decide))) _) hu) ⟨.bl _,H,I,rfl,k.at am (.bl _) q⟩
theorem iW(hu:X.A.units+64<Fo):a9 X (Cq .Eq) (cJ X.K (rEq false)):=jQ (QJ.or (VX hu)) λx y H Q M R am k=>FX
 (λi j h ax ay=>.inl ⟨sV ax.inv ay.inv rfl,dV (Q:=λb=>Q (.bl b) H) ax.inv ay.inv FU (k.at am (.bl _) h)⟩)
 (λi j h ax ay=>.inl ⟨sV ax.inv ay.inv rfl,dV (Q:=λb=>Q (.bl b) H) ax.inv ay.inv FV (k.at am (.bl _) h)⟩)
 (λi j h ax ay=>.inl ⟨sV ax.inv ay.inv rfl,dV (Q:=λb=>Q (.bl b) H) ax.inv ay.inv FW (k.at am (.bl _) h)⟩)
 (λwx wy h ax ay=>.inr ⟨wx,wy,M,R,am,ax,ay,h,k⟩)
theorem wW(hu:X.A.units+64<Fo):a9 X (Cq .NotEq) (cJ X.K (rEq true)):=jQ (QK.or (VY hu)) λx y H Q M R am k=>FX
 (λi j h ax ay=>.inl ⟨sV ax.inv ay.inv rfl,dV (Q:=λb=>Q (.bl !b) H) ax.inv ay.inv FU (k.at am (.bl _) h)⟩)
 (λi j h ax ay=>.inl ⟨sV ax.inv ay.inv rfl,dV (Q:=λb=>Q (.bl !b) H) ax.inv ay.inv FV (k.at am (.bl _) h)⟩)
 (λi j h ax ay=>.inl ⟨sV ax.inv ay.inv rfl,dV (Q:=λb=>Q (.bl !b) H) ax.inv ay.inv FW (k.at am (.bl _) h)⟩)
 (λwx wy h ax ay=>.inr ⟨wx,wy,M,R,am,ax,ay,h,k⟩)
def wK:aC->W
 | .inl i=>.int i
 | .inr x=>.str x
def aV{U:Type}[DecidableEq U](kvs:List (U×W))(k:U):Option W:=(kvs.find? λkv=>decide (kv.1=k)).map (·.2)
def bS{U:Type}[DecidableEq U](kvs:List (U×W))(k:U)(v:W):List (U×W):=
 if (kvs.any λkv=>decide (kv.1=k))=true then kvs.map (λkv=>if kv.1=k then(kv.1,v) else kv) else kvs++[(k,v)]
theorem AV.key{K:Ab}{H:Hp}{M:Mm}{v:V}{k:aC}(h:AV K H M v (wK k)):v=kV k:=by
 cases k<;>exact h.inv
theorem aL.keys{K:Ab}{H:Hp}{M:Mm}:∀{vs:List V} {k:List aC},aL K H M vs (k.map wK)->vs=k.map kV
 | _,[],h=>by cases h;rfl
 | _,a::r,h=>by
  cases h with
  | cons x y=>rw[x.key,aL.keys y];rfl
section
variable {U:Type}[DecidableEq U]{K:Ab}{H:Hp}{M:Mm}
theorem sJ{ks:List (U×V)}{kvs:List (U×W)}(h:bJ K H M U ks kvs)(k:U):(aV kvs k=none/\gC ks k=none)\/∃v w,aV kvs k=some w/\gC ks k=some v/\AV K H M v w:=by
 induction h with
 | nil=>exact .inl ⟨rfl,rfl⟩
 | @cons p q ps qs r t ih=>
  by_cases e:p.1=k
  .refine .inr ⟨p.2,q.2,?_,?_,r.2⟩
   .unfold aV;rw[Ey,decide_eq_true (by rw[<-r.1];exact e)];rfl
   .exact r6 e
  .have e2:¬q.1=k:=by rw[<-r.1];exact e
   have l:aV (q::qs) k=aV qs k:=by unfold aV;rw[Ey,decide_eq_false e2]
   rw[l,r9 e];exact ih
theorem VZ{ks:List (U×V)}{kvs:List (U×W)}(h:bJ K H M U ks kvs)(k:U):(ks.any λkv=>decide (kv.1=k))=(kvs.any λkv=>decide (kv.1=k)):=by
 induction h with
 | nil=>rfl
 | cons r t ih=>rw[Ei,Ei,ih,r.1]
theorem V0{ks:List (U×V)}{kvs:List (U×W)}{v:V}{w:W}{k:U}(av:AV K H M v w)(h:bJ K H M U ks kvs):bJ K H M U (ks.map (λkv=>if kv.1=k then(kv.1,v) else kv)) (kvs.map (λkv=>if kv.1=k then(kv.1,w) else kv)):=by
 induction h with
 | nil=>exact .nil
 | @cons p q ps qs r t ih=>
  rw[Ay,Ay];refine .cons ?_ ih
  by_cases e:p.1=k
  .rw[if_pos e,if_pos (by rw[<-r.1];exact e)];exact⟨r.1,av⟩
  .rw[if_neg e,if_neg (by rw[<-r.1];exact e)];exact r
theorem V1{ks:List (U×V)}{kvs:List (U×W)}{v:V}{w:W}{k:U}(av:AV K H M v w)(h:bJ K H M U ks kvs):bJ K H M U (ks++[(k,v)]) (kvs++[(k,w)]):=by
 induction h with
 | nil=>exact .cons ⟨rfl,av⟩ .nil
 | cons r t ih=>exact .cons r ih
theorem p6{ks:List (U×V)}{kvs:List (U×W)}{v:V}{w:W}(h:bJ K H M U ks kvs)(k:U)(av:AV K H M v w):bJ K H M U (d5 ks k v) (bS kvs k w):=by
 unfold d5 bS;rw[VZ h k];split
 .exact V0 av h
 .exact V1 av h
end
def e9(M:Mm):W->W->Option W->Prop
 | .ref a,y,o=>(∃kvs k,M a=some (.dK kvs)/\y=wK k/\o=aV kvs k)\/∃kvs k,M a=some (.dT kvs)/\y=.tup (k.map wK)/\o=aV kvs k
 | .dk kvs,y,o=>∃k,y=wK k/\o=aV kvs k
 | .dt kvs,y,o=>∃k,y=.tup (k.map wK)/\o=aV kvs k
 | .fk kvs,y,o=>∃k,y=wK k/\o=aV kvs k
 | .ft kvs,y,o=>∃k,y=.tup (k.map wK)/\o=aV kvs k
 | _,_,_=>False
theorem wX{K:Ab}{H:Hp}{M:Mm}{a:Addr}{y:V}{k:aC}{ks:List (aC×V)}{kvs:List (aC×W)}(e1:Rd H a (.dK ks))(q:bJ K H M aC ks kvs)(ay:AV K H M y (wK k)):(aV kvs k=none/\g8 H a y none)\/∃v w,aV kvs k=some w/\g8 H a y (some v)/\AV K H M v w:=by
 rw[ay.key];rcases sJ q k with⟨l1,l2⟩|⟨v,w,l1,l2,av⟩
 .exact .inl ⟨l1,by rw[<-l2];exact .inl ⟨_,_,e1,rfl,rfl⟩⟩
 .exact .inr ⟨v,w,l1,by rw[<-l2];exact .inl ⟨_,_,e1,rfl,rfl⟩,av⟩
theorem wY{K:Ab}{H:Hp}{M:Mm}{a:Addr}{y:V}{k:List aC}{ks:List (List aC×V)}{kvs:List (List aC×W)}(e1:Rd H a (.dT ks))(q:bJ K H M (List aC) ks kvs)(ay:AV K H M y (.tup (k.map wK))):(aV kvs k=none/\g8 H a y none)\/∃v w,aV kvs k=some w/\g8 H a y (some v)/\AV K H M v w:=
 ay.tupE λb xs e eb qb=>by
  rw[qb.keys]at eb;rcases sJ q k with⟨l1,l2⟩|⟨v,w,l1,l2,av⟩
  .exact .inl ⟨l1,by rw[<-l2];exact .inr ⟨_,_,_,e1,e,eb,rfl⟩⟩
  .exact .inr ⟨v,w,l1,by rw[<-l2];exact .inr ⟨_,_,_,e1,e,eb,rfl⟩,av⟩
theorem sL{K:Ab}{H:Hp}{M:Mm}{x y:V}{wx wy:W}{o:Option W}(am:AM K H M)(ax:AV K H M x wx)(ay:AV K H M y wy)(h:e9 M wx wy o):∃a,x=.ref a/\((o=none/\g8 H a y none)\/∃v w,o=some w/\g8 H a y (some v)/\AV K H M v w):=by
 cases wx<;>first|exact(show False from h).elim|skip
 case ref a=>
  rcases h with⟨kvs,k,e,rfl,rfl⟩|⟨kvs,k,e,rfl,rfl⟩
  .obtain⟨ks,e1,q⟩:=am _ _ e;exact⟨a,ax.inv,wX (.inl e1) q ay⟩
  .obtain⟨ks,e1,q⟩:=am _ _ e;exact⟨a,ax.inv,wY (.inl e1) q ay⟩
 all_goals
  obtain⟨k,rfl,rfl⟩:=h;have ax:=ax.inv
 case dk=>obtain⟨a,ks,e,f,_,q⟩:=ax;exact⟨a,e,wX (.inl f) q ay⟩
 case dt=>obtain⟨a,ks,e,f,_,q⟩:=ax;exact⟨a,e,wY (.inl f) q ay⟩
 case fk=>obtain⟨a,ks,e,f,q⟩:=ax;exact⟨a,e,wX (.inr f) q ay⟩
 case ft=>obtain⟨a,ks,e,f,q⟩:=ax;exact⟨a,e,wY (.inr f) q ay⟩
def aX:R3
 | .tup ws,.int i,M,R=>∃w,cX ws i=some w/\R w M
 | .rl ws,.int i,M,R=>∃w,cX ws i=some w/\R w M
 | .sc ws,.int i,M,R=>∃w,cX ws i=some w/\R w M
 | .dk kvs,y,M,R=>∃w,e9 M (.dk kvs) y (some w)/\R w M
 | .dt kvs,y,M,R=>∃w,e9 M (.dt kvs) y (some w)/\R w M
 | .fk kvs,y,M,R=>∃w,e9 M (.fk kvs) y (some w)/\R w M
 | .ft kvs,y,M,R=>∃w,e9 M (.ft kvs) y (some w)/\R w M
 | .str z,.int i,M,R=>z.length<=Ap/\∃c,cX z.cps.toList i=some c/\R (.str ⟨#[c]⟩) M
 | .ref a,.int i,M,R=>(∃ws w,M a=some (.lst ws)/\cX ws i=some w/\R w M)\/∃w,e9 M (.ref a) (.int i) (some w)/\R w M
 | .ref a,y,M,R=>∃w,e9 M (.ref a) y (some w)/\R w M
 | _,_,_,_=>False
theorem wZ{K:Ab}{H:Hp}{M:Mm}{vs:List V}{ws:List W}{i:Int}{w:W}(q:aL K H M vs ws)(h:cX ws i=some w):∃v,cX vs i=some v/\AV K H M v w:=by
 unfold cX at h⊢;rw[q.length];cases e:iR ws.length i with
 | none=>rw[e]at h;cases h
 | some j=>
  rw[e]at h;exact q.getW (i:=j) h
theorem V2(hu:X.A.units+1<Fo):i4 X (λx y H Q=>∃a v,x=.ref a/\g8 H a y (some v)/\Q v H):=by
 intro value slice pins s Z H x y v u Q I rx ry h hs;obtain⟨a,z,rfl,g,q⟩:=h;cases rx;exact tail_any (T7 I g) PySem.F.slot_dict_getitem.lookup (T1 hu I g ry λw' s3 I3 rw'=>⟨z,H,I3,rw',q⟩) hs
theorem V3{P:W->W->Prop}{M:Mm}{R:K3}(c1:∀ws i w,cX ws i=some w->R w M->P (.tup ws) (.int i))(c2:∀ws i w,cX ws i=some w->R w M->P (.sc ws) (.int i))(c3:∀x ws i w,k9 M x ws->cX ws i=some w->R w M->P x (.int i))(c4:∀z i,z.length<=Ap/\(∃c,cX z.cps.toList i=some c/\R (.str ⟨#[c]⟩) M)->P (.str z) (.int i))(c5:∀x y w,e9 M x y (some w)->R w M->P x y)(x y:W)(h:aX x y M R):P x y:=by
 cases x
 case non|bl|int|ty=>exact(show False from h).elim
 case dk|dt|fk|ft=>exact h.elim λw h=>c5 _ _ _ h.1 h.2
 all_goals cases y<;>first|exact(show False from h).elim|skip
 case tup.int=>obtain⟨w,e,r⟩:=h;exact c1 _ _ _ e r
 case sc.int=>obtain⟨w,e,r⟩:=h;exact c2 _ _ _ e r
 case rl.int=>obtain⟨w,e,r⟩:=h;exact c3 _ _ _ _ rfl e r
 case str.int=>exact c4 _ _ h
 case ref.int=>exact h.elim (λ⟨ws,w,e,e2,r⟩=>c3 _ _ _ _ e e2 r) λ⟨w,e,r⟩=>c5 _ _ _ e r
 all_goals obtain⟨w,e,r⟩:=h;exact c5 _ _ _ e r
theorem V4(hu:X.A.units+1<Fo):i4 X (cJ X.K aX):=VO (SM.or (SN.or (SO.or (V2 hu)))) λx y H Q M R am k=>V3
 (λws i w h r ax ay=>ax.tupE λa xs e f q=>let ⟨z,e3,av⟩:=wZ q h;.inr (.inl ⟨a,xs,i,z,e,ay.inv,bU.of f,e3,k.at am av r⟩))
 (λws i w h r ax ay=>ax.scE λa xs e f q=>let ⟨z,e3,av⟩:=wZ q h;.inl ⟨a,xs,i,z,e,ay.inv,f.sq,e3,k.at am av r⟩)
 (λwx ws i w h1 h r ax ay=>let ⟨a,xs,e,f,q⟩:=lT am ax h1;let ⟨z,e3,av⟩:=wZ q h;.inl ⟨a,xs,i,z,e,ay.inv,bH.of f,e3,k.at am av r⟩)
 (λz i h ax ay=>let ⟨c,e,r⟩:=h.2;.inr (.inr (.inl ⟨z,i,c,ax.inv,ay.inv,h.1,e,k.at am (.str _) r⟩)))
 (λwx wy w g r ax ay=>.inr (.inr (.inr (by
  obtain⟨a,e,g⟩:=sL am ax ay g;rcases g with⟨z,_⟩|⟨z,w',e',g',av⟩
  .cases z
  .exact⟨a,z,e,g',k.at am av (by rw[<-Cj e'];exact r)⟩))))
variable {a b:Expr}{ta tb:aY}{pos:Pos}
theorem bA(hu:X.A.units+1<Fo)(ha:E3 X a ta)(hb:E3 X b tb)(hs:EE b:=by exact λ_ _=>rfl):E3 X (.Subscript a b pos) (aF aX ta tb):=(SF (V4 hu) ha hb hs).weak λ_ _ _ h=>sF h
def fX(ws:List W)(lo hi:Option Int):List W:=(ws.drop (HT.sIx ws.length 0 lo)).take (HT.sIx ws.length ws.length hi-HT.sIx ws.length 0 lo)
def FY:W->Option Int->Option Int->Mm->K3->Prop
 | .rl ws,lo,hi,M,R=>aZ (fX ws lo hi) M R
 | .sc ws,lo,hi,M,R=>aZ (fX ws lo hi) M R
 | .ref a,lo,hi,M,R=>∃ws,M a=some (.lst ws)/\aZ (fX ws lo hi) M R
 | .tup ws,lo,hi,M,R=>¬(HT.sIx ws.length 0 lo=0/\HT.sIx ws.length ws.length hi=ws.length)/\R (.tup (fX ws lo hi)) M
 | _,_,_,_,_=>False
theorem sM{K:Ab}{H:Hp}{M:Mm}{vs:List V}{ws:List W}{lo hi:Option Int}(q:aL K H M vs ws):aL K H M (lO vs lo hi) (fX ws lo hi):=by
 unfold lO fX;rw[q.length];exact(q.drop _).take _
def V5(K:Ab)(r:W->Option Int->Option Int->Mm->K3->Prop):V->Option Int->Option Int->Hp->VK->Prop:=λx lo hi H Q=>∃wx M R,AM K H M/\AV K H M x wx/\r wx lo hi M R/\Up K H M R Q
theorem V6:rY X (V5 X.K FY):=by
 rintro pins s Z H x v vl vu lo hi sl Q I rx hs pl pu ⟨wx,M,R,am,ax,h,k⟩;cases wx<;>first|exact(show False from h).elim|skip
 case tup ws=>exact ax.tupE λa xs e f q=>SA pins s Z H _ v vl vu lo hi sl Q I rx hs pl pu ⟨a,xs,e,bU.of f,by rw[q.length];exact h.1,λp hp=>laidT am k hp (sM q) h.2⟩
 case sc ws=>exact ax.scE λa xs e f q=>vV pins s Z H _ v vl vu lo hi sl Q I rx hs pl pu ⟨a,xs,e,f.sq,λp hp=>iJ am k hp (sM q) h⟩
 case rl ws=>exact ax.rlE λa xs e f q=>vV pins s Z H _ v vl vu lo hi sl Q I rx hs pl pu ⟨a,xs,e,bH.of f,λp hp=>iJ am k hp (sM q) h⟩
 case ref a=>
  obtain⟨ws,e,r⟩:=h;exact am.lstE e λvs f q=>vV pins s Z H _ v vl vu lo hi sl Q I rx hs pl pu ⟨a,vs,ax.inv,bH.of f,λp hp=>iJ am k hp (sM q) r⟩
abbrev oB:=S3->Mm->(Option Int->Mm->Prop)->Prop
def oC(K:Ab)(t:oB):TO:=λZ H Q=>∃(τ:S3) (M:Mm) (R:Option Int->Mm->Prop),AS K H M Z τ/\AM K H M/\t τ M R/\∀o H' M',Kp H M H' M'->AM K H' M'->R o M'->Q o H'
theorem oC.el{K:Ab}{H:Hp}{Z:SV}{C:Prop}{t:oB}{Q:Option Int->Hp->Prop}(h:oC K t Z H Q)(c:∀τ M R,AS K H M Z τ->AM K H M->t τ M R->(∀o H' M',Kp H M H' M'->AM K H' M'->R o M'->Q o H')->C):C:=by obtain⟨τ,M,R,a,b,h,k⟩:=h;exact c τ M R a b h k
def nB:oB:=λ_ M Q=>Q none M
def oE(t:aY):oB:=λτ M Q=>t τ M λx M1=>∃i,x=.int i/\Q (some i) M1
theorem p7:PO X none (oC X.K nB):=R5.weak λZ H Q z0=>z0.el λτ M R as am h k=>k none H M (Kp.refl am) am h
theorem p8(h:E3 X a ta):PO X (some a) (oC X.K (oE ta)):=(R6 h).weak λZ H Q z0=>z0.el λτ M R as am h k=>⟨τ,M,_,as,am,h,λx H1 wx M1 k1 am1 ax ⟨i,e,h1⟩=>by
 subst e;exact⟨i,ax.inv,k _ _ _ k1 am1 h1⟩⟩
def fJ:W->Bool
 | .non=>true
 | .bl _=>true
 | .int _=>true
 | .str _=>true
 | _=>false
def w4:W->W->Bool
 | .non,.non=>true
 | .bl a,.bl b=>a==b
 | .bl a,.int b=>(if a then 1 else 0)==b
 | .int a,.bl b=>a==(if b then 1 else 0)
 | .int a,.int b=>a==b
 | .str a,.str b=>a==b
 | _,_=>false
def inW(x:W)(ws:List W):Bool:=ws.any λy=>w4 y x
theorem AV.flat{K:Ab}{H:Hp}{M:Mm}{v:V}{w:W}(h:AV K H M v w)(f:fJ w=true):kB v=true:=by cases h<;>first|rfl|exact f
def w5:W->V
 | .non=>.non
 | .bl b=>.bl b
 | .int i=>.int i
 | .str x=>.str x
 | _=>.non
theorem AV.flv{K:Ab}{H:Hp}{M:Mm}{v:V}{w:W}(h:AV K H M v w)(f:fJ w=true):v=w5 w:=by
 cases w<;>first|exact h.inv|exact absurd f Av
theorem V7:∀{w z:W},fJ w=true->fJ z=true->kC (w5 w) (w5 z)=w4 w z:=by
 intro w z f g;cases w<;>first|exact absurd f Av|(cases z<;>first|rfl|exact absurd g Av)
theorem AV.eq{K:Ab}{H:Hp}{M:Mm}{v u:V}{w z:W}(h:AV K H M v w)(h2:AV K H M u z)(f:fJ w=true)(f2:fJ z=true):kC v u=w4 w z:=by
 rw[h.flv f,h2.flv f2];exact V7 f f2
theorem aL.inn{K:Ab}{H:Hp}{M:Mm}{u:V}{z:W}(hz:AV K H M u z)(fz:fJ z=true):∀{vs:List V} {ws:List W},aL K H M vs ws->ws.all fJ=true->vs.all kB=true/\inV u vs=inW z ws
 | _,_,.nil,_=>⟨rfl,rfl⟩
 | _,_,.cons x r,f=>by
  rw[Jz,Cw]at f;obtain⟨h1,h2⟩:=aL.inn hz fz r f.2;refine⟨by rw[Jz,x.flat f.1,h1];rfl,?_⟩;unfold inV inW at h2⊢;rw[Ei,Ei,h2,x.eq hz f.1 fz]
def occ(i j:Str):Bool:=!(Kr j i 0 j.length 1).isEmpty
def rIn(neg:Bool):R3
 | .str i,.str j,M,R=>R (.bl (if neg then !occ i j else occ i j)) M
 | x,.tup ws,M,R=>fJ x=true/\ws.all fJ=true/\R (.bl (if neg then !inW x ws else inW x ws)) M
 | x,.rl ws,M,R=>fJ x=true/\ws.all fJ=true/\R (.bl (if neg then !inW x ws else inW x ws)) M
 | x,.ref a,M,R=>(∃ws,M a=some (.lst ws)/\fJ x=true/\ws.all fJ=true/\R (.bl (if neg then !inW x ws else inW x ws)) M)\/∃o,e9 M (.ref a) x o/\R (.bl (if neg then !o.isSome else o.isSome)) M
 | x,.dk kvs,M,R=>∃o,e9 M (.dk kvs) x o/\R (.bl (if neg then !o.isSome else o.isSome)) M
 | x,.dt kvs,M,R=>∃o,e9 M (.dt kvs) x o/\R (.bl (if neg then !o.isSome else o.isSome)) M
 | x,.fk kvs,M,R=>∃o,e9 M (.fk kvs) x o/\R (.bl (if neg then !o.isSome else o.isSome)) M
 | x,.ft kvs,M,R=>∃o,e9 M (.ft kvs) x o/\R (.bl (if neg then !o.isSome else o.isSome)) M
 | _,_,_,_=>False
def FZ(M:Mm):W->List W->Prop
 | .tup ws,zs=>ws=zs
 | x,ws=>k9 M x ws
theorem F0{K:Ab}{H:Hp}{M:Mm}{v:V}{w:W}{ws:List W}(am:AM K H M)(h:AV K H M v w)(e:FZ M w ws):∃a xs,v=.ref a/\(bH K H a xs\/bU K H a xs)/\aL K H M xs ws:=by
 cases w
 case tup zs=>exact h.tupE λa xs e1 f q=>⟨_,_,e1,.inr (bU.of f),by rw[<-show zs=ws from e];exact q⟩
 case ref|rl=>obtain⟨a,xs,e1,f,q⟩:=lT am h e;exact⟨a,xs,e1,.inl (bH.of f),q⟩
 all_goals exact(show False from e).elim
theorem F1{n:Bool}{P:W->W->Prop}{M:Mm}{R:K3}(c1:∀i j,R (.bl (if n then !occ i j else occ i j)) M->P (.str i) (.str j))(c2:∀x y ws,FZ M y ws->fJ x=true/\ws.all fJ=true/\R (.bl (if n then !inW x ws else inW x ws)) M->P x y)(c3:∀x y o,e9 M y x o->R (.bl (if n then !o.isSome else o.isSome)) M->P x y)(x y:W)(h:rIn n x y M R):P x y:=by
 cases y
 case non|bl|int|ty|sc=>exfalso;cases x<;>exact h
 case str=>cases x<;>first|exact(show False from h).elim|exact c1 _ _ h
 case tup=>exact c2 _ _ _ rfl (by cases x<;>exact h)
 case rl=>exact c2 _ _ _ rfl (by cases x<;>exact h)
 case ref a=>
  have h:(∃ws,M a=some (.lst ws)/\fJ x=true/\ws.all fJ=true/\R (.bl (if n then !inW x ws else inW x ws)) M)\/∃o,e9 M (.ref a) x o/\R (.bl (if n then !o.isSome else o.isSome)) M:=by cases x<;>exact h
  exact h.elim (λ⟨ws,e,h⟩=>c2 _ _ _ e h) λ⟨o,g,r⟩=>c3 _ _ _ g r
 case dk kvs=>have h:∃o,e9 M (.dk kvs) x o/\R (.bl (if n then !o.isSome else o.isSome)) M:=(by cases x<;>exact h);exact h.elim λo h=>c3 _ _ _ h.1 h.2
 case dt kvs=>have h:∃o,e9 M (.dt kvs) x o/\R (.bl (if n then !o.isSome else o.isSome)) M:=(by cases x<;>exact h);exact h.elim λo h=>c3 _ _ _ h.1 h.2
 case fk kvs=>have h:∃o,e9 M (.fk kvs) x o/\R (.bl (if n then !o.isSome else o.isSome)) M:=(by cases x<;>exact h);exact h.elim λo h=>c3 _ _ _ h.1 h.2
 case ft kvs=>have h:∃o,e9 M (.ft kvs) x o/\R (.bl (if n then !o.isSome else o.isSome)) M:=(by cases x<;>exact h);exact h.elim λo h=>c3 _ _ _ h.1 h.2
def F5(n:Bool):R2:=λx y H Q=>∃a o,y=.ref a/\g8 H a x o/\Q (.bl (if n then !o.isSome else o.isSome)) H
theorem V8(hu:X.A.units+1<Fo):a9 X (Cq .In) (F5 false):=by
 rintro pins s Z H x y v u Q I rx ry ⟨a,o,rfl,g,q⟩;cases ry;exact T2 hu I g rx λs3 I3=>⟨.bl _,H,I3,rfl,q⟩
theorem V9(hu:X.A.units+1<Fo):a9 X (Cq .NotIn) (F5 true):=by
 rintro pins s Z H x y v u Q I rx ry ⟨a,o,rfl,g,q⟩;cases ry;exact T4 hu I g rx λs3 I3=>⟨.bl _,H,I3,rfl,q⟩
theorem F6{K:Ab}{H:Hp}{M:Mm}{x y:V}{wx wy:W}{o:Option W}(am:AM K H M)(ax:AV K H M x wx)(ay:AV K H M y wy)(h:e9 M wx wy o):∃a o',x=.ref a/\g8 H a y o'/\o'.isSome=o.isSome:=by
 obtain⟨a,e,⟨rfl,g⟩|⟨v,w,rfl,g,_⟩⟩:=sL am ax ay h
 .exact⟨a,_,e,g,rfl⟩
 .exact⟨a,_,e,g,rfl⟩
theorem lX(hu:X.A.units+1<Fo):a9 X (Cq .In) (cJ X.K (rIn false)):=jQ (QO.or (S6.or (V8 hu))) λx y H Q M R am k=>F1
 (λi j h ax ay=>.inl ⟨i,j,ax.inv,ay.inv,k.at am (.bl _) h⟩)
 (λwx wy ws e h ax ay=>let ⟨a,xs,e1,f,q⟩:=F0 am ay e;.inr (.inl ⟨a,xs,e1,f,ax.flat h.1,(aL.inn ax h.1 q h.2.1).1,by rw[(aL.inn ax h.1 q h.2.1).2];exact k.at am (.bl _) h.2.2⟩))
 (λwx wy o g r ax ay=>let ⟨a,o',e,g,z⟩:=F6 am ay ax g;.inr (.inr ⟨a,o',e,g,by rw[z];exact k.at am (.bl _) r⟩))
theorem p9(hu:X.A.units+1<Fo):a9 X (Cq .NotIn) (cJ X.K (rIn true)):=jQ (QS.or (S7.or (V9 hu))) λx y H Q M R am k=>F1
 (λi j h ax ay=>.inl ⟨i,j,ax.inv,ay.inv,k.at am (.bl _) h⟩)
 (λwx wy ws e h ax ay=>let ⟨a,xs,e1,f,q⟩:=F0 am ay e;.inr (.inl ⟨a,xs,e1,f,ax.flat h.1,(aL.inn ax h.1 q h.2.1).1,by rw[(aL.inn ax h.1 q h.2.1).2];exact k.at am (.bl _) h.2.2⟩))
 (λwx wy o g r ax ay=>let ⟨a,o',e,g,z⟩:=F6 am ay ax g;.inr (.inr ⟨a,o',e,g,by rw[z];exact k.at am (.bl _) r⟩))
def dQ:List W->Mm->K3->Prop
 | [.tup ws],M,R=>R (.int ws.length) M
 | [.rl ws],M,R=>R (.int ws.length) M
 | [.sc ws],M,R=>R (.int ws.length) M
 | [.dk kvs],M,R=>R (.int kvs.length) M
 | [.str z],M,R=>z.length<=Ap/\R (.int z.length) M
 | [.ref a],M,R=>(∃ws,M a=some (.lst ws)/\R (.int ws.length) M)\/∃kvs,M a=some (.dK kvs)/\R (.int kvs.length) M
 | _,_,_=>False
theorem WA{P:List W->Prop}{M:Mm}{R:K3}(c1:∀ws,R (.int ws.length) M->P [.tup ws])(c2:∀ws,R (.int ws.length) M->P [.sc ws])(c3:∀x ws,k9 M x ws->R (.int ws.length) M->P [x])(c4:∀z,z.length<=Ap/\R (.int z.length) M->P [.str z])(c5:∀kvs,R (.int kvs.length) M->P [.dk kvs])(c6:∀a kvs,M a=some (.dK kvs)->R (.int kvs.length) M->P [.ref a])(l:List W)(h:dQ l M R):P l:=by
 match l,h with
 | [.tup _],h=>exact c1 _ h
 | [.rl _],h=>exact c3 _ _ rfl h
 | [.sc _],h=>exact c2 _ h
 | [.dk _],h=>exact c5 _ h
 | [.str _],h=>exact c4 _ h
 | [.ref _],h=>exact h.elim (λ⟨ws,e,r⟩=>c3 _ _ e r) λ⟨ws,e,r⟩=>c6 _ _ e r
theorem eF:b7 X (.builtin "len") (e8 X.K dQ):=wQ (S8.or (S9.or UK)) λxs H Q M R am k=>WA
 (λws h ax=>ax.oneE λv e1 av=>av.tupE λa us e f q=>.inl ⟨_,_,iI e1 e,.inr (bU.of f),by rw[q.length];exact k.at am (.int _) h⟩)
 (λws h ax=>ax.oneE λv e1 av=>av.scE λa us e f q=>.inl ⟨_,_,iI e1 e,.inl f.sq,by rw[q.length];exact k.at am (.int _) h⟩)
 (λx ws e0 h ax=>ax.oneE λv e1 av=>let ⟨a,us,e,f,q⟩:=lT am av e0;.inl ⟨_,_,iI e1 e,.inl (bH.of f),by rw[q.length];exact k.at am (.int _) h⟩)
 (λz h ax=>ax.oneE λv e1 av=>.inr (.inl ⟨z,iI e1 av.inv,h.1,k.at am (.int _) h.2⟩))
 (λkvs h ax=>ax.oneE λv e1 av=>let ⟨a,ks,e,f,_,q⟩:=av.inv;.inr (.inr ⟨a,ks,iI e1 e,f,by rw[Dr q];exact k.at am (.int _) h⟩))
 (λa kvs e0 h ax=>ax.oneE λv e1 av=>let ⟨ks,f,q⟩:=am _ _ e0;.inr (.inr ⟨a,ks,iI e1 av.inv,f,by rw[Dr q];exact k.at am (.int _) h⟩))
def w6:List W->Mm->K3->Prop
 | [.tup ws],M,R=>aZ ws M R
 | [.rl ws],M,R=>aZ ws M R
 | [.sc ws],M,R=>aZ ws M R
 | [.dk kvs],M,R=>aZ (kvs.map λkv=>wK kv.1) M R
 | [.ref a],M,R=>(∃ws,M a=some (.lst ws)/\aZ ws M R)\/∃kvs,M a=some (.dK kvs)/\aZ (kvs.map λkv=>wK kv.1) M R
 | _,_,_=>False
theorem F7{K:Ab}{H:Hp}{M:Mm}{ks:List (aC×V)}{kvs:List (aC×W)}(h:bJ K H M aC ks kvs):aL K H M (ks.map λkv=>kV kv.1) (kvs.map λkv=>wK kv.1):=by
 induction h with
 | nil=>exact .nil
 | @cons p q ps qs r t ih=>
  refine .cons ?_ ih;show AV K H M (kV p.1) (wK q.1);rw[r.1];cases q.1 with
  | inl i=>exact .int i
  | inr x=>exact .str x
theorem WB{P:List W->Prop}{M:Mm}{R:K3}(c1:∀ws,aZ ws M R->P [.tup ws])(c2:∀ws,aZ ws M R->P [.sc ws])(c3:∀x ws,k9 M x ws->aZ ws M R->P [x])(c5:∀kvs:List (aC×W),aZ (kvs.map λkv=>wK kv.1) M R->P [.dk kvs])(c6:∀a kvs,M a=some (.dK kvs)->aZ (kvs.map λkv=>wK kv.1) M R->P [.ref a])(l:List W)(h:w6 l M R):P l:=by
 match l,h with
 | [.tup _],h=>exact c1 _ h
 | [.rl _],h=>exact c3 _ _ rfl h
 | [.sc _],h=>exact c2 _ h
 | [.dk _],h=>exact c5 _ h
 | [.ref _],h=>exact h.elim (λ⟨ws,e,r⟩=>c3 _ _ e r) λ⟨ws,e,r⟩=>c6 _ _ e r
theorem F8(hc:X.calm=true):b7 X (.type "list") (e8 X.K w6):=wQ (TC.or (U1 hc)) λxs H Q M R am k=>WB
 (λws h ax=>ax.oneE λv e1 av=>av.tupE λa us e f q=>.inl ⟨_,_,iI e1 e,.inr (bU.of f),λp hp=>iJ am k hp q h⟩)
 (λws h ax=>ax.oneE λv e1 av=>av.scE λa us e f q=>.inl ⟨_,_,iI e1 e,.inl f.sq,λp hp=>iJ am k hp q h⟩)
 (λx ws e0 h ax=>ax.oneE λv e1 av=>let ⟨a,us,e,f,q⟩:=lT am av e0;.inl ⟨_,_,iI e1 e,.inl (bH.of f),λp hp=>iJ am k hp q h⟩)
 (λkvs h ax=>ax.oneE λv e1 av=>let ⟨a,ks,e,f,_,q⟩:=av.inv;.inr ⟨a,ks,iI e1 e,f,λp hp=>iJ am k hp (F7 q) h⟩)
 (λa kvs e0 h ax=>ax.oneE λv e1 av=>let ⟨ks,f,q⟩:=am _ _ e0;.inr ⟨a,ks,iI e1 av.inv,f,λp hp=>iJ am k hp (F7 q) h⟩)
def w9:List W->Mm->K3->Prop
 | [.tup ws],M,R=>R (.tup ws) M
 | [.rl ws],M,R=>R (.tup ws) M
 | [.ref a],M,R=>∃ws,M a=some (.lst ws)/\R (.tup ws) M
 | _,_,_=>False
theorem WC{P:List W->Prop}{M:Mm}{R:K3}(c1:∀ws,R (.tup ws) M->P [.tup ws])(c3:∀x ws,k9 M x ws->R (.tup ws) M->P [x])(l:List W)(h:w9 l M R):P l:=by
 match l,h with
 | [.tup _],h=>exact c1 _ h
 | [.rl _],h=>exact c3 _ _ rfl h
 | [.ref _],h=>exact h.elim λws h=>c3 _ _ h.1 h.2
theorem WD:b7 X (.type "tuple") (e8 X.K w9):=wQ TF λxs H Q M R am k=>WC
 (λws h ax=>ax.oneE λv e1 av=>av.tupE λa us e f q=>⟨_,_,iI e1 e,.inr ⟨bU.of f,k.at am (by rw[<-e];exact av) h⟩⟩)
 (λx ws e0 h ax=>ax.oneE λv e1 av=>let ⟨a,us,e,f,q⟩:=lT am av e0;⟨_,_,iI e1 e,.inl ⟨bH.of f,λp hp=>laidT am k hp q h⟩⟩)
def sN:List W->Mm->K3->Prop
 | [.int i,.int j],M,R=>R (.int (if j<i then j else i)) M
 | _,_,_=>False
theorem WE(hc:X.calm=true):b7 X (.builtin "min") (e8 X.K sN):=by
 rintro pins s Z H xs us Q I rs ⟨ws,M,R,am,axs,h,k⟩
 match ws,h with
 | [.int i,.int j],h=>
  obtain⟨v,u,rfl,av,au⟩:=axs.two;cases av;cases au;exact QZ hc pins s Z H _ us Q I rs ⟨i,j,rfl,k.at am (.int _) h⟩
def bools(bs:List Bool):List W:=bs.map W.bl
theorem aL.bools{K:Ab}{H:Hp}{M:Mm}:∀{bs:List Bool} {vs:List V},aL K H M vs (L3.bools bs)->vs=bs.map V.bl
 | [],_,h=>by cases h;rfl
 | b::r,_,h=>by
  cases h with
  | cons x y=>cases x;rw[aL.bools y];rfl
theorem aL.ints{K:Ab}{H:Hp}{M:Mm}:∀{bs:List Int} {vs:List V},aL K H M vs (bs.map W.int)->vs=bs.map V.int
 | [],_,h=>by cases h;rfl
 | b::r,_,h=>by
  cases h with
  | cons x y=>cases x;rw[aL.ints y];rfl
def xA:List W->Mm->K3->Prop
 | [.ref a],M,R=>∃bs,M a=some (.lst (bools bs))/\R (.bl (bs.all id)) M
 | [.rl ws],M,R=>∃bs,ws=bools bs/\R (.bl (bs.all id)) M
 | _,_,_=>False
theorem F9(hc:X.calm=true):b7 X (.builtin "all") (e8 X.K xA):=by
 rintro pins s Z H xs us Q I rs ⟨ws,M,R,am,axs,h,k⟩
 match ws,h with
 | [.ref a],h=>
  obtain⟨v,rfl,av⟩:=axs.one;cases av;obtain⟨bs,e,r⟩:=h;obtain⟨vs,f,q⟩:=am.lst e;rw[q.bools]at f;exact EX hc pins s Z H _ us Q I rs ⟨a,bs,rfl,bH.of f,k.at am (.bl _) r⟩
 | [.rl ws],h=>
  obtain⟨v,rfl,av⟩:=axs.one;obtain⟨bs,rfl,r⟩:=h;cases av with
  | rl f _ q=>
   rw[q.bools]at f;exact EX hc pins s Z H _ us Q I rs ⟨_,bs,rfl,bH.of f,k.at am (.bl _) r⟩
def fQ:W->List W->Mm->K3->Prop
 | .ref l,[y],M,R=>∃ws,M l=some (.lst ws)/\ws.length<Ap/\R .non (put M l (.lst (ws++[y])))
 | _,_,_,_=>False
theorem jS:iS X "list.append" (kZ X.K fQ):=by
 rintro pins s Z H x xs v us Q I rx rs ⟨wx,ws,M,R,am,ax,axs,h,k⟩
 match wx,ws,h with
 | .ref l,[y],h=>
  obtain⟨z,rfl,az⟩:=axs.one;cases ax;obtain⟨ws,e,hl,r⟩:=h;obtain⟨vs,f,q⟩:=am.lst e;exact EI pins s Z H _ _ v us Q I rx rs ⟨l,vs,z,rfl,rfl,f,by rw[q.length];exact hl,wM am k e (q.append (.cons az .nil)) .non r⟩
def rPop:W->List W->Mm->K3->Prop
 | .ref l,[],M,R=>∃ws w,M l=some (.lst (ws++[w]))/\R w (put M l (.lst ws))
 | _,_,_,_=>False
theorem GA:iS X "list.pop" (kZ X.K rPop):=by
 rintro pins s Z H x xs v us Q I rx rs ⟨wx,ws,M,R,am,ax,axs,h,k⟩
 match wx,ws,h with
 | .ref l,[],h=>
  cases axs;cases ax;obtain⟨ws,w,e,r⟩:=h;obtain⟨vs,f,q⟩:=am.lst e;have hl:=q.length;rw[Ar,Bz]at hl;obtain⟨z,hz,az⟩:=q.getW (i:=ws.length) (w:=w) (by simp);refine TQ pins s Z H _ _ v us Q I rx rs ⟨l,vs,z,rfl,rfl,f,by rw[hl];exact hz,wM am k e ?_ az r⟩;have:=q.dropLast;rw[List.dropLast_concat]at this;exact this
def sP:aY:=λ_ M R=>pV [] M R
def lA:aY:=λ_ M R=>jN [] M R
theorem xB:E3 X (.Dict [] [] pos) sP:=UC.weak λZ H Q ⟨τ,M,R,as,am,h,k⟩ p hp=>by
 obtain⟨am2,k2⟩:=am.laid (o:=.dK []) (u:=.dK []) hp ⟨[],cU,.nil⟩;exact k _ _ _ _ k2 am2 (.ref p) (h p (am.nonM hp))
theorem lY:E3 X (.Dict [] [] pos) lA:=UD.weak λZ H Q ⟨τ,M,R,as,am,h,k⟩ p hp=>by
 obtain⟨am2,k2⟩:=am.laid (o:=.dT []) (u:=.dT []) hp ⟨[],cU,.nil⟩;exact k _ _ _ _ k2 am2 (.ref p) (h p (am.nonM hp))
end
abbrev P3(X:Cx)(st:Stmt)(t:aH):Prop:=PS X st (pU X.K t)
abbrev jT(X:Cx)(st:List Stmt)(t:aH):Prop:=gB X st (pU X.K t)
abbrev eI:=W->S3->Mm->(S3->Mm->Prop)->Prop
abbrev lZ:=List W->S3->Mm->(S3->Mm->Prop)->Prop
def hV(K:Ab)(g:eI):TG:=λv Z H Q=>∃w τ M R,AV K H M v w/\AS K H M Z τ/\AM K H M/\g w τ M R/\iH K H M R Q
def oF(K:Ab)(g:lZ):jK:=λvs Z H Q=>∃ws τ M R,aL K H M vs ws/\AS K H M Z τ/\AM K H M/\g ws τ M R/\iH K H M R Q
theorem hV.el{K:Ab}{H:Hp}{Z:SV}{C:Prop}{t:eI}{v:V}{Q:SV->Hp->Prop}(h:hV K t v Z H Q)(c:∀w τ M R,AV K H M v w->AS K H M Z τ->AM K H M->t w τ M R->iH K H M R Q->C):C:=by obtain⟨w,τ,M,R,a,b,d,h,k⟩:=h;exact c w τ M R a b d h k
theorem oF.el{K:Ab}{H:Hp}{Z:SV}{C:Prop}{t:lZ}{v:List V}{Q:SV->Hp->Prop}(h:oF K t v Z H Q)(c:∀w τ M R,aL K H M v w->AS K H M Z τ->AM K H M->t w τ M R->iH K H M R Q->C):C:=by obtain⟨w,τ,M,R,a,b,d,h,k⟩:=h;exact c w τ M R a b d h k
section
variable {X:Cx}{pos:Pos}
theorem _root_.L2.PG.weak{e:Expr}{t t':TG}(h:PG X e t)(k:∀v Z H Q,t' v Z H Q->t v Z H Q):PG X e t':=λpins s Z H v u Q I r q=>h pins s Z H v u Q I r (k v Z H Q q)
theorem _root_.L2.i0.weak{e:List Expr}{t t':jK}(h:i0 X e t)(k:∀v Z H Q,t' v Z H Q->t v Z H Q):i0 X e t':=λpins s Z H v u Q I r q=>h pins s Z H v u Q I r (k v Z H Q q)
theorem iH.at{K:Ab}{H:Hp}{M:Mm}{R:S3->Mm->Prop}{Q:SV->Hp->Prop}(h:iH K H M R Q)(am:AM K H M){Z:SV}{τ:S3}(as:AS K H M Z τ)(r:R τ M):Q Z H:=h Z H τ M (Kp.refl am) am as r
def bC(i:Nat):eI:=λw τ M R=>R (τ.set i (some w)) M
theorem GB{i:Nat}{x:Str}(hN:X.N.Nodup)(hi:X.N[i]? = some x)(hx:Loc X.env.scope x)(hf:X.fn x=true\/X.env.scope.names.lookup x=some .local:=by first|exact .inl rfl|exact .inr rfl|assumption):PG X (.Name x pos) (hV X.K (bC i)):=
 (PB hN hi hx hf).weak λv Z H Q z0=>z0.el λw τ M R av as am h k=>k.at am (as.set av i) h
def jU:lZ:=λws τ M R=>ws=[]/\R τ M
def eS(t:eI)(u:lZ):lZ:=λws τ M R=>match ws with
 | w::r=>t w τ M λτ' M'=>u r τ' M' R
 | []=>False
theorem lB:i0 X [] (oF X.K jU):=PF.weak λvs Z H Q z=>z.el λws τ M R av as am h k=>⟨aL.nil_ (by rw[<-h.1];exact av),k.at am as h.2⟩
theorem fR{e:Expr}{es:List Expr}{t:eI}{u:lZ}(h1:PG X e (hV X.K t))(h2:i0 X es (oF X.K u))(hs:(Gr (e::es) X.env).map (·.2)=Mo e X.env::(Gr es X.env).map (·.2):=by rfl):i0 X (e::es) (oF X.K (eS t u)):=
 (PH h1 h2 hs).weak λvs Z H Q z0=>z0.el λws τ M R av as am h k=>by
  cases av with
  | nil=>exact(show False from h).elim
  | cons x r=>exact⟨_,_,rfl,_,τ,M,_,x,as,am,h,λσ' H' τ' M' k' am' as' h'=>⟨_,τ',M',R,r.kp am k',as',am',h',k.kp k'⟩⟩
def jV(n:Nat)(g:lZ):eI:=λw τ M R=>match w with
 | .tup ws=>ws.length=n/\g ws τ M R
 | .rl ws=>ws.length=n/\g ws τ M R
 | .ref a=>∃ws,M a=some (.lst ws)/\ws.length=n/\g ws τ M R
 | _=>False
theorem lC{es:List Expr}{k:Nat}{t:lZ}{n:Nat}(hc:X.calm=true)(h:i0 X es (oF X.K t))(hn:(Gr es X.env).length=n:=by rfl)(hst:(Gr es X.env).findIdx? (·.1)=none:=by rfl):PG X (.Tuple es k pos) (hV X.K (jV n t)):=by
 rintro pins s Z H v u Q I r ⟨w,τ,M,R,av,as,am,hw,kk⟩;cases w<;>first|exact(show False from hw).elim|skip
 case tup ws=>exact av.tupE λa xs e f q=>PK hc h hn hst pins s Z H _ u Q I r ⟨a,xs,e,bU.of f,by rw[q.length];exact hw.1,_,τ,M,R,q,as,am,hw.2,kk⟩
 case rl ws=>exact av.rlE λa xs e f q=>E1 hc h hn hst pins s Z H _ u Q I r ⟨a,xs,e,bH.of f,by rw[q.length];exact hw.1,_,τ,M,R,q,as,am,hw.2,kk⟩
 case ref a=>exact hw.elim λws hw=>am.lstE hw.1 λxs f q=>E1 hc h hn hst pins s Z H _ u Q I r ⟨a,xs,av.inv,bH.of f,by rw[q.length];exact hw.2.1,_,τ,M,R,q,as,am,hw.2.2,kk⟩
def iL(te:aY)(g:eI):aH:=λD τ M=>te τ M λx M1=>g x τ M1 D.nx
theorem WG{K:Ab}{te:aY}{g:eI}{D:kU}{Z:SV}{H:Hp}(h:pU K (iL te g) D Z H):rR (up K te) (hV K g) D Z H:=by
 obtain⟨τ,M,D',as,am,h,k⟩:=h;exact⟨τ,M,_,as,am,h,λx H1 wx M1 k1 am1 ax h1=>⟨wx,τ,M1,D'.nx,ax,as.kp am k1,am1,h1,k.nx.kp k1⟩⟩
theorem jW{tg e:Expr}{te:aY}{g:eI}(he:E3 X e te)(hg:PG X tg (hV X.K g))(hs:swapsWithSole [tg] e pos.line X.env=pure false:=by rfl)(hw:swappedStores [tg] e X.env=pure none:=by rfl)(h1:(Gr [tg] X.env).map (·.2)=[Mo tg X.env]:=by rfl):P3 X (.Assign [tg] e pos) (iL te g):=(PN he hg hs hw h1).weak λ_ _ _ h=>WG h
def bB(i:Nat)(te:aY):aH:=λD τ M=>te τ M λx M1=>D.nx (τ.set i (some x)) M1
theorem WH{i:Nat}{x:Str}{e:Expr}{te:aY}{pos':Pos}(hN:X.N.Nodup)(hi:X.N[i]? = some x)(hx:Loc X.env.scope x)(he:E3 X e te)(hs:Jt e (some (.Name x pos')) pos.line X.env=pure false:=by rfl)(hf:X.fn x=true\/X.env.scope.names.lookup x=some .local:=by first|exact .inl rfl|exact .inr rfl|assumption):
  P3 X (.Assign [.Name x pos'] e pos) (bB i te):=(PQ hN hi hx he hs hf).weak λD Z H z0=>z0.el λτ M D' as am h k=>⟨τ,M,_,as,am,h,λy H1 wy M1 k1 am1 ay h1=>k.nx _ _ _ _ k1 am1 ((as.kp am k1).set ay i) h1⟩
def qA(o i v:W)(M:Mm)(Q:Mm->Prop):Prop:=match o with
 | .ref a=>(∃ws k j,i=.int k/\M a=some (.lst ws)/\iR ws.length k=some j/\Q (put M a (.lst (ws.set j v))))\/
   (∃kvs k,i=wK k/\M a=some (.dK kvs)/\kvs.length<Ap/\Q (put M a (.dK (bS kvs k v))))\/
   ∃kvs k,i=.tup (k.map wK)/\M a=some (.dT kvs)/\kvs.length<Ap/\Q (put M a (.dT (bS kvs k v)))
 | _=>False
def WI(K:Ab):rP:=λo i v H Q=>∃wo wi wv M R,AV K H M o wo/\AV K H M i wi/\AV K H M v wv/\AM K H M/\qA wo wi wv M R/\∀H' M',Kp H M H' M'->AM K H' M'->R M'->Q H'
theorem set_dict(hu:X.A.units+1<Fo):rQ X (λo i v H Q=>∃a H',o=.ref a/\lR H a i v H'/\Q H'):=by
 intro pins s Z H o i v ov iv u Q I ro ri rv h;obtain⟨a,H',rfl,d,q⟩:=h;cases ro;exact T5 hu I d ri rv λs4 I4=>⟨H',I4,q⟩
theorem GC{U:Type}[DecidableEq U]{K:Ab}{H:Hp}{M:Mm}{ks:List (U×V)}{kvs:List (U×W)}{n:U}{v:V}{wv:W}{a:Addr}{o:MO}{u:HO}(am:AM K H M)(e:M a=some o)(q:bJ K H M U ks kvs)(av:AV K H M v wv){o':MO}:bJ K (aQ H a u) (put M a o') U (d5 ks n v) (bS kvs n wv):=Paired.mapP (p6 q n av) λp q z=>⟨z.1,z.2.wr am e⟩
theorem WJ(hu:X.A.units+1<Fo):rQ X (WI X.K):=by
 rintro pins s Z H o i v ov iv u Q I ro ri rv ⟨wo,wi,wv,M,R,ao,ai,av,am,h,k⟩;cases wo<;>first|exact(show False from h).elim|skip
 rename_i a;rcases h with⟨ws,n,j,ei,e,hj,r⟩|⟨kvs,n,ei,e,hl,r⟩|⟨kvs,n,ei,e,hl,r⟩
 .rw[ei]at ai;obtain⟨vs,f,q⟩:=am.lst e;obtain⟨am2,k2⟩:=am.write (o:=.lst (ws.set j wv)) (u:=.lst (vs.set j v)) e ⟨_,cU,(aL.set av j q).wr am e⟩;exact SW pins s Z H _ _ v ov iv u Q I ro ri rv ⟨a,vs,n,j,ao.inv,ai.inv,f,by rw[q.length];exact hj,k _ _ k2 am2 r⟩
 .rw[ei]at ai;obtain⟨ks,f,q⟩:=am _ _ e;obtain⟨am2,k2⟩:=am.write (o:=.dK (bS kvs n wv)) (u:=.dK (d5 ks n v)) e ⟨_,cU,GC am e q av⟩;exact set_dict hu pins s Z H _ _ v ov iv u Q I ro ri rv ⟨a,_,ao.inv,by rw[ai.key];exact lR.k f (by rw[Dr q];exact hl),k _ _ k2 am2 r⟩
 .rw[ei]at ai;obtain⟨ks,f,q⟩:=am _ _ e;obtain⟨am2,k2⟩:=am.write (o:=.dT (bS kvs n wv)) (u:=.dT (d5 ks n v)) e ⟨_,cU,GC am e q av⟩;exact ai.tupE λb xs eb fb qb=>set_dict hu pins s Z H _ _ v ov iv u Q I ro ri rv ⟨a,_,ao.inv,by rw[eb];exact lR.t f (by rw[<-qb.keys];exact fb) (by rw[Dr q];exact hl),k _ _ k2 am2 r⟩
def hZ(to ti:aY):eI:=λw τ M R=>to τ M λo M1=>ti τ M1 λi M2=>qA o i w M2 λM3=>R τ M3
theorem w_sub{o i:Expr}{to ti:aY}(hu:X.A.units+1<Fo)(ho:E3 X o to)(hi:E3 X i ti)(ha:∀v,Mo (.Subscript o i pos) X.env v=(do
   let ov <-Jn [v] (eval o X.env)
   let iv <-Jn [v,ov] (eval i X.env)
   Nl pos
   Jn [v,ov,iv] (setItem ov iv v)
   release [v,ov,iv] []):=by intro _;rfl):PG X (.Subscript o i pos) (hV X.K (hZ to ti)):=
 (PM ho hi (WJ hu) ha).weak λv Z H Q z0=>z0.el λw τ M R av as am h k=>⟨τ,M,_,as,am,h,λo H1 wo M1 k1 am1 ao h1=>⟨τ,M1,_,as.kp am k1,am1,h1,λi H2 wi M2 k2 am2 ai h2=>
  ⟨wo,wi,w,M2,_,ao.kp am1 k2,ai,(av.kp am k1).kp am1 k2,am2,h2,λH' M' k' am' r=>k _ _ _ _ ((k1.trans k2).trans k') am' (((as.kp am k1).kp am1 k2).kp am2 k') r⟩⟩⟩
def eU:aH:=λD τ M=>D.nx τ M
def aM(t u:aH):aH:=λD τ M=>t {D with nx:=u D} τ M
variable {st:Stmt}{rest:List Stmt}{t u:aH}{e:Expr}{te:aY}
theorem fS:jT X [] eU:=OZ.weak λD Z H z0=>z0.el λτ M D' as am h k=>k.nx.at am as h
theorem aR(h1:P3 X st t)(h2:jT X rest u):jT X (st::rest) (aM t u):=(O0 h1 h2).weak λD Z H z0=>z0.el λτ M D' as am h k=>
 ⟨τ,M,_,as,am,h,⟨λσ' H' τ' M' k' am' as' h'=>⟨τ',M',D',as',am',h',k.kp k'⟩,k.rt,k.bk,k.ct⟩⟩
theorem aT(h1:P3 X st t):jT X [st] t:=O1 h1
def dE(te:aY):aH:=λD τ M=>te τ M λ_ M1=>D.nx τ M1
theorem d6(he:E3 X e te)(hs:Jt e none pos.line X.env=pure false:=by rfl):P3 X (.Expr e pos) (dE te):=(O3 he hs).weak λD Z H z0=>z0.el λτ M D' as am h k=>
 ⟨τ,M,_,as,am,h,λv H' w M' k' am' av r=>k.nx _ _ _ _ k' am' (as.kp am k') r⟩
def cL(te:aY):aH:=λD τ M=>te τ M D.rt
theorem cS(he:E3 X e te):P3 X (.Return (some e) pos) (cL te):=(O5 he).weak λD Z H z0=>z0.el λτ M D' as am h k=>⟨τ,M,_,as,am,h,k.rt⟩
def xC:aH:=λD _ M=>D.rt .non M
theorem GD:P3 X (.Return none pos) xC:=O7.weak λD Z H z0=>z0.el λτ M D' as am h k=>k.rt.at am .non h
def dR(c:dD)(t u:aH):aH:=λD τ M=>c τ M λb M1=>if b=true then t D τ M1 else u D τ M1
theorem d7{c:Expr}{a b:List Stmt}{tc:dD}(hc:T3 X c tc)(ha:jT X a t)(hb:jT X b u):P3 X (.If c a b pos) (dR tc t u):=(O9 hc ha hb).weak λD Z H z0=>z0.el λτ M D' as am h k=>
 ⟨τ,M,_,as,am,h,λb H1 M1 k1 am1 h1=>by
  cases b with
  | true=>exact⟨τ,M1,D',as.kp am k1,am1,h1,k.kp k1⟩
  | false=>exact⟨τ,M1,D',as.kp am k1,am1,h1,k.kp k1⟩⟩
def oG(c:dD)(tb:aH):aH:=λD τ M=>∃Pv:Nat->S3->Mm->Prop,(∃m,Pv m τ M)/\∀m τ M,Pv m τ M->
 c τ M λb M1=>if b=true then tb {D with nx:=λτ' M'=>∃m' M'',m'<m/\Sub M'' M'/\Pv m' τ' M'',ct:=λτ' M'=>∃m' M'',m'<m/\Sub M'' M'/\Pv m' τ' M'',bk:=D.nx} τ M1 else D.nx τ M1
theorem sQ{c:Expr}{body:List Stmt}{tc:dD}{tb:aH}(hp:PassesOwn (Bw X.prog X.w) X.A X.env X.xe)(hc:T3 X c tc)(hb:jT X body tb):P3 X (.While c body [] pos) (oG tc tb):=
 (PV hp hc hb).weak λD Z H ⟨τ,M,D',as,am,⟨Pv,⟨m,h0⟩,h⟩,k⟩=>by
  refine⟨λm σ' H'=>∃τ' M',Kp H M H' M'/\AM X.K H' M'/\AS X.K H' M' σ' τ'/\Pv m τ' M',⟨m,τ,M,Kp.refl am,am,as,h0⟩,?_⟩;rintro m σ1 H1 ⟨τ1,M1,k1,am1,as1,p1⟩;refine⟨τ1,M1,_,as1,am1,h m τ1 M1 p1,λb H2 M2 k2 am2 h2=>?_⟩;cases b with
  | false=>exact k.nx _ _ _ _ (k1.trans k2) am2 (as1.kp am1 k2) h2
  | true=>
   have h2:tb {D' with nx:=λτ' M'=>∃m' M'',m'<m/\Sub M'' M'/\Pv m' τ' M'',ct:=λτ' M'=>∃m' M'',m'<m/\Sub M'' M'/\Pv m' τ' M'',bk:=D'.nx} τ1 M2:=h2;refine⟨λσ' H'=>∃m' τ' M',m'<m/\Kp H M H' M'/\AM X.K H' M'/\AS X.K H' M' σ' τ'/\Pv m' τ' M',λσ' H' ⟨m',τ',M',q1,q2,q3,q4,q5⟩=>⟨m',q1,τ',M',q2,q3,q4,q5⟩,τ1,M2,_,as1.kp am1 k2,am2,h2,?_⟩;have again:iH X.K H2 M2 (λτ' M'=>∃m' M'',m'<m/\Sub M'' M'/\Pv m' τ' M'') (λσ' H'=>∃m' τ' M',m'<m/\Kp H M H' M'/\AM X.K H' M'/\AS X.K H' M' σ' τ'/\Pv m' τ' M'):=
    λσ' H' τ' M' k' am' as' ⟨m',M'',q1,q2,q3⟩=>⟨m',τ',M'',q1,((k1.trans k2).trans k').sub q2,am'.sub q2,as'.sub q2,q3⟩
   exact⟨again,(k.rt.kp k1).kp k2,(k.nx.kp k1).kp k2,again⟩
abbrev h8:=S3->Mm->(List W->(Mm->Prop)->Mm->Prop)->Prop
structure iM(K:Ab)(H0:Hp)(M0:Mm)(J:It)(ws:List W)(keep:Mm->Prop):Prop where
 go:∀i H M,Kp H0 M0 H M->AM K H M->keep M->i<ws.length->J.go i H
 stop:∀H M,Kp H0 M0 H M->AM K H M->keep M->J.stop ws.length H
 yld:∀i H M x H',Kp H0 M0 H M->AM K H M->keep M->i<ws.length->J.yld i H x H'->∃w,ws[i]? = some w/\Kp H M H' M/\AM K H' M/\AV K H' M x w
def gS(K:Ab)(wi:h8):TI:=λZ H R'=>∃(τ:S3) (M:Mm) (R:List W->(Mm->Prop)->Mm->Prop),AS K H M Z τ/\AM K H M/\wi τ M R/\∀J H' ws keep M',Kp H M H' M'->AM K H' M'->iM K H' M' J ws keep->R ws keep M'->R' J H'
theorem gS.el{K:Ab}{H:Hp}{Z:SV}{C:Prop}{t:h8}{Q:It->Hp->Prop}(h:gS K t Z H Q)(c:∀τ M R,AS K H M Z τ->AM K H M->t τ M R->(∀J H' ws keep M',Kp H M H' M'->AM K H' M'->iM K H' M' J ws keep->R ws keep M'->Q J H')->C):C:=by obtain⟨τ,M,R,a,b,h,k⟩:=h;exact c τ M R a b h k
theorem _root_.L2.PI.weak{tg iter:Expr}{t t':TI}(h:PI X tg iter t)(k:∀Z H R,t' Z H R->t Z H R):PI X tg iter t':=λpins s Z H R I q=>h pins s Z H R I (k Z H R q)
def qB(ws:List W)(keep:Mm->Prop)(g:eI)(tb:aH)(D:D3)(τ:S3)(M:Mm):Prop:=
 ∃Pv:Nat->S3->Mm->Prop,Pv 0 τ M/\(∀i τ M,i<=ws.length->Pv i τ M->keep M)/\
  (∀i w τ M,ws[i]? = some w->Pv i τ M->g w τ M λτ2 M2=>tb {D with nx:=λτ' M'=>∃M'',Sub M'' M'/\Pv (i+1) τ' M'',ct:=λτ' M'=>∃M'',Sub M'' M'/\Pv (i+1) τ' M'',bk:=D.nx} τ2 M2)/\
  ∀τ M,Pv ws.length τ M->D.nx τ M
def c9(wi:h8)(g:eI)(tb:aH):aH:=λD τ M=>wi τ M λws keep M1=>qB ws keep g tb D τ M1
theorem dC{tg iter:Expr}{body:List Stmt}{wi:h8}{g:eI}{tb:aH}{pos:Pos}(hp:PassesOwn (Bw X.prog X.w) X.A X.env X.xe)(hc:X.calm=true)(hi:PI X tg iter (gS X.K wi))(hg:PG X tg (hV X.K g))(hb:jT X body tb)(hs:∀x,Hb iter X.env x=pure x:=by intro _;rfl):P3 X (.For tg iter body [] pos) (c9 wi g tb):=
 (P6 hp hc hi hg hb hs).weak λD Z H z0=>z0.el λτ M D' as am h k=>by
  refine⟨τ,M,_,as,am,h,λJ H1 ws keep M1 k1 am1 it ⟨Pv,h0,hk,hs,hd⟩=>?_⟩;refine⟨λi m σ' H'=>m=ws.length-i/\i<=ws.length/\∃τ' M',Kp H1 M1 H' M'/\AM X.K H' M'/\AS X.K H' M' σ' τ'/\Pv i τ' M',⟨_,rfl,Bf _,τ,M1,Kp.refl am1,am1,as.kp am k1,h0⟩,?_⟩;rintro i m σ2 H2 ⟨rfl,hi,τ2,M2,k2,am2,as2,p2⟩
  by_cases hlt:i<ws.length
  .refine .inr ⟨it.go i H2 M2 k2 am2 (hk i τ2 M2 hi p2) hlt,λσ' H'=>∃τ' M',Kp H1 M1 H' M'/\AM X.K H' M'/\AS X.K H' M' σ' τ'/\Pv (i+1) τ' M',λσ' H' q=>⟨ws.length-(i+1),by lia,rfl,hlt,q⟩,λx H3 y=>?_⟩;obtain⟨w,hw,k3,am3,ax⟩:=it.yld i H2 M2 x H3 k2 am2 (hk i τ2 M2 hi p2) hlt y;refine⟨w,τ2,M2,_,ax,as2.kp am2 k3,am3,hs i w τ2 M2 hw p2,λσ4 H4 τ4 M4 k4 am4 as4 h4=>⟨τ4,M4,_,as4,am4,h4,?_⟩⟩;have kk:=((k2.trans k3).trans k4);have again:iH X.K H4 M4 (λτ' M'=>∃M'',Sub M'' M'/\Pv (i+1) τ' M'') (λσ' H'=>∃τ' M',Kp H1 M1 H' M'/\AM X.K H' M'/\AS X.K H' M' σ' τ'/\Pv (i+1) τ' M'):=
    λσ' H' τ' M' k' am' as' ⟨M'',q2,q3⟩=>⟨τ',M'',(kk.trans k').sub q2,am'.sub q2,as'.sub q2,q3⟩
   exact⟨again,k.rt.kp (k1.trans kk),k.nx.kp (k1.trans kk),again⟩
  .have e:i=ws.length:=by lia
   subst e;exact .inl ⟨it.stop H2 M2 k2 am2 (hk _ τ2 M2 hi p2),k.nx _ _ _ _ (k1.trans k2) am2 as2 (hd τ2 M2 p2)⟩
theorem nC{ws:List W}{keep:Mm->Prop}{g:eI}{tb:aH}{D:D3}{τ:S3}{M:Mm}(Pv:Nat->S3->Mm->Prop)(h0:Pv 0 τ M)(hk:∀i τ M,i<=ws.length->Pv i τ M->keep M)(hs:∀i w τ M,ws[i]? = some w->Pv i τ M->g w τ M λτ2 M2=>tb {D with nx:=λτ' M'=>∃M'',Sub M'' M'/\Pv (i+1) τ' M'',ct:=λτ' M'=>∃M'',Sub M'' M'/\Pv (i+1) τ' M'',bk:=D.nx} τ2 M2)(hd:∀τ M,Pv ws.length τ M->D.nx τ M):qB ws keep g tb D τ M:=⟨Pv,h0,hk,hs,hd⟩
variable {tg l a b:Expr}{tl ta tb':aY}
theorem WK{K:Ab}{H0:Hp}{M0:Mm}{p:Addr}{ws:List W}:iM K H0 M0 (nU K p) ws λM=>M p=some (.lst ws) where
 go:=λi H M _ am e hi=>by
  obtain⟨vs,f,q⟩:=am.lst e;exact⟨vs,vs[i]'(by rw[q.length];exact hi),bH.of f,by simp⟩
 stop:=λH M _ am e=>by
  obtain⟨vs,f,q⟩:=am.lst e;exact⟨vs,bH.of f,by rw[q.length];exact Ag _⟩
 yld:=λi H M x H' _ am e hi y=>by
  obtain⟨rfl,y⟩:=y;obtain⟨vs,f,q⟩:=am.lst e;obtain⟨w,hw,av⟩:=q.getV (y vs (bH.of f));exact⟨w,hw,Kp.refl am,am,av⟩
theorem GF{K:Ab}{H0:Hp}{M0:Mm}{p:Addr}{vs:List V}{ws:List W}(am0:AM K H0 M0)(st:∀H M,Kp H0 M0 H M->bH K H p vs)(q0:aL K H0 M0 vs ws):iM K H0 M0 (nU K p) ws λ_=>True:=by
 refine⟨λi H M k am _ hi=>⟨vs,vs[i]'(by rw[q0.length];exact hi),st H M k,by simp⟩,λH M k am _=>⟨vs,st H M k,by rw[q0.length];exact Ag _⟩,λi H M x H' k am _ hi y=>?_⟩;obtain⟨rfl,y⟩:=y;obtain⟨w,hw,av⟩:=(q0.kp am0 k).getV (y vs (st _ M k));exact⟨w,hw,Kp.refl am,am,av⟩
theorem WL{K:Ab}{H0:Hp}{M0:Mm}{p:Addr}{vs:List V}{ws:List W}(am0:AM K H0 M0)(e:kY K H0 p vs)(q0:aL K H0 M0 vs ws):iM K H0 M0 (nU K p) ws λ_=>True:=
 GF am0 (λH M k=>by
  refine kY.sq ?_;rcases e with⟨o,e⟩|e
  .exact .inl ⟨o,(k.fr _ _ (am0.noFrz e) e).1⟩
  .exact .inr e) q0
theorem WM{K:Ab}{H0:Hp}{M0:Mm}{p:Addr}{vs:List V}{ws:List W}(am0:AM K H0 M0)(e:H0 p=some (.lst vs))(n:M0 p=none)(q0:aL K H0 M0 vs ws):iM K H0 M0 (nU K p) ws λ_=>True:=
 GF am0 (λH M k=>bH.of (k.fr _ _ n e).1) q0
theorem WN{K:Ab}{H0:Hp}{M0:Mm}{p:Addr}{vs:List V}{ws:List W}(am0:AM K H0 M0)(e:H0 p=some (.tup vs))(q0:aL K H0 M0 vs ws):iM K H0 M0 (vM K p) ws λ_=>True:=by
 have st:∀H M,Kp H0 M0 H M->bU K H p vs:=λH M k=>bU.of (k.fr _ _ (am0.noTup e) e).1;refine⟨λi H M k am _ hi=>⟨vs,vs[i]'(by rw[q0.length];exact hi),st H M k,by simp⟩,λH M k am _=>⟨vs,st H M k,by rw[q0.length];exact Ag _⟩,λi H M x H' k am _ hi y=>?_⟩;obtain⟨rfl,y⟩:=y;obtain⟨w,hw,av⟩:=(q0.kp am0 k).getV (y vs (st _ M k));exact⟨w,hw,Kp.refl am,am,av⟩
theorem WO{K:Ab}{H0:Hp}{M0:Mm}{lo:Int}{n:Nat}:iM K H0 M0 (rT lo n) ((Bp n).map λi=>W.int (lo+(i:Nat))) λ_=>True where
 go:=λi H M _ am _ hi=>by show i<n;simpa using hi
 stop:=λH M _ am _=>by show n<=_;simp
 yld:=λi H M x H' _ am _ hi y=>by
  obtain⟨rfl,rfl⟩:=y;have hi:i<n:=by simpa using hi
  exact⟨.int (lo+i),by simp[hi],Kp.refl am,am,.int _⟩
theorem WQ{K:Ab}{H0:Hp}{M0:Mm}{z:Str}:iM K H0 M0 (wD z) (z.cps.toList.map λc=>W.str ⟨#[c]⟩) λ_=>True where
 go:=λi H M _ am _ hi=>by show i<z.cps.size;simpa using hi
 stop:=λH M _ am _=>by show z.cps.size<=_;simp
 yld:=λi H M x H' _ am _ hi y=>by
  obtain⟨rfl,c,hc,rfl⟩:=y;exact⟨.str ⟨#[c]⟩,by rw[Ax,hc];rfl,Kp.refl am,am,.str _⟩
def l0(X:Cx)(tg:Expr)(r:V->Hp->(It->Hp->Prop)->Prop):Prop:=
 ∀(pins:List (Addr×Obj)) (s:Aj) (Z:SV) (H:Hp) (x:V) (u:Ae) (R:It->Hp->Prop),Inv X pins Z H s->RelV x u->r x H R->Bo (Bw X.prog X.w) X.A (pyIter u) (rS X pins Z tg R) X.xe s
theorem xD:l0 X tg (λx H R=>∃a,x=.ref a/\(∃xs,bH X.K H a xs)/\R (nU X.K a) H):=by
 rintro pins s1 Z H1 x u R I1 r1 ⟨a,rfl,⟨xs,hq⟩,q⟩;cases r1;obtain⟨its,rv,p,hz⟩:=I1.list hq;refine Ih p.isList ?_;refine⟨s1.heap.objs.size,[s1.heap.objs.size],_,_,H1,rfl,I1.kept (t':=s1.toks) λb o e=>Am _ e,PX a _,⟨_,Be _ rfl,rfl,rfl⟩,λb hb=>?_,q⟩;have e:b=s1.heap.objs.size:=by simpa using hb
 subst e;exact I1.fpOk (Ag _) (I1.hok.fresh (Ag _))
theorem WR:l0 X tg (λx H R=>∃a,x=.ref a/\(∃xs,bU X.K H a xs)/\R (vM X.K a) H):=by
 rintro pins s1 Z H1 x u R I1 r1 ⟨a,rfl,⟨xs,hq⟩,q⟩;cases r1;obtain⟨its,rv,p,hz⟩:=I1.tuple hq;refine Ls (show s1.heap.IsTuple a its.toArray from p) ?_;refine⟨s1.heap.objs.size,[s1.heap.objs.size],_,_,H1,rfl,I1.kept (t':=s1.toks) λb o e=>Am _ e,PY a _,⟨_,Be _ rfl,rfl,rfl⟩,λb hb=>?_,q⟩;have e:b=s1.heap.objs.size:=by simpa using hb
 subst e;exact I1.fpOk (Ag _) (I1.hok.fresh (Ag _))
theorem WS{x:Str}{px:Pos}:l0 X (.Name x px) (λx H R=>∃z,x=.str z/\R (wD z) H):=by
 rintro pins s1 Z H1 x u R I1 r1 ⟨z,rfl,q⟩;obtain⟨t,rfl⟩:=r1;have fp:∀b∈[s1.heap.objs.size],gZ X pins H1 b:=λb hb=>by
  have e:b=s1.heap.objs.size:=by simpa using hb
  subst e;exact I1.fpOk (Ag _) (I1.hok.fresh (Ag _))
 cases ha:z.cps.all (· < 128)
 .refine wpAny_pyIter_wide ha ?_;exact⟨s1.heap.objs.size,[s1.heap.objs.size],_,_,H1,rfl,I1.kept (t':=s1.toks) λb o e=>Am _ e,
   EY z _ "str_iterator" t (λA s i c Q E a b d=>wpAny_pyNext_wide_item a b d) (λA s i Q E a b c d=>wpAny_pyNext_wide_end a b c d) (λA i s Q E a b=>wpAny_pyIter_striter_wide a b),⟨_,Be _ rfl,rfl,rfl⟩,fp,q⟩
 .refine wpAny_pyIter_ascii ha ?_;exact⟨s1.heap.objs.size,[s1.heap.objs.size],_,_,H1,rfl,I1.kept (t':=s1.toks) λb o e=>Am _ e,
   EY z _ "str_ascii_iterator" t (λA s i c Q E a b d=>wpAny_pyNext_ascii_item a b d) (λA s i Q E a b c d=>wpAny_pyNext_ascii_end a b c d) (λA i s Q E a b=>wpAny_pyIter_striter_ascii a b),⟨_,Be _ rfl,rfl,rfl⟩,fp,q⟩
theorem _root_.L2.PI.of{r:V->Hp->(It->Hp->Prop)->Prop}{tl:TE}(hl:PE X l tl)(hr:l0 X tg r):PI X tg l (λZ H R=>tl Z H λx H1=>r x H1 R):=λpins s Z H R I h=>
 a8 (hl pins s Z H _ I h) λu s1 ⟨x,H1,I1,r1,q1⟩=>hr pins s1 Z H1 x u R I1 r1 q1
def sR(K:Ab)(r:W->Mm->(List W->(Mm->Prop)->Mm->Prop)->Prop):V->Hp->(It->Hp->Prop)->Prop:=λx H R'=>∃(wx:W) (M:Mm) (R:List W->(Mm->Prop)->Mm->Prop),AV K H M x wx/\AM K H M/\r wx M R/\
 ∀J H' ws keep M',Kp H M H' M'->AM K H' M'->iM K H' M' J ws keep->R ws keep M'->R' J H'
def l8:W->Mm->(List W->(Mm->Prop)->Mm->Prop)->Prop
 | .tup ws,M1,R=>R ws (λ_=>True) M1
 | .rl ws,M1,R=>R ws (λ_=>True) M1
 | .sc ws,M1,R=>R ws (λ_=>True) M1
 | .ref a,M1,R=>∃ws,M1 a=some (.lst ws)/\R ws (λM=>M a=some (.lst ws)) M1
 | _,_,_=>False
def d8:W->Mm->(List W->(Mm->Prop)->Mm->Prop)->Prop
 | .tup ws,M1,R=>R ws (λ_=>True) M1
 | .rl ws,M1,R=>R ws (λ_=>True) M1
 | .sc ws,M1,R=>R ws (λ_=>True) M1
 | .str z,M1,R=>R (z.cps.toList.map λc=>W.str ⟨#[c]⟩) (λ_=>True) M1
 | .ref a,M1,R=>∃ws,M1 a=some (.lst ws)/\R ws (λM=>M a=some (.lst ws)) M1
 | _,_,_=>False
theorem GG:l0 X tg (sR X.K l8):=by
 rintro pins s Z H x u R' I r1 ⟨wx,M,R,ax,am,h,k⟩;have k:=λJ ws keep=>k J H ws keep M (Kp.refl am) am;cases wx<;>first|exact(show False from h).elim|skip
 case tup ws=>exact ax.tupE λa xs e f q=>WR pins s Z H _ u R' I r1 ⟨a,e,⟨xs,bU.of f⟩,k _ _ _ (WN am f q) h⟩
 case rl ws=>obtain⟨a,xs,e,f,n,q⟩:=ax.inv;exact xD pins s Z H _ u R' I r1 ⟨a,e,⟨xs,bH.of f⟩,k _ _ _ (WM am f n q) h⟩
 case sc ws=>exact ax.scE λa xs e f q=>xD pins s Z H _ u R' I r1 ⟨a,e,⟨xs,f.sq⟩,k _ _ _ (WL am f q) h⟩
 case ref a=>exact h.elim λws h=>am.lstE h.1 λvs f q=>xD pins s Z H _ u R' I r1 ⟨a,ax.inv,⟨vs,bH.of f⟩,k _ _ _ WK h.2⟩
theorem WT{y:Str}{py:Pos}:l0 X (.Name y py) (sR X.K d8):=by
 rintro pins s Z H x u R' I r1 ⟨wx,M,R,ax,am,h,k⟩;cases wx<;>first|exact(show False from h).elim|skip
 case str z=>exact WS pins s Z H _ u R' I r1 ⟨z,ax.inv,k _ _ _ _ _ (Kp.refl am) am WQ h⟩
 all_goals exact GG pins s Z H x u R' I r1 ⟨_,M,R,ax,am,h,k⟩
def cC(r:W->Mm->(List W->(Mm->Prop)->Mm->Prop)->Prop)(tl:aY):h8:=λτ M R=>tl τ M λw M1=>r w M1 R
theorem xE{r:W->Mm->(List W->(Mm->Prop)->Mm->Prop)->Prop}(hl:E3 X l tl)(hr:l0 X tg (sR X.K r)):PI X tg l (gS X.K (cC r tl)):=(PI.of hl hr).weak λZ H R' z0=>z0.el λτ M R as am h k=>
 ⟨τ,M,_,as,am,h,λx H1 wx M1 k1 am1 ax h1=>⟨wx,M1,R,ax,am1,h1,λJ H' ws keep M' k' am' it r=>k J H' ws keep M' (k1.trans k') am' it r⟩⟩
theorem qC(hl:E3 X l tl):PI X tg l (gS X.K (cC l8 tl)):=xE hl GG
theorem fA{y:Str}{py:Pos}(hl:E3 X l tl):PI X (.Name y py) l (gS X.K (cC d8 tl)):=xE hl WT
def eV(lo:Int)(n:Nat):List W:=(Bp n).map λi=>W.int (lo+(i:Nat))
def jX(ta:dP):h8:=λτ M R=>ta τ M λws M1=>∃j:Int,ws=[.int j]/\-(2 ^ 62)<=j/\j<2 ^ 62/\R (eV 0 j.toNat) (λ_=>True) M1
theorem kH{tA:dP}{p pos:Pos}(hg:Gl X "range")(hm:X.mg "range" = none)(ha:A3 X [a] tA)(hs:Br [a] X.env=[(false,eval a X.env)]:=by rfl):PI X tg (.Call (.Name "range" p) [a] [] pos) (gS X.K (jX tA)):=
 (P2 hg hm ha hs).weak λZ H R' z0=>z0.el λτ M R as am h k=>⟨τ,M,_,as,am,h,λvs H1 ws M1 k1 am1 ax ⟨j,e,h1,h2,r⟩=>by
  rw[e]at ax;obtain⟨v,e,av⟩:=ax.one;exact⟨j,iI e av.inv,h1,h2,k _ _ _ _ _ k1 am1 WO r⟩⟩
def nD(ws:List W)(keep:Mm->Prop)(g:eI)(tt:dD)(te:aY)(τ₀:S3)(M1:Mm)(R:K3):Prop:=
 ∀p,M1 p=none->∃Pv:Nat->S3->List W->Mm->Prop,Pv 0 τ₀ [] M1/\(∀vs i τ acc M,i<=ws.length->M p=none->Pv i τ acc M->keep (put M p (.fix vs)))/\
  (∀vs i w τ acc M,ws[i]? = some w->M p=none->Pv i τ acc M->g w τ (put M p (.fix vs)) λτ2 M2=>tt τ2 M2 λb M3=>
   if b=true then te τ2 M3 λy M4=>M4 p=some (.fix vs)/\acc.length<Ap/\∃M5,Sub M5 (del M4 p)/\Pv (i+1) τ2 (acc++[y]) M5
   else M3 p=some (.fix vs)/\∃M5,Sub M5 (del M3 p)/\Pv (i+1) τ2 acc M5)/\
  ∀τ acc M,M p=none->Pv ws.length τ acc M->R (.ref p) (put M p (.lst acc))
def xF(js:List (Option Nat))(τ:S3):S3:=js.map λo=>o.bind λj=>(τ[j]?).join
theorem AS.cmap{K:Ab}{H:Hp}{M:Mm}{Z:SV}{τ:S3}(h:AS K H M Z τ):∀js:List (Option Nat),AS K H M (cmap js Z) (xF js τ)
 | []=>.nil
 | none::r=>.cons (λ_ e=>nomatch e) (AS.cmap h r)
 | some j::r=>.cons (λw e=>by
   have e:(τ[j]?).join=some w:=e;cases q:τ[j]? with
   | none=>rw[q]at e;cases e
   | some z=>
    rw[q]at e;have e:z=some w:=e;subst e;obtain⟨v,h1,h2⟩:=h.get q;exact⟨v,by show(Z[j]?).join=some v;rw[h1];rfl,h2⟩) (AS.cmap h r)
def eW(wi:h8)(g:eI)(tt:dD)(te:aY)(js:List (Option Nat)):aY:=λτ M R=>wi τ M λws keep M1=>nD ws keep g tt te (xF js τ) M1 R
theorem GH{wi:h8}{g:eI}{tt:dD}{te:aY}{js:List (Option Nat)}{Z:SV}{H:Hp}{Q:VK}(h:up X.K (eW wi g tt te js) Z H Q):wC (gS X.K wi) (λ_=>hV X.K g) (λ_=>kF X.K tt) (λ_=>up X.K te) js Z H Q:=by
 obtain⟨τ,M,R,as,am,h,k⟩:=h;refine⟨τ,M,_,as,am,h,λJ H1 ws keep M1 k1 am1 it hall p hp B=>?_⟩;obtain⟨Pv,h0,hk,hs,hd⟩:=hall p (am1.nonM hp);obtain⟨amp,kp⟩:=am1.laid (o:=.fix []) (u:=.lst []) hp cU;have hMp:=am1.nonM hp;refine UU ws.length (λi σ' acc' H'=>∃τ' acc M',M' p=none/\Kp H1 M1 H' (put M' p (.fix acc'))/\AM X.K H' (put M' p (.fix acc'))/\AS X.K H' (put M' p (.fix acc')) σ' τ'/\aL X.K H' (put M' p (.fix acc')) acc' acc/\Pv i τ' acc M') ?_ ?_ ?_
 .exact⟨xF js τ,[],M1,hMp,kp,amp,((as.kp am k1).kp am1 kp).cmap js,.nil,h0⟩
 .rintro σ' acc' H' ⟨τ',acc,M',mp,k',am',as',av,pv⟩;refine⟨it.stop H' _ k' am' (hk _ _ _ _ _ (Ag _) mp pv),?_⟩;have hp':H' p=some (.lst acc'):=am' p _ aS;refine k _ H' _ (put M' p (.lst acc)) (k1.trans ⟨λa o n e=>?_,k'.dom⟩) (λa o e=>?_) (.ref p) (hd τ' acc M' mp pv)
  .obtain⟨x,y⟩:=k'.fr a o n e;exact⟨x,by rw[aK (e7 e hp)]at y⊢;exact y⟩
  .by_cases ha:a=p
   .subst ha;rw[aS]at e;cases e;exact⟨acc',hp',av.go FE⟩
   .rw[aK ha]at e;exact(am' a o (by rw[aK ha];exact e)).go FE rfl
 .rintro i σ' acc' H' hi ⟨τ',acc,M',mp,k',am',as',av,pv⟩;have hkp:=hk acc' i τ' acc M' (Gz hi) mp pv;refine⟨it.go i H' _ k' am' hkp hi,λx H3 y=>?_⟩;obtain⟨w,hw,k3,am3,ax⟩:=it.yld i H' _ x H3 k' am' hkp hi y;refine⟨w,τ',_,_,ax,as'.kp am' k3,am3,hs acc' i w τ' acc M' hw mp pv,λσ4 H4 τ4 M4 k4 am4 as4 h4=>⟨τ4,M4,_,as4,am4,h4,λb H5 M5 k5 am5 h5=>?_⟩⟩;have kk:Kp H' (put M' p (.fix acc')) H5 M5:=(k3.trans k4).trans k5;cases b with
  | false=>
   obtain⟨m5,M6,sb,pv6⟩:M5 p=some (.fix acc')/\∃M6,Sub M6 (del M5 p)/\Pv (i+1) τ4 acc M6:=h5;have sb':Sub (put M6 p (.fix acc')) M5:=by
    have:=(sb.trans Sub.del).put (a:=p) (o:=.fix acc');rwa [VC m5]at this
   exact UL ⟨τ4,acc,M6,sb.non mW,(k'.trans kk).sub sb',am5.sub sb',(as4.kp am4 k5).sub sb',(av.kp am' kk).sub sb',pv6⟩
  | true=>
   have h5:te τ4 M5 λy M4=>M4 p=some (.fix acc')/\acc.length<Ap/\∃M5,Sub M5 (del M4 p)/\Pv (i+1) τ4 (acc++[y]) M5:=h5;refine UM ⟨τ4,M5,_,as4.kp am4 k5,am5,h5,λy H6 wy M6 k6 am6 ay ⟨m6,hl,M7,sb,pv7⟩=>?_⟩;have kk6:=kk.trans k6;have hp6:H6 p=some (.lst acc'):=am6 p _ m6;obtain⟨am8,k8⟩:=am6.write (o:=.fix (acc'++[y])) (u:=.lst (acc'++[y])) m6 cU;have sb':Sub (put M7 p (.fix (acc'++[y]))) (put M6 p (.fix (acc'++[y]))):=(sb.trans Sub.del).put;refine⟨hp6,by rw[av.length];exact hl,τ4,acc++[wy],M7,sb.non mW,((k'.trans kk6).trans k8).sub sb',am8.sub sb',(((as4.kp am4 k5).kp am5 k6).kp am6 k8).sub sb',?_,pv7⟩;exact(((av.kp am' kk6).append (.cons ay .nil)).kp am6 k8).sub sb'
variable {sc:Jm}{N':List Str}{js:List (Option Nat)}{iter elt:Expr}{ifs:List Expr}{wi:h8}{g:eI}{tt:dD}
def fY:dD:=λ_ M Q=>Q true M
theorem h9:iT X [] (kF X.K fY):=UQ.weak λZ H Q z0=>z0.el λτ M R as am h k=>k true H M (Kp.refl am) am h
theorem sS{c:Expr}{t:dD}(h:T3 X c t):iT X [c] (kF X.K t):=UR h
theorem gD(N':List Str)(js:List (Option Nat))(hi:PI X tg iter (gS X.K wi))(hg:∀B,PG (dN X sc N' B) tg (hV X.K g))(ht:∀B,iT (dN X sc N' B) ifs (kF X.K tt))(he:∀B,PE (dN X sc N' B) elt (up X.K te))(S0:mV N' sc X.env.scope=true:=by kernel_rfl)(hj:fP N' X.N sc js N'=true:=by kernel_rfl)(hc:X.calm=true:=by rfl)(hs:∀x,Hb iter X.env x=pure x:=by intro _;rfl):
  E3 X (.ListComp elt [⟨tg,iter,ifs,0⟩] sc pos) (eW wi g tt te js):=(US N' js hi hg ht he S0 hj hc hs).weak λ_ _ _ h=>GH h
end
def bY(N:List Str)(ws:List W):S3:=ws.map some++Cg (N.length-ws.length) none
def bQ(R:K3):D3:={nx:=λ_ M'=>∃M'',Sub M'' M'/\R .non M'',rt:=λw M'=>∃M'',Sub M'' M'/\R w M''}
section
variable {P:Ca}{w:Ct}{K:Ab}{mg:Str->Option Ae}{base:Heap}
theorem xG{x qual:Str}{st:Stmt}{f:Addr}{fd:Bv}{N ps:List Str}{k:Nat}{sp:bM}(F:jM K x qual st f fd)(S:mR N ps (d4 st))(len:∀ws M R,sp ws M R->ws.length=ps.length)(hbody:∀(cdv:Ae) (A:Dg) (outer:List Env) (s:Aj) (H:Hp) (E:XK) (ws:List W) (M:Mm) (R:K3),cN k (A.deeper (Kx qual (d4 st) s.heap.objs.size f cdv))->sp ws M R->
   ∃t,jT (kX fW P w K mg base N qual (d4 st) f cdv A outer s H E).nox (gQ st) t/\t (bQ R) (bY N ws) M):eR P w K mg base fW (k+1) f fd ps (gL K sp):=by
 refine F.ok S (λvs H Q E ⟨ws,M,R,am,av,h,_⟩=>by rw[av.length];exact len ws M R h) λcdv A outer s H vs Q E hr ⟨ws,M,R,am,av,h,kk⟩=>?_;obtain⟨t,ht,h'⟩:=hbody cdv A outer s H E ws M R hr h;refine⟨_,ht,bY N ws,M,bQ R,?_,am,h',⟨λσ' H' τ' M' k' am' as' ⟨M'',sb,r⟩=>kk _ H' _ M'' (k'.sub sb) (am'.sub sb) .non r,λv H' w M' k' am' av' ⟨M'',sb,r⟩=>kk v H' w M'' (k'.sub sb) (am'.sub sb) (av'.sub sb) r,λ_ _ _ _ _ _ _ z=>z.elim,λ_ _ _ _ _ _ _ z=>z.elim⟩⟩;unfold L2.start bY;rw[av.length];exact AS.start av _
def qD:bM:=λws M R=>∃ns:List Int,ws=[.sc (ns.map W.int)]/\ns.length<=63/\(M=λ_=>none)/\∀M',R (.bl true) M'
theorem WU{H:Hp}{a:Addr}{ns:List Int}(hl:ns.length<=63)(ho:sA H)(hs:bH K H a (ns.map V.int)):gL K qD [.ref a] H (λv _=>v=.bl true) λ_ _ _=>False:=by
 have hr:kY K H a (ns.map V.int):=by
  rcases hs with(e|⟨o,e⟩)|e
  .rcases ho a with z|⟨o,xs,z⟩
   .rw[z]at e;cases e
   .rw[z]at e;cases e
  .exact .inl ⟨o,e⟩
  .exact .inr e
 exact⟨[.sc (ns.map W.int)],λ_=>none,λw _=>w=.bl true,λa o e=>(nomatch e),.cons (.sc hr (aL.int ns)) .nil,⟨ns,rfl,hl,rfl,λ_=>rfl⟩,λv H' w M' _ _ av r=>by subst r;exact av.bl_inv⟩
end
section
variable {X:Cx}{a b c:Expr}{ta tb tc:aY}{pos:Pos}
def WV(M:Mm):W->String->Prop
 | .non,T=>T = "NoneType"
 | .bl _,T=>T = "bool"
 | .int _,T=>T = "int"
 | .str _,T=>T = "str"
 | .tup _,T=>T = "tuple"
 | .rl _,T=>T = "list"
 | .dk _,T=>T = "dict"
 | .ref a,T=>(T = "list"/\∃ws,M a=some (.lst ws))\/(T = "dict"/\((∃kvs,M a=some (.dK kvs))\/∃kvs,M a=some (.dT kvs)))
 | _,_=>False
def GJ:List (String×String×Bool):=[("int","int",true),("int","bool",false),("int","str",false),("int","tuple",false),("int","list",false),("bool","bool",true),("bool","int",true),("bool","str",false),("bool","list",false),("bool","tuple",false),("str","str",true),("str","int",false),("str","tuple",false),("str","list",false),("str","bool",false),("tuple","tuple",true),("tuple","list",false),("tuple","str",false),("tuple","int",false),("tuple","bool",false),("list","list",true),("list","tuple",false),("list","str",false),("list","int",false),("list","bool",false),("NoneType","list",false),("NoneType","tuple",false),("NoneType","int",false),("NoneType","str",false),("NoneType","bool",false),("dict","dict",true),("dict","list",false)]
def GK(n T:String):Option Bool:=(GJ.find? λp=>p.1==n&&p.2.1==T).map λp=>p.2.2
def GL(K:Ab):List (String×String×Bool)->Prop
 | []=>True
 | p::l=>Jh K (.type p.1) (.type p.2.1)=some p.2.2/\GL K l
theorem GN{K:Ab}:∀{l:List (String×String×Bool)},GL K l->∀p∈l,Jh K (.type p.1) (.type p.2.1)=some p.2.2
 | _::_,h,_,m=>by
  cases m with
  | head=>exact h.1
  | tail _ m=>exact GN h.2 _ m
theorem WW(K:Ab):∀p∈GJ,Jh K (.type p.1) (.type p.2.1)=some p.2.2:=by
 refine GN ?_
 repeat refine⟨by kernel_rfl,?_⟩
 trivial
theorem WX(K:Ab){n T:String}{b:Bool}(h:GK n T=some b):Jh K (.type n) (.type T)=some b:=by
 obtain⟨p,hp,e⟩:=Bb.mp h;have h1:=List.find?_some hp;have h2:=WW K p (List.mem_of_find?_eq_some hp);rw[Cw,beq_iff_eq,beq_iff_eq]at h1;rw[<-h1.1,<-h1.2,h2,e]
def qE:List W->Mm->K3->Prop
 | [w,.ty T],M,R=>∃n b,WV M w n/\GK n T=some b/\R (.bl b) M
 | _,_,_=>False
theorem GO:b7 X (.builtin "isinstance") (e8 X.K qE):=by
 rintro pins s Z H xs us Q I rs ⟨ws,M,R,am,axs,h,k⟩
 match ws,h with
 | [w,.ty T],h=>
  obtain⟨v,u,rfl,av,au⟩:=axs.two;cases au;obtain⟨n,b,hn,hs,r⟩:=h;have ty:iG X.K H v (.type n):=by
   cases w<;>first|exact(show False from hn).elim|skip
   case non=>rw[show n=_ from hn,show v=_ from av.inv];exact .non
   case bl b=>rw[show n=_ from hn,show v=_ from av.inv];exact .bl b
   case int i=>rw[show n=_ from hn,show v=_ from av.inv];exact .int i
   case str x=>rw[show n=_ from hn,show v=_ from av.inv];exact .str x
   case tup=>obtain⟨a,xs,ev,e,q⟩:=av.inv;rw[show n=_ from hn,ev];exact .tup e
   case rl=>obtain⟨a,xs,ev,e,_,q⟩:=av.inv;rw[show n=_ from hn,ev];exact .lst e
   case dk=>obtain⟨a,xs,ev,e,_,q⟩:=av.inv;rw[show n=_ from hn,ev];exact .dK e
   case ref a=>
    rw[show v=_ from av.inv];rcases hn with⟨e,ws,h⟩|⟨e,h⟩
    .subst e;obtain⟨vs,f,_⟩:=am.lst h;exact .lst f
    .subst e;rcases h with⟨kvs,h⟩|⟨kvs,h⟩
     .obtain⟨ks,f,_⟩:=am _ _ h;exact .dK f
     .obtain⟨ks,f,_⟩:=am _ _ h;exact .dT f
  exact UY pins s Z H _ us Q I rs ⟨v,T,_,b,rfl,ty,WX X.K hs,k.at am (.bl b) r⟩
end
section
variable {X:Cx}{a b:Expr}{ta tb:aY}{pos:Pos}{es:List Expr}{t:dP}
theorem WY{K:Ab}{H:Hp}{M:Mm}{R:K3}{Q:VK}{p:Addr}{xs:List V}{ws:List W}(am:AM K H M)(k:Up K H M R Q)(hp:H p=none)(ax:aL K H M xs ws)(r:R (.rl ws) M):Q (.ref p) (aQ H p (.lst xs)):=by
 obtain⟨am2,k2⟩:=am.tup (u:=.lst xs) hp;exact k _ _ _ _ k2 am2 (.rl cU (am.nonM hp) (ax.newT hp)) r
def jB(t:dP):aY:=λτ M R=>t τ M λws M1=>ws.length<=Ap/\R (.rl ws) M1
theorem jY(h:A3 X es t):E3 X (.List es pos) (jB t):=
 (DW h).weak λZ H Q z0=>z0.el λτ M R as am h k=>⟨τ,M,_,as,am,h,λxs H1 ws M1 k1 am1 axs ⟨hl,r⟩=>⟨by rw[axs.length];exact hl,λp hp=>WY am1 (k.kp k1) hp axs r⟩⟩
theorem GP{f:Ae->Ae->Sem Ae}{r r':R3}(h:a9 X f (cJ X.K r))(k:∀x y M R,r' x y M R->r x y M λw M'=>frz w M' R):a9 X f (cJ X.K r'):=λpins s Z H x y v u Q I rx ry ⟨wx,wy,M,R,am,ax,ay,h',kk⟩=>
 h pins s Z H x y v u Q I rx ry ⟨wx,wy,M,_,am,ax,ay,k _ _ _ _ h',kk.frz⟩
theorem GQ{f:Ae}{r r':List W->Mm->K3->Prop}(h:b7 X f (e8 X.K r))(k:∀x M R,r' x M R->r x M λw M'=>frz w M' R):b7 X f (e8 X.K r'):=λpins s Z H xs us Q I rs ⟨ws,M,R,am,ax,h',kk⟩=>
 h pins s Z H xs us Q I rs ⟨ws,M,_,am,ax,k _ _ _ h',kk.frz⟩
def dS:R3
 | .int i,.int j,M,R=>R (.int (i+j)) M
 | .tup xs,.tup ys,M,R=>xs≠[]/\xs.length+ys.length<=Ap/\R (.tup (xs++ys)) M
 | .ref a,.ref b,M,R=>∃xs ys,M a=some (.lst xs)/\M b=some (.lst ys)/\xs.length+ys.length<=Ap/\R (.rl (xs++ys)) M
 | .rl xs,.ref b,M,R=>∃ys,M b=some (.lst ys)/\xs.length+ys.length<=Ap/\R (.rl (xs++ys)) M
 | .ref a,.rl ys,M,R=>∃xs,M a=some (.lst xs)/\xs.length+ys.length<=Ap/\R (.rl (xs++ys)) M
 | .rl xs,.rl ys,M,R=>xs.length+ys.length<=Ap/\R (.rl (xs++ys)) M
 | _,_,_,_=>False
theorem dU:a9 X (Ek .Add) (cJ X.K dS):=GP VQ λx y M R h=>by
 cases x<;>first|exact(show False from h).elim|(cases y<;>first|exact(show False from h).elim|skip)
 case int.int i j=>exact h
 case tup.tup i j=>exact h
 case ref.ref i j=>obtain⟨xs,ys,h1,h2,h3,r⟩:=h;exact⟨xs,ys,h1,h2,h3,aZ.frz r⟩
 case rl.ref i j=>obtain⟨ys,h2,h3,r⟩:=h;exact⟨ys,h2,h3,aZ.frz r⟩
 case ref.rl i j=>obtain⟨ys,h2,h3,r⟩:=h;exact⟨ys,h2,h3,aZ.frz r⟩
 case rl.rl i j=>exact⟨h.1,aZ.frz h.2⟩
def qF:R3
 | .int i,.int j,M,R=>(nW i j\/sD i j)/\R (.int (i*j)) M
 | .ref a,.int n,M,R=>∃xs,M a=some (.lst xs)/\-(2 ^ 63)<=n/\n<2 ^ 63/\xs.length*n.toNat<=Ap/\R (.rl (Cg n.toNat xs).flatten) M
 | .rl xs,.int n,M,R=>-(2 ^ 63)<=n/\n<2 ^ 63/\xs.length*n.toNat<=Ap/\R (.rl (Cg n.toNat xs).flatten) M
 | _,_,_,_=>False
theorem sU:a9 X (Ek .Mult) (cJ X.K qF):=GP VU λx y M R h=>by
 cases x<;>first|exact(show False from h).elim|(cases y<;>first|exact(show False from h).elim|skip)
 case int.int i j=>exact h
 case ref.int i j=>obtain⟨xs,h1,h2,h3,h4,r⟩:=h;exact⟨xs,h1,h2,h3,h4,aZ.frz r⟩
 case rl.int i j=>obtain⟨h2,h3,h4,r⟩:=h;exact⟨h2,h3,h4,aZ.frz r⟩
def xH:List W->Mm->K3->Prop
 | [.tup ws],M,R=>R (.rl ws) M
 | [.rl ws],M,R=>R (.rl ws) M
 | [.sc ws],M,R=>R (.rl ws) M
 | [.dk kvs],M,R=>R (.rl (kvs.map λkv=>wK kv.1)) M
 | [.ref a],M,R=>(∃ws,M a=some (.lst ws)/\R (.rl ws) M)\/∃kvs,M a=some (.dK kvs)/\R (.rl (kvs.map λkv=>wK kv.1)) M
 | _,_,_=>False
theorem GR(hc:X.calm=true):b7 X (.type "list") (e8 X.K xH):=GQ (F8 hc) λx M R h=>by
 match x,h with
 | [.tup ws],h=>exact aZ.frz h
 | [.rl ws],h=>exact aZ.frz h
 | [.sc ws],h=>exact aZ.frz h
 | [.dk kvs],h=>exact aZ.frz h
 | [.ref a],h=>
  rcases h with⟨ws,e,r⟩|⟨kvs,e,r⟩
  .exact .inl ⟨ws,e,aZ.frz r⟩
  .exact .inr ⟨kvs,e,aZ.frz r⟩
def oH:W->Option Int->Option Int->Mm->K3->Prop
 | .rl ws,lo,hi,M,R=>R (.rl (fX ws lo hi)) M
 | .sc ws,lo,hi,M,R=>R (.rl (fX ws lo hi)) M
 | .ref a,lo,hi,M,R=>∃ws,M a=some (.lst ws)/\R (.rl (fX ws lo hi)) M
 | .tup ws,lo,hi,M,R=>¬(HT.sIx ws.length 0 lo=0/\HT.sIx ws.length ws.length hi=ws.length)/\R (.tup (fX ws lo hi)) M
 | _,_,_,_,_=>False
theorem WZ{x:W}{l u:Option Int}{M:Mm}{R:K3}(h:oH x l u M R):FY x l u M λw M'=>frz w M' R:=by
 cases x<;>first|exact(show False from h).elim|skip
 case tup ws=>exact h
 case rl ws=>exact aZ.frz h
 case sc ws=>exact aZ.frz h
 case ref a=>obtain⟨ws,e,r⟩:=h;exact⟨ws,e,aZ.frz r⟩
def oI(ta:aY)(tl th:oB):aY:=λτ M R=>ta τ M λx M1=>tl τ M1 λl M2=>th τ M2 λu M3=>oH x l u M3 R
theorem qG{lo hi:Option Expr}{tl th:oB}{p2:Pos}(he:E3 X a ta)(hl:PO X lo (oC X.K tl))(hu:PO X hi (oC X.K th)):E3 X (.Subscript a (.Slice lo hi none p2) pos) (oI ta tl th):=
 (R8 V6 he hl hu).weak λZ H Q z0=>z0.el λτ M R as am h k=>⟨τ,M,_,as,am,h,λx H1 wx M1 k1 am1 ax h1=>⟨τ,M1,_,as.kp am k1,am1,h1,λl H2 M2 k2 am2 h2=>⟨τ,M2,_,(as.kp am k1).kp am1 k2,am2,h2,λu H3 M3 k3 am3 h3=>
  ⟨wx,M3,_,am3,(ax.kp am1 k2).kp am2 k3,WZ h3,(((k.kp k1).kp k2).kp k3).frz⟩⟩⟩⟩
variable {sc:Jm}{N':List Str}{js:List (Option Nat)}{tg iter elt:Expr}{ifs:List Expr}{wi:h8}{g:eI}{tt:dD}{te:aY}
theorem W0{i:Nat}{x:Str}{px spos:Pos}(hN:X.N.Nodup)(hi0:X.N[i]? = some x)(hx:Loc X.env.scope x)(N':List Str)(js:List (Option Nat))(hi:PI X tg iter (gS X.K wi))(hg:∀B,PG (dN X sc N' B) tg (hV X.K g))(ht:∀B,iT (dN X sc N' B) ifs (kF X.K tt))(he:∀B,PE (dN X sc N' B) elt (up X.K te))(S0:mV N' sc X.env.scope=true:=by kernel_rfl)(hj:fP N' X.N sc js N'=true:=by kernel_rfl)(hc:X.calm=true:=by rfl)(hsw:Jt (.ListComp elt [⟨tg,iter,ifs,0⟩] sc pos) (some (.Name x px)) spos.line X.env=pure true:=by rfl)(hf:X.fn x=true\/X.env.scope.names.lookup x=some .local:=by first|exact .inl rfl|exact .inr rfl|assumption)(hs:∀x,Hb iter X.env x=pure x:=by intro _;rfl):P3 X (.Assign [.Name x px] (.ListComp elt [⟨tg,iter,ifs,0⟩] sc pos) spos) (bB i (cP (eW wi g tt te js))):=
 (UT hN hi0 hx N' js hi hg ht he S0 hj hc hsw hf hs).weak λD Z H z0=>z0.el λτ M D' as am h k=>GH ⟨τ,M,_,as,am,h,Up.frz λy H1 wy M1 k1 am1 ay h1=>k.nx _ _ _ _ k1 am1 ((as.kp am k1).set ay i) h1⟩
end
def Pl:Nat->W->Prop
 | _,.non=>True
 | _,.int _=>True
 | _,.str x=>PyData.strOk x=true
 | n+1,.tup ws=>∀w∈ws,Pl n w
 | n+1,.rl ws=>∀w∈ws,Pl n w
 | _,_=>False
def dZ(M:Mm):W->W
 | .ref a=>match M a with
  | some (.lst ws)=>.rl ws
  | _=>.ref a
 | w=>w
section
variable {M:Mm}
theorem xJ{n:Nat}(ih:∀{w:W},Pl n w->∃d,Snap M w d/\d.canLay0=true/\d.depth<=n):∀{ws:List W},(∀w∈ws,Pl n w)->∃ds,hJ M ws ds/\PyData.canLayAll0 ds=true/\PyData.depthAll ds<=n
 | [],_=>⟨[],.nil,rfl,by simp[PyData.depthAll]⟩
 | w::ws,h=>by
  obtain⟨d,s,c,e⟩:=ih (h w Ai);obtain⟨ds,ss,cc,ee⟩:=xJ ih λz hz=>h z (Af _ hz);exact⟨d::ds,.cons s ss,by simp[PyData.canLayAll0,c,cc],by simp only[PyData.depthAll];lia⟩
theorem l9:∀{n:Nat} {w:W},Pl n w->∃d,Snap M w d/\d.canLay0=true/\d.depth<=n:=by
 intro n
 induction n with
 | zero=>
  intro w h;cases w<;>first|exact(show False from h).elim|skip
  case non=>exact⟨_,.non,rfl,by simp[Ib]⟩
  case int i=>exact⟨_,.int i,rfl,by simp[Ib]⟩
  case str x=>exact⟨_,.str x,h,by simp[Ib]⟩
 | succ n ih=>
  intro w h;cases w<;>first|exact(show False from h).elim|skip
  case non=>exact⟨_,.non,rfl,by simp[Ib]⟩
  case int i=>exact⟨_,.int i,rfl,by simp[Ib]⟩
  case str x=>exact⟨_,.str x,h,by simp[Ib]⟩
  case tup ws=>
   obtain⟨ds,s,c,e⟩:=xJ ih h;exact⟨_,.tup s,by simpa [PyData.canLay0] using c,by simp only[Ib];lia⟩
  case rl ws=>
   obtain⟨ds,s,c,e⟩:=xJ ih h;exact⟨_,.rl s,by simpa [PyData.canLay0] using c,by simp only[Ib];lia⟩
theorem GS{n:Nat}{w:W}(h:Pl n (dZ M w)):∃d,Snap M w d/\Snap M (dZ M w) d/\d.canLay0=true/\d.depth<=n:=by
 obtain⟨d,s,c,e⟩:=l9 (M:=M) h;refine⟨d,?_,s,c,e⟩;cases w<;>first|exact s|skip
 case ref a=>
  cases q:M a with
  | none=>
   have e:dZ M (.ref a)=.ref a:=by simp[dZ,q]
   rw[e]at s;exact s
  | some o=>
   cases o with
   | lst ws=>
    have e:dZ M (.ref a)=.rl ws:=by simp[dZ,q]
    rw[e]at s;cases s with
    | rl r=>exact .ref q r
   | dK _=>
    have e:dZ M (.ref a)=.ref a:=by simp[dZ,q]
    rw[e]at s;exact s
   | dT _=>
    have e:dZ M (.ref a)=.ref a:=by simp[dZ,q]
    rw[e]at s;exact s
   | fix _=>
    have e:dZ M (.ref a)=.ref a:=by simp[dZ,q]
    rw[e]at s;exact s
   | ins _ _ _=>
    have e:dZ M (.ref a)=.ref a:=by simp[dZ,q]
    rw[e]at s;exact s
theorem GU{n:Nat}(ih:∀{x y:W} {dx dy:Iu},Pl n x->Pl n y->Snap M x dx->Snap M y dy->(Dw dx dy=true↔x=y)):∀{xs ys:List W} {dx dy:List Iu},(∀w∈xs,Pl n w)->(∀w∈ys,Pl n w)->hJ M xs dx->hJ M ys dy->(My dx dy=true↔xs=ys):=by
 intro xs
 induction xs with
 | nil=>
  intro ys dx dy hx hy s1 s2;cases s1;cases s2<;>simp[My]
 | cons x xs IH=>
  intro ys dx dy hx hy s1 s2;cases s1 with
  | cons s1 r1=>
   cases s2 with
   | nil=>simp[My]
   | cons s2 r2=>
    rw[My,Cw,ih (hx x Ai) (hy _ Ai) s1 s2,IH (λz hz=>hx z (Af _ hz)) (λz hz=>hy z (Af _ hz)) r1 r2];simp
theorem qH:∀{n:Nat} {x y:W} {dx dy:Iu},Pl n x->Pl n y->Snap M x dx->Snap M y dy->(Dw dx dy=true↔x=y):=by
 intro n
 induction n with
 | zero=>
  intro x y dx dy hx hy sx sy;cases sx<;>first|exact(show False from hx).elim|skip
  all_goals cases sy<;>first|exact(show False from hy).elim|simp[Dw]
 | succ n ih=>
  intro x y dx dy hx hy sx sy;cases sx<;>first|exact(show False from hx).elim|skip
  all_goals cases sy<;>first|exact(show False from hy).elim|skip
  all_goals first|(simp[Dw];done)|skip
  case tup.tup r1 _ _ r2=>rw[Dw,GU ih hx hy r1 r2];simp
  case rl.rl r1 _ _ r2=>rw[Dw,GU ih hx hy r1 r2];simp
theorem W2{neg:Bool}{x y:W}{R:K3}(n:Nat)(hn:n<=60)(hx:Pl n (dZ M x))(hy:Pl n (dZ M y))(h:∀b:Bool,(b=true↔dZ M x=dZ M y)->R (.bl (if neg then !b else b)) M):p5 neg x y M R:=by
 obtain⟨dx,s1,s1',c1,e1⟩:=GS hx;obtain⟨dy,s2,s2',c2,e2⟩:=GS hy;exact⟨dx,dy,s1,s2,⟨c1,by lia⟩,⟨c2,by lia⟩,h _ (qH hx hy s1' s2')⟩
theorem W4{neg:Bool}{x y:W}{R:K3}(n:Nat)(hn:n<=60)(hx:Pl n (dZ M x))(hy:Pl n (dZ M y))(h:∀b:Bool,(b=true↔dZ M x=dZ M y)->R (.bl (if neg then !b else b)) M):rEq neg x y M R:=by
 have d:=W2 n hn hx hy h;cases x<;>first|exact d|skip
 case int i=>
  cases y<;>first|exact d|skip
  case int j=>exact h (decide (i=j)) (by simp[dZ])
 case str i=>
  cases y<;>first|exact d|skip
  case str j=>exact h (decide (i=j)) (by simp[dZ])
 case bl i=>
  cases y<;>first|exact d|skip
  case bl j=>exact(show False by cases n<;>exact hx).elim
end
theorem W5{M:Mm}{neg:Bool}{x y:W}{R:K3}(n:Nat)(hn:n<=60)(hx:Pl n (dZ M x))(e:dZ M y=dZ M x)(h:R (.bl (!neg)) M):rEq neg x y M R:=by
 refine W4 n hn hx (by rw[e];exact hx) λb hb=>?_;have:b=true:=hb.mpr e.symm;subst this;cases neg<;>exact h
theorem xK{ws:List W}{keep:Mm->Prop}{g:eI}{tt:dD}{te:aY}{τ₀:S3}{M1:Mm}{R:K3}(St:S3->Prop)(tgt:W->S3)(Rel:W->Option W->Prop)(hl:ws.length<=Ap)(hk:∀M,Sub M1 M->keep M)(h0:St τ₀)(ht:∀w∈ws,St (tgt w))(hg:∀w∈ws,∀τ M (C:S3->Mm->Prop),St τ->C (tgt w) M->g w τ M C)(hs:∀w∈ws,∀M (C:K3) (D:Mm->Prop),Sub M1 M->(∀y,Rel w (some y)->C y M)->(Rel w none->D M)->tt (tgt w) M λb M3=>if b=true then te (tgt w) M3 C else D M3)(r:∀os,Iv Rel ws os->aZ (os.filterMap id) M1 R):nD ws keep g tt te τ₀ M1 R:=by
 intro p hp;refine⟨λi τ acc M=>St τ/\(∃os,Iv Rel (ws.take i) os/\acc=os.filterMap id)/\M=M1,⟨h0,⟨[],by simp;exact .nil,rfl⟩,rfl⟩,?_,?_,?_⟩
 .rintro vs i τ acc M _ mp ⟨_,_,rfl⟩;exact hk _ (Sub.new hp)
 .rintro vs i w τ acc M hw mp ⟨st,⟨os,po,rfl⟩,rfl⟩;have hm:w∈ws:=Bl hw;have hi:i<ws.length:=(Ak.mp hw).1;have htk:ws.take (i+1)=ws.take i++[w]:=by rw[Lm,hw];rfl
  have snoc:∀o,Rel w o->Iv Rel (ws.take (i+1)) (os++[o]):=λo ro=>by
   rw[htk];clear hw mp st htk
   revert os
   generalize ws.take i=l;intro os po
   induction po with
   | nil=>exact .cons ro .nil
   | cons a b ih=>exact .cons a ih
  have hlen:(os.filterMap id).length<Ap:=by
   have h1:=Lp id os;have h2:=Dr po;rw[Ce]at h2;lia
  refine hg w hm τ _ _ st (hs w hm _ _ _ (Sub.new hp) (λy hy=>⟨aS,hlen,M,?_,ht w hm,⟨_,snoc _ hy,?_⟩,rfl⟩) λhn=>⟨aS,M,?_,ht w hm,⟨_,snoc _ hn,?_⟩,rfl⟩)
  .rw[i6 hp];exact Sub.refl _
  .simp
  .rw[i6 hp];exact Sub.refl _
  .simp
 .rintro τ acc M mp ⟨_,⟨os,po,rfl⟩,rfl⟩;rw[Cb]at po;exact r os po p hp
def GV(rest:S3):S3->Prop:=λτ=>∃o,τ=o::rest
theorem jZ{ws:List W}{keep:Mm->Prop}{te:aY}{o:Option W}{rest:S3}{M1:Mm}{R:K3}(f:W->W)(hl:ws.length<=Ap)(hk:∀M,Sub M1 M->keep M)(hs:∀w∈ws,∀M (C:K3),Sub M1 M->C (f w) M->te (some w::rest) M C)(r:aZ (ws.map f) M1 R):nD ws keep (bC 0) fY te (o::rest) M1 R:=by
 refine xK (GV rest) (λw=>some w::rest) (λw o=>o=some (f w)) hl hk ⟨_,rfl⟩ (λw _=>⟨_,rfl⟩) ?_ ?_ ?_
 .rintro w _ τ M C ⟨o,rfl⟩ h;exact h
 .intro w hw M C D sb h1 _;show(if true=true then te (some w::rest) M C else D M);rw[if_pos rfl];exact hs w hw M C sb (h1 _ rfl)
 .intro os po;have:os.filterMap id=ws.map f:=by
   clear r hs hl hk
   induction po with
   | nil=>rfl
   | cons a b ih=>subst a;simp[ih]
  rw[this];exact r
theorem GW{ws:List W}{keep:Mm->Prop}{tt:dD}{te:aY}{o:Option W}{rest:S3}{M1:Mm}{R:K3}(f:W->Option W)(hl:ws.length<=Ap)(hk:∀M,Sub M1 M->keep M)(hs:∀w∈ws,∀M (C:K3) (D:Mm->Prop),Sub M1 M->(∀y,f w=some y->C y M)->(f w=none->D M)->tt (some w::rest) M λb M3=>if b=true then te (some w::rest) M3 C else D M3)(r:aZ (ws.filterMap f) M1 R):nD ws keep (bC 0) tt te (o::rest) M1 R:=by
 refine xK (GV rest) (λw=>some w::rest) (λw o=>o=f w) hl hk ⟨_,rfl⟩ (λw _=>⟨_,rfl⟩) ?_ ?_ ?_
 .rintro w _ τ M C ⟨o,rfl⟩ h;exact h
 .intro w hw M C D sb h1 h2;exact hs w hw M C D sb (λy e=>h1 y e.symm) λe=>h2 e.symm
 .intro os po;have:os.filterMap id=ws.filterMap f:=by
   clear r hs hl hk
   induction po with
   | nil=>rfl
   | @cons a b c d e _ ih=>
    subst e;cases q:f a<;>simp[q,ih]
  rw[this];exact r
def W6(rest:S3):S3->Prop:=λτ=>∃o1 o2,τ=o1::o2::rest
def W7(rest:S3):W->S3
 | .tup [a,b]=>some a::some b::rest
 | _=>none::none::rest
abbrev GX:eI:=jV 2 (eS (bC 0) (eS (bC 1) jU))
theorem GY{ws:List W}{keep:Mm->Prop}{tt:dD}{te:aY}{o1 o2:Option W}{rest:S3}{M1:Mm}{R:K3}(P:W->Option W->Prop)(hw:∀w∈ws,∃a b,w=.tup [a,b])(hl:ws.length<=Ap)(hk:∀M,Sub M1 M->keep M)(hs:∀a b,.tup [a,b]∈ws->∀M (C:K3) (D:Mm->Prop),Sub M1 M->(∀y,P (.tup [a,b]) (some y)->C y M)->(P (.tup [a,b]) none->D M)->tt (some a::some b::rest) M λb' M3=>if b'=true then te (some a::some b::rest) M3 C else D M3)(r:∀os,Iv P ws os->aZ (os.filterMap id) M1 R):nD ws keep GX tt te (o1::o2::rest) M1 R:=by
 refine xK (W6 rest) (W7 rest) P hl hk ⟨_,_,rfl⟩ (λw hm=>?_) ?_ ?_ r
 .obtain⟨a,b,rfl⟩:=hw w hm;exact⟨_,_,rfl⟩
 .rintro w hm τ M C ⟨u1,u2,rfl⟩ h;obtain⟨a,b,rfl⟩:=hw w hm;exact⟨rfl,rfl,h⟩
 .intro w hm M C D sb h1 h2;obtain⟨a,b,rfl⟩:=hw w hm;exact hs a b hm M C D sb h1 h2
theorem W8{ws:List W}{keep:Mm->Prop}{te:aY}{o1 o2:Option W}{rest:S3}{M1:Mm}{R:K3}(P:W->W->Prop)(hw:∀w∈ws,∃a b,w=.tup [a,b])(hl:ws.length<=Ap)(hk:∀M,Sub M1 M->keep M)(hs:∀a b,.tup [a,b]∈ws->∀M (C:K3),Sub M1 M->(∀y,P (.tup [a,b]) y->C y M)->te (some a::some b::rest) M C)(r:∀ys,Iv P ws ys->aZ ys M1 R):nD ws keep GX fY te (o1::o2::rest) M1 R:=by
 refine GY (λw o=>∃y,o=some y/\P w y) hw hl hk (λa b hm M C D sb h1 _=>?_) λos po=>?_
 .show(if true=true then te (some a::some b::rest) M C else D M);rw[if_pos rfl];exact hs a b hm M C sb λy py=>h1 y ⟨y,rfl,py⟩
 .have:∃ys,os=ys.map some/\Iv P ws ys:=by
   clear r hs hl hk hw
   induction po with
   | nil=>exact⟨[],rfl,.nil⟩
   | cons a b ih=>
    obtain⟨y,rfl,py⟩:=a;obtain⟨ys,rfl,h⟩:=ih;exact⟨y::ys,rfl,.cons py h⟩
  obtain⟨ys,rfl,py⟩:=this;rw[Ku];have:(ys.filterMap (id ∘ some))=ys:=by simp
  rw[this];exact r ys py
structure Df(K:Ab)(mg:Str->Option Ae)(x:Str)(st:Stmt)(ps:List Str)(f:Addr)(fd:Bv):Prop where
 fn:jM K x x st f fd
 at_:mg x=some (.ref f)
 bi:Binds K fd ps []
theorem eJ:Dc "len" = some (.builtin "len"):=PySem.boot_len
theorem xM:Dc "list" = some (.type "list"):=by decide +kernel
theorem W9:Dc "tuple" = some (.type "tuple"):=by decide +kernel
theorem GZ:Dc "int" = some (.type "int"):=by decide +kernel
theorem XA:Dc "bool" = some (.type "bool"):=by decide +kernel
theorem lD:Dc "dict" = some (.type "dict"):=by decide +kernel
theorem G0:Dc "isinstance" = some (.builtin "isinstance"):=by decide +kernel
theorem G1:Dc "all" = some (.builtin "all"):=by decide +kernel
theorem XB:Dc "any" = some (.builtin "any"):=by decide +kernel
theorem XC:Dc "sum" = some (.builtin "sum"):=by decide +kernel
theorem XD:Dc "min" = some (.builtin "min"):=by decide +kernel
theorem G2:Dc "sorted" = some (.builtin "sorted"):=by decide +kernel
theorem XE{O:Type}(x:O)(xs:List O):cX (x::xs) 0=some x:=by simp[cX,iR]
theorem XF{O:Type}{xs:List O}{i:Int}(h0:0<=i)(h1:i<xs.length):∃x,cX xs i=some x/\xs[i.toNat]? = some x/\x∈xs:=by
 have hlt:i.toNat<xs.length:=by lia
 refine⟨xs[i.toNat],?_,Bc hlt,Ma hlt⟩;simp[cX,iR,h0,h1,hlt]
def lE(x:Str):Prop:=PyData.strOk x=true
theorem small{n:Nat}(h:n<=10000000):n<=Ap:=Ah h (by decide)
theorem dW{n:Nat}(h:n<10000000):n<Ap:=Bq h (by decide)
theorem sW{M:Mm}{a:Addr}{k:Str}{v:W}{kvs:List (aC×W)}{Q:Mm->Prop}(h:M a=some (.dK kvs))(hl:kvs.length<Ap)(q:Q (put M a (.dK (bS kvs (Sum.inr k) v)))):qA (.ref a) (.str k) v M Q:=.inr (.inl ⟨kvs,.inr k,rfl,h,hl,q⟩)
theorem oJ{M:Mm}{a:Addr}{k:List aC}{v:W}{kvs:List (List aC×W)}{Q:Mm->Prop}(h:M a=some (.dT kvs))(hl:kvs.length<Ap)(q:Q (put M a (.dT (bS kvs k v)))):qA (.ref a) (.tup (k.map wK)) v M Q:=.inr (.inr ⟨kvs,k,rfl,h,hl,q⟩)
section
variable {X:Cx}{a b c:Expr}{ta tb tc:aY}{pos:Pos}
theorem any_range{bs:List Bool}:(Bp bs.length).any (λi=>bs.getD i false)=bs.any id:=by
 induction bs with
 | nil=>rfl
 | cons b r ih=>
  rw[Az,List.range_succ_eq_map,Ei,Mj,Ei];have:((λi=>(b::r).getD i false) ∘ Nat.succ)=λi=>r.getD i false:=by
   funext i;simp[List.getD]
  rw[this,ih];simp
theorem G3(hc:X.calm=true):b7 X (.builtin "any") (λxs H Q=>∃(p:Addr) (bs:List Bool),xs=[.ref p]/\bH X.K H p (bs.map V.bl)/\Q (.bl (bs.any id)) H):=by
 intro pins s Z H xs us Q I r h;obtain⟨p,bs,rfl,hq,q⟩:=h;obtain⟨u,rfl,ru⟩:=vals1 r;cases ru;obtain⟨its,rv,pl,hz⟩:=I.list hq;have hlt:p<s.heap.objs.size:=by obtain⟨_,e,_⟩:=pl.isList;exact Bi e
 refine call_any_walk (Ih pl.isList ?_);have hA:X.A.in1.handled=none:=I.ok.hd hc;refine⟨s.heap.objs.size,[s.heap.objs.size,p],[s.heap.objs.size],its.toArray.size,(λi v=>its.toArray[i]? = some v),_,(λi=>bs.getD i false),rfl,Walks.list hA s.heap.objs.size p (Bs hlt) its.toArray,
  ⟨⟨_,Be _ rfl,rfl,rfl⟩,pl.isList.push _⟩,?_,λh' tk hk=>?_⟩
 .intro i v s' Q' E' hv hQ';have hv':its[i]? = some v:=by simpa using hv
  have hi:i<its.length:=(Ak.mp hv').1;have hl:=rv.length;rw[Aa]at hl;have hb:bs[i]? = some (bs.getD i false):=by
   have hi':i<bs.length:=by lia
   simp[List.getD,Bc hi']
  obtain⟨u,hu,ru⟩:=rv.get (i:=i) (x:=.bl (bs.getD i false)) (by rw[Ax,hb];rfl);rw[hv']at hu;cases hu;cases (show v=Value.bool (bs.getD i false) from ru);exact Ao hQ'
 .have hl:=rv.length;rw[Aa]at hl;have e:(Bp its.toArray.size).any (λi=>bs.getD i false)=bs.any id:=by
   rw[Bg,<-hl,any_range]
  rw[e];refine⟨.bl (bs.any id),H,?_,rfl,q⟩;exact I.kept (t':=tk) λb o eb=>hk b o (λz=>by
   have:b=s.heap.objs.size:=by simpa using z
   exact absurd (Bi eb) (by rw[this];exact Dz _)) (Am _ eb)
def G4:List W->Mm->K3->Prop
 | [.ref a],M,R=>∃bs,M a=some (.lst (bools bs))/\R (.bl (bs.any id)) M
 | [.rl ws],M,R=>∃bs,ws=bools bs/\R (.bl (bs.any id)) M
 | _,_,_=>False
theorem XG(hc:X.calm=true):b7 X (.builtin "any") (e8 X.K G4):=by
 rintro pins s Z H xs us Q I rs ⟨ws,M,R,am,axs,h,k⟩
 match ws,h with
 | [.ref a],h=>
  obtain⟨v,rfl,av⟩:=axs.one;obtain rfl:=av.inv;obtain⟨bs,e,r⟩:=h;obtain⟨vs,f,q⟩:=am.lst e;rw[q.bools]at f;exact G3 hc pins s Z H _ us Q I rs ⟨a,bs,rfl,bH.of f,k.at am (.bl _) r⟩
 | [.rl ws],h=>
  obtain⟨v,rfl,av⟩:=axs.one;obtain⟨bs,rfl,r⟩:=h;cases av with
  | rl f _ q=>
   rw[q.bools]at f;exact G3 hc pins s Z H _ us Q I rs ⟨_,bs,rfl,bH.of f,k.at am (.bl _) r⟩
end
def gT:Nat->List W->List W
 | _,[]=>[]
 | n,w::r=>.tup [.int n,w]::gT (n+1) r
theorem mB:∀{ws:List W} {n:Nat},(gT n ws).length=ws.length
 | [],_=>rfl
 | _::r,n=>by simp[gT,mB (ws:=r)]
theorem sX:∀{ws:List W} {n i:Nat},(gT n ws)[i]? = (ws[i]?).map λw=>W.tup [.int ((n+i:Nat):Int),w]
 | [],_,_=>by simp[gT]
 | w::r,n,0=>by simp[gT]
 | w::r,n,i+1=>by
  rw[gT,De,De,sX];congr 2;funext w;congr 4;lia
section
variable {X:Cx}{a b c:Expr}{ta tb tc:aY}{pos:Pos}
theorem G5{K:Ab}{H0:Hp}{M0:Mm}{p:Addr}{vs:List V}{ws:List W}{keep:Mm->Prop}(q0:aL K H0 M0 vs ws)(am0:AM K H0 M0)(st:∀H M,Kp H0 M0 H M->AM K H M->keep M->bH K H p vs):iM K H0 M0 (wI K p vs) (gT 0 ws) keep:=by
 refine⟨λi H M k am kp hi=>⟨st H M k am kp,by rw[mB]at hi;rw[q0.length];exact hi⟩,λH M k am kp=>⟨st H M k am kp,by rw[mB,q0.length];exact Ag _⟩,λi H M x H' k am kp hi y=>?_⟩;obtain⟨pp,u,hu,hn,rfl,rfl⟩:=y;obtain⟨w,hw,av⟩:=(q0.kp am0 k).getV hu;obtain⟨am2,k2⟩:=am.tup (u:=.tup [.int (i:Nat),u]) hn;refine⟨.tup [.int ((i:Nat):Int),w],by rw[sX,hw];simp,k2,am2,.tup cU (.cons (.int _) (.cons (av.go (go_same hn)) .nil))⟩
def xN(ta:dP):h8:=λτ M R=>ta τ M λws M1=>match ws with
 | [.rl zs]=>R (gT 0 zs) (λ_=>True) M1
 | [.sc zs]=>R (gT 0 zs) (λ_=>True) M1
 | [.ref p]=>∃zs,M1 p=some (.lst zs)/\False
 | _=>False
theorem G6{tA:dP}{p pos:Pos}{es:List Expr}{kx:Nat}{px:Pos}(hg:Gl X "enumerate")(hm:X.mg "enumerate" = none)(ha:A3 X [a] tA)(hs:Br [a] X.env=[(false,eval a X.env)]:=by rfl):PI X (.Tuple es kx px) (.Call (.Name "enumerate" p) [a] [] pos) (gS X.K (xN tA)):=
 (U4 hg hm ha hs).weak λZ H R' z0=>z0.el λτ M R as am h k=>⟨τ,M,_,as,am,h,λvs H1 ws M1 k1 am1 ax r=>by
  match ws,r with
  | [.rl zs],r=>
   obtain⟨v,rfl,av⟩:=ax.one;cases av with
   | rl e n q=>exact⟨_,_,rfl,bH.of e,k _ _ _ _ _ k1 am1 (G5 q am1 λH M k _ _=>bH.of (k.fr _ _ n e).1) r⟩
  | [.sc zs],r=>
   obtain⟨v,rfl,av⟩:=ax.one;cases av with
   | sc e q=>exact⟨_,_,rfl,e.sq,k _ _ _ _ _ k1 am1 (G5 q am1 λH M k _ _=>by
     refine kY.sq ?_;rcases e with⟨o,e⟩|e
     .exact .inl ⟨o,(k.fr _ _ (am1.noFrz e) e).1⟩
     .exact .inr e) r⟩
  | [.ref p],r=>obtain⟨_,_,f⟩:=r;exact f.elim⟩
end
section
variable {X:Cx}
theorem aL.intsL{K:Ab}{H:Hp}{M:Mm}{ns:List Int}{vs:List V}(h:aL K H M vs (ns.map W.int)):vs=ns.map V.int:=h.ints
def G7:List W->Mm->K3->Prop
 | [.rl ws],M,R=>∃ns:List Int,ws=ns.map W.int/\R (.int ns.sum) M
 | _,_,_=>False
theorem XH(hc:X.calm=true):b7 X (.builtin "sum") (e8 X.K G7):=by
 rintro pins s Z H xs us Q I rs ⟨ws,M,R,am,axs,h,k⟩
 match ws,h with
 | [.rl ws],h=>
  obtain⟨v,rfl,av⟩:=axs.one;obtain⟨ns,rfl,r⟩:=h;cases av with
  | rl f _ q=>
   rw[q.intsL]at f;exact VA hc pins s Z H _ us Q I rs ⟨_,ns,rfl,bH.of f,k.at am (.int _) r⟩
def XI:List W->Mm->K3->Prop
 | [.dk kvs],M,R=>∃ks:List Str,kvs.map Cu=ks.map Sum.inr/\ks.length<64/\∀ss:List Str,ss.Perm ks->aZ (ss.map W.str) M R
 | _,_,_=>False
def G8:List W->Mm->K3->Prop
 | [.dk kvs],M,R=>∃ks:List Str,kvs.map Cu=ks.map Sum.inr/\ks.length<64/\∀ss:List Str,ss.Perm ks->R (.rl (ss.map W.str)) M
 | _,_,_=>False
theorem XJ{K:Ab}{H:Hp}{M:Mm}(ss:List Str):aL K H M (ss.map V.str) (ss.map W.str):=by
 induction ss with
 | nil=>exact .nil
 | cons s r ih=>exact .cons (.str s) ih
theorem XM(hc:X.calm=true):b7 X (.builtin "sorted") (e8 X.K XI):=by
 rintro pins s Z H xs us Q I rs ⟨ws,M,R,am,axs,h,k⟩
 match ws,h with
 | [.dk kvs],h=>
  obtain⟨v,rfl,av⟩:=axs.one;obtain⟨ks,hk,h64,r⟩:=h;cases av with
  | dk e n ke q=>exact U9 hc pins s Z H _ us Q I rs ⟨_,_,ks,rfl,e,ke.trans hk,h64,λss hp p hp'=>iJ am k hp' (XJ ss) (r ss hp)⟩
theorem XN(hc:X.calm=true):b7 X (.builtin "sorted") (e8 X.K G8):=GQ (XM hc) λx M R h=>by
 match x,h with
 | [.dk kvs],⟨ks,h1,h2,r⟩=>exact⟨ks,h1,h2,λss hp=>aZ.frz (r ss hp)⟩
end
end L3
namespace Rg
open PySem Spec PyProof.Rows L2 L3
structure aP where
 name:Str
 parts:List Str
 cost:Int
def cZ(acc:List Str)(t:Str):List Str:=if t∈acc then acc else acc++[t]
def nE(acc:List Str)(rs:List aP):List Str:=(rs.map aP.name).foldl cZ acc
def namesOf(rs:List aP):List Str:=nE [] rs
theorem qI{acc:List Str}{t u:Str}:u∈cZ acc t↔u∈acc\/u=t:=by
 unfold cZ;split
 .rename_i h;constructor
  .exact .inl
  .rintro(q|q)
   .exact q
   .rw[q];exact h
 .rw[Aw,An]
theorem XO{acc:List Str}{t:Str}:(cZ acc t).length<=acc.length+1:=by
 unfold cZ;split
 .lia
 .rw[Ar];exact Ag _
theorem sY:∀{ts acc:List Str} {u:Str},u∈ts.foldl cZ acc↔u∈acc\/u∈ts
 | [],acc,u=>by simp
 | t::r,acc,u=>by
  rw[Ex,sY,qI,Bj];constructor
  .rintro((h|h)|h)
   .exact .inl h
   .exact .inr (.inl h)
   .exact .inr (.inr h)
  .rintro(h|h|h)
   .exact .inl (.inl h)
   .exact .inl (.inr h)
   .exact .inr h
theorem jC{rs:List aP}{u:Str}:u∈namesOf rs↔∃r∈rs,r.name=u:=by
 unfold namesOf nE;rw[sY];simp
theorem xO:∀(ts acc:List Str),(ts.foldl cZ acc).length<=acc.length+ts.length
 | [],acc=>by simp
 | t::r,acc=>by
  rw[Ex,Az];have:=xO r (cZ acc t);have:=XO (acc:=acc) (t:=t);lia
def eX(r:aP):W:=.tup [.str r.name,.tup (r.parts.map W.str),.int r.cost]
def bL(rs:List aP):W:=.rl (rs.map eX)
def a7(rs:List aP)(t:Str):Bool:=decide (t∈namesOf rs)
abbrev aJ:=Int×Int
def cF(a b:aJ):Bool:=decide (a.1<b.1)||(decide (a.1=b.1)&&decide (a.2<b.2))
theorem oK{a b:aJ}:cF a b=true↔a.1<b.1\/a.1=b.1/\a.2<b.2:=by simp[cF]
def Le(a b:aJ):Prop:=a.1<b.1\/a.1=b.1/\a.2<=b.2
theorem xP{a b:aJ}:Le a b↔¬cF b a=true:=by
 rw[oK];unfold Le;lia
theorem Le.refl(a:aJ):Le a a:=.inr ⟨rfl,Ig _⟩
theorem Le.trans{a b c:aJ}(h:Le a b)(h':Le b c):Le a c:=by unfold Le at *;lia
theorem Le.of_lt{a b:aJ}(h:cF a b=true):Le a b:=by rw[oK]at h;unfold Le;lia
theorem Le.antisymm{a b:aJ}(h:Le a b)(h':Le b a):a=b:=by
 unfold Le at *;exact Iz (by lia) (by lia)
theorem qJ{a:aJ}:¬cF a a=true:=by rw[oK];lia
theorem qK{a b c:aJ}(h:cF a b=true)(h':Le b c):cF a c=true:=by rw[oK]at *;unfold Le at h';lia
def dY(a b:aJ):aJ:=(a.1+b.1,a.2+b.2)
theorem XQ{a b c d:aJ}(h:Le a b)(h':Le c d):Le (dY a c) (dY b d):=by unfold Le dY at *;simp only;lia
section
variable {U J:Type}[DecidableEq U]
def aI(t:List (U×J))(k:U):Option J:=(t.find? λe=>decide (e.1=k)).map (·.2)
def dA(t:List (U×J))(k:U)(v:J):List (U×J):=if (t.any λe=>decide (e.1=k))=true then t.map (λe=>if e.1=k then(e.1,v) else e) else t++[(k,v)]
theorem dG(e:U×J)(t:List (U×J))(k:U):aI (e::t) k=if e.1=k then some e.2 else aI t k:=by
 unfold aI;rw[Ey]
 by_cases h:e.1=k
 .rw[decide_eq_true h,if_pos h];rfl
 .rw[decide_eq_false h,if_neg h]
theorem mC(t:List (U×J))(k:U):(t.any λe=>decide (e.1=k))=(aI t k).isSome:=by
 induction t with
 | nil=>rfl
 | cons e t ih=>
  rw[Ei,dG,ih]
  by_cases h:e.1=k
  .rw[decide_eq_true h,if_pos h];rfl
  .rw[decide_eq_false h,if_neg h];rfl
theorem xQ(t:List (U×J))(k j:U)(v:J):aI (t++[(k,v)]) j=(aI t j).or (if k=j then some v else none):=by
 induction t with
 | nil=>rw[Ci,dG];rfl
 | cons e t ih=>
  rw[List.cons_append,dG,dG,ih];split<;>rfl
theorem XR(t:List (U×J))(k j:U)(v:J)(h:(aI t k).isSome=true):aI (t.map (λe=>if e.1=k then(e.1,v) else e)) j=if k=j then some v else aI t j:=by
 induction t with
 | nil=>cases h
 | cons e t ih=>
  rw[Ay,dG,dG];rw[dG]at h
  by_cases hk:e.1=k
  .rw[if_pos hk]
   by_cases hj:k=j
   .rw[if_pos (by rw[hk,hj]:(e.1,v).1=j),if_pos hj]
   .rw[if_neg (by rw[hk];exact hj),if_neg hj,if_neg (by rw[hk];exact hj)]
    by_cases ht:(aI t k).isSome=true
    .rw[ih ht,if_neg hj]
    .have:∀{t:List (U×J)},¬(aI t k).isSome=true->t.map (λe=>if e.1=k then(e.1,v) else e)=t:=by
      intro t
      induction t with
      | nil=>intro _;rfl
      | cons a t ih=>
       intro h;rw[dG]at h
       by_cases ha:a.1=k
       .rw[if_pos ha]at h;exact absurd rfl h
       .rw[if_neg ha]at h;rw[Ay,if_neg ha,ih h]
     rw[this ht]
  .rw[if_neg hk]at h⊢
   by_cases hj:e.1=j
   .rw[if_pos hj,if_pos hj,if_neg (λz=>hk (by rw[hj,z]))]
   .rw[if_neg hj,if_neg hj];exact ih h
theorem kI(t:List (U×J))(k j:U)(v:J):aI (dA t k v) j=if k=j then some v else aI t j:=by
 unfold dA;rw[mC];split
 .rename_i h;exact XR t k j v h
 .rename_i h;rw[xQ]
  by_cases hj:k=j
  .subst hj;rw[if_pos rfl,if_pos rfl];cases e:aI t k with
   | none=>rfl
   | some z=>rw[e]at h;exact absurd rfl h
  .rw[if_neg hj,if_neg hj,Option.or_none]
theorem mD(t:List (U×J))(k:U)(v:J):(dA t k v).length<=t.length+1:=by
 unfold dA;split
 .rw[Aa];lia
 .simp
def eY{γ:Type}(t:List (U×List γ))(k:U)(v:γ):List (U×List γ):=dA t k ((aI t k).getD []++[v])
theorem qL{γ:Type}(t:List (U×List γ))(k j:U)(v:γ):(aI (eY t k v) j).getD []=if k=j then(aI t j).getD []++[v] else(aI t j).getD []:=by
 unfold eY;rw[kI]
 by_cases h:k=j
 .subst h;rw[if_pos rfl,if_pos rfl];rfl
 .rw[if_neg h,if_neg h]
end
section
variable {O:Type}
def dH(c:aJ)(x:O):List (aJ×List O)->List (aJ×List O)
 | []=>[(c,[x])]
 | (d,xs)::r=>if cF c d=true then(d,xs)::dH c x r else if d=c then(d,xs++[x])::r else(c,[x])::(d,xs)::r
def a5:List (aJ×List O)->List (aJ×O)
 | []=>[]
 | (d,xs)::r=>xs.map (λx=>(d,x))++a5 r
theorem sZ(c:aJ)(x:O):∀q:List (aJ×List O),(a5 (dH c x q)).length=(a5 q).length+1
 | []=>rfl
 | (d,xs)::r=>by
  rw[dH];split
  .rw[a5,a5,Ar,Ar,sZ c x r];lia
  .split
   .rw[a5,a5,Ar,Ar,Bk,Ar];simp;lia
   .simp[a5]
def gU:List (aJ×List O)->Prop
 | []=>True
 | (d,xs)::r=>xs≠[]/\(∀e∈r,cF e.1 d=true)/\gU r
theorem G9(c:aJ)(x:O):∀q:List (aJ×List O),∀e∈dH c x q,e.1=c\/∃e'∈q,e'.1=e.1
 | [],e,h=>by simp[dH]at h;exact .inl (by rw[h])
 | (d,xs)::r,e,h=>by
  rw[dH]at h;split at h
  .rcases Bj.mp h with z|z
   .exact .inr ⟨(d,xs),by simp,by rw[z]⟩
   .rcases G9 c x r e z with q|⟨e',q1,q2⟩
    .exact .inl q
    .exact .inr ⟨e',Af _ q1,q2⟩
  .split at h
   .rcases Bj.mp h with z|z
    .exact .inr ⟨(d,xs),by simp,by rw[z]⟩
    .exact .inr ⟨e,Af _ z,rfl⟩
   .rcases Bj.mp h with z|z
    .exact .inl (by rw[z])
    .exact .inr ⟨e,z,rfl⟩
theorem xR(c:aJ)(x:O):∀{q:List (aJ×List O)},gU q->gU (dH c x q)
 | [],_=>⟨by simp,by simp,trivial⟩
 | (d,xs)::r,h=>by
  obtain⟨h1,h2,h3⟩:=h;rw[dH];split
  .rename_i hlt;refine⟨h1,λe he=>?_,xR c x h3⟩;rcases G9 c x r e he with z|⟨e',z1,z2⟩
   .rw[z];exact hlt
   .rw[<-z2];exact h2 e' z1
  .rename_i hlt;split
   .rename_i hd;subst hd;exact⟨by simp,h2,h3⟩
   .rename_i hd;have hdc:cF d c=true:=by
     have hlt':¬(c.1<d.1\/c.1=d.1/\c.2<d.2):=by rw[<-oK];exact hlt
     rw[oK]
     by_cases h1:d.1=c.1
     .refine .inr ⟨h1,?_⟩;have:d.2≠c.2:=λh2=>hd (Iz h1 h2);lia
     .left;lia
    refine⟨by simp,λe he=>?_,h1,h2,h3⟩;rcases Bj.mp he with z|z
    .rw[z];exact hdc
    .exact qK (h2 e z) (Le.of_lt hdc)
def iA:List (aJ×List O)->Option (aJ×O×List (aJ×List O))
 | []=>none
 | [(d,xs)]=>match xs.getLast? with
  | none=>none
  | some x=>some (d,x,if xs.dropLast.isEmpty then [] else [(d,xs.dropLast)])
 | e::e2::r=>match iA (e2::r) with
  | none=>none
  | some (d,x,q)=>some (d,x,e::q)
theorem nF:∀{q:List (aJ×List O)},gU q->q≠[]->∃d x q',iA q=some (d,x,q')/\gU q'/\(∀e,e∈a5 q↔e=(d,x)\/e∈a5 q')/\(a5 q).length=(a5 q').length+1/\(∀e∈q,Le d e.1)/\∀e∈q',∃e'∈q,e'.1=e.1
 | [],_,h=>absurd rfl h
 | [(d,xs)],h,_=>by
  obtain⟨h1,_,_⟩:=h;rcases Gj xs with z|⟨ys,y,z⟩
  .exact absurd z h1
  .rw[Gk]at z;subst z;refine⟨d,y,if ys.isEmpty then [] else [(d,ys)],by simp[iA],?_,λe=>?_,?_,λe he=>?_,λe he=>?_⟩
   .cases ys with
    | nil=>trivial
    | cons a b=>exact⟨by simp,by simp,trivial⟩
   .cases ys with
    | nil=>simp[a5]
    | cons a b=>simp[a5];constructor<;>(intro h;rcases h with h|h|h<;>simp[h])
   .cases ys with
    | nil=>simp[a5]
    | cons a b=>simp[a5]
   .rw[An.mp he];exact Le.refl _
   .cases ys with
    | nil=>cases he
    | cons a b=>simp at he;exact⟨(d,a::b++[y]),by simp,by rw[he]⟩
 | e::e2::r,h,_=>by
  obtain⟨h1,h2,h3⟩:=h;obtain⟨d,x,q',e1,f1,m1,l1,c1,k1⟩:=nF h3 (by simp);refine⟨d,x,e::q',by rw[iA,e1],⟨h1,λz hz=>?_,f1⟩,λz=>?_,?_,λz hz=>?_,λz hz=>?_⟩
  .obtain⟨z',hz',ez⟩:=k1 z hz;rw[<-ez];exact h2 z' hz'
  .rw[a5,Aw,m1,a5,Aw];constructor
   .rintro(h|h|h)
    .exact .inr (.inl h)
    .exact .inl h
    .exact .inr (.inr h)
   .rintro(h|h|h)
    .exact .inr (.inl h)
    .exact .inl h
    .exact .inr (.inr h)
  .rw[a5,Ar,l1,a5,Ar];lia
  .rcases Bj.mp hz with q|q
   .rw[q];have:=c1 e2 Ai;exact this.trans (Le.of_lt (h2 e2 Ai))
   .exact c1 z q
  .rcases Bj.mp hz with q|q
   .exact⟨e,Ai,by rw[q]⟩
   .obtain⟨z',hz',ez⟩:=k1 z q;exact⟨z',Af _ hz',ez⟩
theorem HA{q:List (aJ×List O)}{e:aJ×O}(h:e∈a5 q):∃b∈q,b.1=e.1:=by
 induction q with
 | nil=>cases h
 | cons b r ih=>
  obtain⟨d,xs⟩:=b;rw[a5]at h;rcases Aw.mp h with z|z
  .obtain⟨x,_,rfl⟩:=Au.mp z;exact⟨(d,xs),Ai,rfl⟩
  .obtain⟨b,hb,e1⟩:=ih z;exact⟨b,Af _ hb,e1⟩
end
section
variable {O:Type}
theorem HB(c:aJ)(x:O):∀q:List (aJ×List O),(a5 (dH c x q)).Perm ((c,x)::a5 q)
 | []=>.refl _
 | (d,xs)::r=>by
  rw[dH];split
  .rw[a5,a5];exact(List.Perm.append_left _ (HB c x r)).trans List.perm_middle
  .split
   .rename_i hd;subst hd;rw[a5,a5,Bk,Dj];exact List.perm_middle
   .exact .refl _
theorem xS:∀{q q':List (aJ×List O)} {d:aJ} {x:O},gU q->iA q=some (d,x,q')->(a5 q).Perm ((d,x)::a5 q')
 | [],q',d,x,_,h=>by cases h
 | [(d0,xs)],q',d,x,hf,h=>by
  obtain⟨h1,_,_⟩:=hf;rcases Gj xs with z|⟨ys,y,z⟩
  .exact absurd z h1
  .rw[Gk]at z;subst z;simp[iA]at h;obtain⟨rfl,rfl,rfl⟩:=h;cases ys with
   | nil=>exact .refl _
   | cons a b=>
    rw[if_neg (by simp)];simp only[a5,Cf,Bk,Ay,Gw];exact List.perm_append_singleton _ _
 | e::e2::r,q',d,x,hf,h=>by
  obtain⟨_,_,h3⟩:=hf;rw[iA]at h;split at h
  .cases h
  .rename_i d1 x1 q1 e1;simp only[Gd,Dx]at h;obtain⟨rfl,rfl,rfl⟩:=h;have ih:=xS h3 e1;obtain⟨d0,xs⟩:=e;rw[a5,a5];exact(List.Perm.append_left _ ih).trans List.perm_middle
end
structure Sr where
 rs:List aP
 own:Str->Bool
 places:List Int
 steps:Str->Int->List (Int×Int)
 wt:Nat->Int
structure qM(G:Sr):Prop where
 wt:∀n,0<=G.wt n
 pr:∀t p e c,(e,c)∈G.steps t p->0<=c
abbrev K4:=Nat×Nat×Int×Int
abbrev cT:=Str×Int×Int
abbrev bT:=Nat×List Int×aJ
def bK(n:Nat)(cut:List Int):K4:=(n,cut.length,cut.headD 0,cut.getLastD 0)
def lF(y:bT):K4:=bK y.1 y.2.1
abbrev bZ:=List (cT×aJ×Nat×List Int)
structure SS where
 q:List (aJ×List (Nat×List Int))
 reached:List (K4×aJ)
 best:bZ
 ends:List ((Str×Int)×List (Int×aJ))
 begun:List ((Str×Int)×List bT)
def reach(st:SS)(n:Nat)(cut:List Int)(c:aJ):SS:=match aI st.reached (bK n cut) with
 | some d=>if cF c d=true then {st with reached:=dA st.reached (bK n cut) c,q:=dH c (n,cut) st.q} else st
 | none=>{st with reached:=dA st.reached (bK n cut) c,q:=dH c (n,cut) st.q}
inductive GI(G:Sr)(B:bZ):Nat->List Int->aJ->Prop
 | start {n:Nat} {r:aP} {p:Int}:G.rs[n]? = some r->p∈G.places->GI G B n [p] (G.wt n,1)
 | word {n:Nat} {r:aP} {cut:List Int} {c:aJ} {part:Str} {e pr:Int}:GI G B n cut c->G.rs[n]? = some r->r.parts[cut.length-1]? = some part->G.own part=false->(e,pr)∈G.steps part (cut.getLastD 0)->GI G B n (cut++[e]) (c.1+pr,c.2)
 | name {n:Nat} {r:aP} {cut:List Int} {c m:aJ} {part:Str} {e:Int} {k:Nat×List Int}:GI G B n cut c->G.rs[n]? = some r->r.parts[cut.length-1]? = some part->G.own part=true->aI B (part,cut.getLastD 0,e)=some (m,k)->GI G B n (cut++[e]) (dY c m)
theorem GI.mono{G:Sr}{B B':bZ}(h:∀f v,aI B f=some v->aI B' f=some v){n:Nat}{cut:List Int}{c:aJ}(g:GI G B n cut c):GI G B' n cut c:=by
 induction g with
 | start a b=>exact .start a b
 | word _ a b c d ih=>exact .word ih a b c d
 | name _ a b c d ih=>exact .name ih a b c (h _ _ d)
theorem GI.ne{G:Sr}{B:bZ}{n:Nat}{cut:List Int}{c:aJ}(g:GI G B n cut c):cut≠[]:=by cases g<;>simp
def qk(e:aJ×(Nat×List Int)):aJ×K4:=(e.1,bK e.2.1 e.2.2)
def fB(st:SS)(k:K4)(c:aJ):Prop:=∃d,aI st.reached k=some d/\Le d c
structure fD(G:Sr)(st:SS)(P:List bT)(cur:aJ):Prop where
 fall:gU st.q
 item:∀e∈a5 st.q,GI G st.best e.2.1 e.2.2 e.1
 ge:∀e∈a5 st.q,∃d,aI st.reached (bK e.2.1 e.2.2)=some d/\Le d e.1
 nd:((a5 st.q).map qk).Nodup
 once:(P.map lF).Nodup
 pr:∀y∈P,aI st.reached (lF y)=some y.2.2/\Le y.2.2 cur/\GI G st.best y.1 y.2.1 y.2.2
 fresh:∀e∈a5 st.q,∀y∈P,lF y=bK e.2.1 e.2.2->cF y.2.2 e.1=true
 curq:∀e∈a5 st.q,Le cur e.1
 hit:∀k d,aI st.reached k=some d->(∃e∈a5 st.q,e.1=d/\bK e.2.1 e.2.2=k)\/∃y∈P,lF y=k/\y.2.2=d
structure j0(st st':SS):Prop where
 best:st'.best=st.best
 ends:st'.ends=st.ends
 begun:st'.begun=st.begun
 le:∀k c,fB st k c->fB st' k c
theorem j0.refl(st:SS):j0 st st:=⟨rfl,rfl,rfl,λ_ _ h=>h⟩
theorem j0.trans{a b c:SS}(x:j0 a b)(y:j0 b c):j0 a c:=⟨y.best.trans x.best,y.ends.trans x.ends,y.begun.trans x.begun,λk c h=>y.le k c (x.le k c h)⟩
theorem XS{G:Sr}{st:SS}{P:List bT}{cur:aJ}{n:Nat}{cut:List Int}{c:aJ}(I:fD G st P cur)(g:GI G st.best n cut c)(hc:Le cur c):
  fD G (reach st n cut c) P cur/\j0 st (reach st n cut c)/\fB (reach st n cut c) (bK n cut) c:=by
 have push:(∀d,aI st.reached (bK n cut)=some d->cF c d=true)->fD G {st with reached:=dA st.reached (bK n cut) c,q:=dH c (n,cut) st.q} P cur/\j0 st {st with reached:=dA st.reached (bK n cut) c,q:=dH c (n,cut) st.q}/\fB {st with reached:=dA st.reached (bK n cut) c,q:=dH c (n,cut) st.q} (bK n cut) c:=by
  intro hlt;have hp:=HB c (n,cut) st.q;have hm:∀e,e∈a5 (dH c (n,cut) st.q)↔e=(c,(n,cut))\/e∈a5 st.q:=λe=>by rw[hp.mem_iff,Bj]
  have noP:∀y∈P,lF y≠bK n cut:=λy hy e=>by
   obtain⟨h1,h2,_⟩:=I.pr y hy;rw[e]at h1;have:=qK (hlt _ h1) (h2.trans hc);exact qJ this
  have le:∀k d,fB st k d->fB {st with reached:=dA st.reached (bK n cut) c,q:=dH c (n,cut) st.q} k d:=λk d h=>by
   obtain⟨z,h1,h2⟩:=h
   by_cases e:bK n cut=k
   .subst e;exact⟨c,by show aI (dA _ _ _) _=_;rw[kI,if_pos rfl],(Le.of_lt (hlt z h1)).trans h2⟩
   .exact⟨z,by show aI (dA _ _ _) _=_;rw[kI,if_neg e];exact h1,h2⟩
  refine⟨⟨xR _ _ I.fall,λe he=>?_,λe he=>?_,?_,I.once,λy hy=>?_,λe he y hy ek=>?_,λe he=>?_,λk d hd=>?_⟩,⟨rfl,rfl,rfl,le⟩,c,by show aI (dA _ _ _) _=_;rw[kI,if_pos rfl],Le.refl c⟩
  .rcases(hm e).mp he with z|z
   .rw[z];exact g
   .exact I.item e z
  .show ∃d,aI (dA _ _ _) _=_/\_;rw[kI];rcases(hm e).mp he with z|z
   .rw[z,if_pos rfl];exact⟨c,rfl,Le.refl _⟩
   .obtain⟨d,h1,h2⟩:=I.ge e z
    by_cases ek:bK n cut=bK e.2.1 e.2.2
    .rw[if_pos ek];rw[<-ek]at h1;exact⟨c,rfl,(Le.of_lt (hlt d h1)).trans h2⟩
    .rw[if_neg ek];exact⟨d,h1,h2⟩
  .rw[(hp.map qk).nodup_iff,Ay,Ee];refine⟨λz=>?_,I.nd⟩;obtain⟨e,he,eq⟩:=Au.mp z;obtain⟨d,h1,h2⟩:=I.ge e he;unfold qk at eq;rw[Dx]at eq;rw[eq.2]at h1;rw[eq.1]at h2;exact qJ (qK (hlt d h1) h2)
  .obtain⟨h1,h2,h3⟩:=I.pr y hy;refine⟨?_,h2,h3⟩;show aI (dA _ _ _) _=_;rw[kI,if_neg (Co (noP y hy))];exact h1
  .rcases(hm e).mp he with z|z
   .rw[z]at ek;exact absurd ek (noP y hy)
   .exact I.fresh e z y hy ek
  .rcases(hm e).mp he with z|z
   .rw[z];exact hc
   .exact I.curq e z
  .have hd:aI (dA st.reached (bK n cut) c) k=some d:=hd;rw[kI]at hd
   by_cases e:bK n cut=k
   .rw[if_pos e]at hd;cases hd;exact .inl ⟨(c,(n,cut)),(hm _).mpr (.inl rfl),rfl,e⟩
   .rw[if_neg e]at hd;rcases I.hit k d hd with⟨x,h1,h2,h3⟩|h
    .exact .inl ⟨x,(hm _).mpr (.inr h1),h2,h3⟩
    .exact .inr h
 unfold reach;cases h:aI st.reached (bK n cut) with
 | none=>exact push λd e=>by rw[h]at e;cases e
 | some d=>
  simp only;split
  .rename_i hl;exact push λd' e=>by rw[h]at e;cases e;exact hl
  .rename_i hl;exact⟨I,j0.refl st,d,h,xP.mpr hl⟩
theorem qN{G:Sr}{P:List bT}{cur:aJ}{O:Type}(f:O->Nat×List Int×aJ):∀(xs:List O) {st:SS},fD G st P cur->(∀x∈xs,GI G st.best (f x).1 (f x).2.1 (f x).2.2/\Le cur (f x).2.2)->
  fD G (xs.foldl (λst x=>reach st (f x).1 (f x).2.1 (f x).2.2) st) P cur/\j0 st (xs.foldl (λst x=>reach st (f x).1 (f x).2.1 (f x).2.2) st)/\∀x∈xs,fB (xs.foldl (λst x=>reach st (f x).1 (f x).2.1 (f x).2.2) st) (bK (f x).1 (f x).2.1) (f x).2.2
 | [],st,I,_=>⟨I,j0.refl st,λx hx=>nomatch hx⟩
 | x::xs,st,I,h=>by
  obtain⟨h1,h2⟩:=h x Ai;obtain⟨I1,g1,r1⟩:=XS I h1 h2;obtain⟨I2,g2,r2⟩:=qN f xs I1 λy hy=>by
   have:=h y (Af _ hy);rw[g1.best];exact this
  refine⟨I2,g1.trans g2,λy hy=>?_⟩;rcases Bj.mp hy with z|z
  .rw[z];exact g2.le _ _ r1
  .exact r2 y z
def c0(G:Sr)(n:Nat):Str:=match G.rs[n]? with
 | some r=>r.name
 | none=>""
def dJ(G:Sr)(n:Nat)(cut:List Int):Option Str:=match G.rs[n]? with
 | some r=>r.parts[cut.length-1]?
 | none=>none
def cQ(G:Sr)(n:Nat)(cut:List Int):cT:=(c0 G n,cut.headD 0,cut.getLastD 0)
def settle(G:Sr)(st:SS)(n:Nat)(cut:List Int)(c:aJ):SS:=match aI st.best (cQ G n cut) with
 | some _=>st
 | none=>((aI st.begun (c0 G n,cut.headD 0)).getD []).foldl (λst y=>reach st y.1 (y.2.1++[cut.getLastD 0]) (dY y.2.2 c)) {st with best:=st.best++[(cQ G n cut,c,n,cut)],ends:=eY st.ends (c0 G n,cut.headD 0) (cut.getLastD 0,c)}
def fT(st:SS)(n:Nat)(cut:List Int)(c:aJ)(part:Str):SS:=((aI st.ends (part,cut.getLastD 0)).getD []).foldl (λst z=>reach st n (cut++[z.1]) (dY c z.2)) {st with begun:=eY st.begun (part,cut.getLastD 0) (n,cut,c)}
def fZ(G:Sr)(st:SS)(n:Nat)(cut:List Int)(c:aJ)(part:Str):SS:=(G.steps part (cut.getLastD 0)).foldl (λst z=>reach st n (cut++[z.1]) (c.1+z.2,c.2)) st
def process(G:Sr)(st:SS)(n:Nat)(cut:List Int)(c:aJ):SS:=match dJ G n cut with
 | none=>settle G st n cut c
 | some part=>if G.own part=true then fT st n cut c part else fZ G st n cut c part
structure Ob(G:Sr)(st:SS)(P:List bT)(cur:aJ):Prop where
 zero:Le (0,0) cur
 fin:∀y∈P,dJ G y.1 y.2.1=none->∃m k,aI st.best (cQ G y.1 y.2.1)=some (m,k)/\Le m y.2.2
 wrd:∀y∈P,∀part,dJ G y.1 y.2.1=some part->G.own part=false->∀z∈G.steps part (y.2.1.getLastD 0),fB st (bK y.1 (y.2.1++[z.1])) (y.2.2.1+z.2,y.2.2.2)
 nam:∀y∈P,∀part,dJ G y.1 y.2.1=some part->G.own part=true->y∈(aI st.begun (part,y.2.1.getLastD 0)).getD []
 pair:∀key,∀y∈(aI st.begun key).getD [],∀z∈(aI st.ends key).getD [],fB st (bK y.1 (y.2.1++[z.1])) (dY y.2.2 z.2)
 bgn:∀key,∀y∈(aI st.begun key).getD [],y∈P/\dJ G y.1 y.2.1=some key.1/\G.own key.1=true/\y.2.1.getLastD 0=key.2/\Le (0,0) y.2.2
 ends:∀nm b e m,(e,m)∈(aI st.ends (nm,b)).getD []↔∃k,aI st.best (nm,b,e)=some (m,k)
 bst:∀f m n cut,aI st.best f=some (m,n,cut)->dJ G n cut=none/\f=cQ G n cut/\Le (0,0) m/\Le m cur
 ord:∀pre e post,st.best=pre++e::post->GI G pre e.2.2.1 e.2.2.2 e.2.1/\aI pre e.1=none
theorem XT{a b:aJ}(h:Le (0,0) b):Le a (dY a b):=by unfold Le dY at *;simp only at *;lia
theorem XU{a b:aJ}(h:Le (0,0) b):Le a (dY b a):=by unfold Le dY at *;simp only at *;lia
theorem XW{G:Sr}{st:SS}{P:List bT}{cur c:aJ}{n:Nat}{cut:List Int}{q':List (aJ×List (Nat×List Int))}(I:fD G st P cur)(ht:iA st.q=some (c,(n,cut),q'))(hr:aI st.reached (bK n cut)=some c):fD G {st with q:=q'} (P++[(n,cut,c)]) c/\Le cur c/\GI G st.best n cut c:=by
 have hne:st.q≠[]:=λe=>by rw[e]at ht;cases ht
 obtain⟨d,x,q1,e1,f1,m1,l1,c1,_⟩:=nF I.fall hne;rw[ht]at e1;simp only[Gd,Dx]at e1;obtain⟨rfl,rfl,rfl⟩:=e1;have hp:=xS I.fall ht;have hin:(c,(n,cut))∈a5 st.q:=(m1 _).mpr (.inl rfl);have sub:∀e∈a5 q',e∈a5 st.q:=λe he=>(m1 e).mpr (.inr he);have hcur:=I.curq _ hin;have hnd:=I.nd;rw[(hp.map qk).nodup_iff,Ay,Ee]at hnd;have hmin:∀e∈a5 q',Le c e.1:=λe he=>by
  obtain⟨b,hb,eb⟩:=HA (sub e he);rw[<-eb];exact c1 b hb
 have noP:∀y∈P,lF y≠bK n cut:=λy hy e=>by
  have h1:=I.fresh _ hin y hy e;obtain⟨h2,_,_⟩:=I.pr y hy;rw[e,hr]at h2;cases h2;exact qJ h1
 refine⟨⟨f1,λe he=>I.item e (sub e he),λe he=>I.ge e (sub e he),hnd.2,?_,λy hy=>?_,λe he y hy ek=>?_,hmin,λk d hd=>?_⟩,hcur,I.item _ hin⟩
 .rw[Bk,Ck];refine⟨I.once,by simp,λa ha b hb e=>?_⟩;obtain⟨y,hy,rfl⟩:=Au.mp ha;rw[List.map_singleton,An]at hb;exact noP y hy (by rw[e,hb];rfl)
 .rcases Aw.mp hy with z|z
  .obtain⟨h1,h2,h3⟩:=I.pr y z;exact⟨h1,h2.trans hcur,h3⟩
  .rw[An.mp z];exact⟨hr,Le.refl _,I.item _ hin⟩
 .rcases Aw.mp hy with z|z
  .exact I.fresh e (sub e he) y z ek
  .have hy':=An.mp z;subst hy';have h1:=hmin e he;have hne:e.1≠c:=λe1=>hnd.1 (Au.mpr ⟨e,he,by
    have ek':bK n cut=bK e.2.1 e.2.2:=ek;show(e.1,bK e.2.1 e.2.2)=(c,bK n cut);rw[e1,ek']⟩)
   show cF c e.1=true;cases hh:cF c e.1 with
   | true=>rfl
   | false=>exact absurd (Le.antisymm (xP.mpr (by rw[hh];decide)) h1) hne
 .rcases I.hit k d hd with⟨e,h1,h2,h3⟩|⟨y,h1,h2⟩
  .rcases(m1 e).mp h1 with z|z
   .subst z;exact .inr ⟨(n,cut,c),Ba _ (An.mpr rfl),h3,h2⟩
   .exact .inl ⟨e,z,h2,h3⟩
  .exact .inr ⟨y,Bh _ h1,h2⟩
theorem XX{G:Sr}{st:SS}{P:List bT}{cur c d:aJ}{n:Nat}{cut:List Int}{q':List (aJ×List (Nat×List Int))}(I:fD G st P cur)(ht:iA st.q=some (c,(n,cut),q'))(hr:aI st.reached (bK n cut)=some d)(hd:cF d c=true):fD G {st with q:=q'} P c/\Le cur c:=by
 have hne:st.q≠[]:=λe=>by rw[e]at ht;cases ht
 obtain⟨d1,x,q1,e1,f1,m1,l1,c1,_⟩:=nF I.fall hne;rw[ht]at e1;simp only[Gd,Dx]at e1;obtain⟨rfl,rfl,rfl⟩:=e1;have hp:=xS I.fall ht;have hin:(c,(n,cut))∈a5 st.q:=(m1 _).mpr (.inl rfl);have sub:∀e∈a5 q',e∈a5 st.q:=λe he=>(m1 e).mpr (.inr he);have hcur:=I.curq _ hin;have hnd:=I.nd;rw[(hp.map qk).nodup_iff,Ay,Ee]at hnd;refine⟨⟨f1,λe he=>I.item e (sub e he),λe he=>I.ge e (sub e he),hnd.2,I.once,λy hy=>?_,λe he y hy ek=>I.fresh e (sub e he) y hy ek,λe he=>?_,λk d2 hd2=>?_⟩,hcur⟩
 .obtain⟨h1,h2,h3⟩:=I.pr y hy;exact⟨h1,h2.trans hcur,h3⟩
 .obtain⟨b,hb,eb⟩:=HA (sub e he);rw[<-eb];exact c1 b hb
 .rcases I.hit k d2 hd2 with⟨e,h1,h2,h3⟩|h
  .rcases(m1 e).mp h1 with z|z
   .subst z;have h3:bK n cut=k:=h3;have h2:c=d2:=h2;have hd2':aI st.reached k=some d2:=hd2;rw[<-h3,hr]at hd2';cases hd2';rw[<-h2]at hd;exact absurd hd qJ
   .exact .inl ⟨e,z,h2,h3⟩
  .exact .inr h
theorem Ob.later{G:Sr}{st:SS}{P:List bT}{cur c:aJ}(o:Ob G st P cur)(h:Le cur c)(q':List (aJ×List (Nat×List Int))):Ob G {st with q:=q'} P c:=
 ⟨o.zero.trans h,o.fin,o.wrd,o.nam,o.pair,o.bgn,o.ends,λf m n cut e=>let ⟨h1,h2,h3,h4⟩:=o.bst f m n cut e;⟨h1,h2,h3,h4.trans h⟩,o.ord⟩
theorem GI.rule{G:Sr}{B:bZ}{n:Nat}{cut:List Int}{c:aJ}(g:GI G B n cut c):∃r,G.rs[n]? = some r:=by
 cases g with
 | start a _=>exact⟨_,a⟩
 | word _ a _ _ _=>exact⟨_,a⟩
 | name _ a _ _ _=>exact⟨_,a⟩
theorem part_of{G:Sr}{n:Nat}{cut:List Int}{r:aP}(h:G.rs[n]? = some r):dJ G n cut=r.parts[cut.length-1]?:=by unfold dJ;rw[h]
theorem jD{O:Type}{P:List O}{x y:O}(h:y∈P++[x]):y∈P\/y=x:=by
 rcases Aw.mp h with z|z
 .exact .inl z
 .exact .inr (An.mp z)
theorem XY{G:Sr}(ok:qM G){st:SS}{P:List bT}{c:aJ}{n:Nat}{cut:List Int}{part:Str}(I:fD G st (P++[(n,cut,c)]) c)(o:Ob G st P c)(g:GI G st.best n cut c)(hp:dJ G n cut=some part)(ho:G.own part=false):
  fD G (fZ G st n cut c part) (P++[(n,cut,c)]) c/\Ob G (fZ G st n cut c part) (P++[(n,cut,c)]) c/\∀k d,fB st k d->fB (fZ G st n cut c part) k d:=by
 obtain⟨r,hr⟩:=g.rule;rw[part_of hr]at hp;obtain⟨I1,g1,r1⟩:=qN (λz:Int×Int=>(n,cut++[z.1],(c.1+z.2,c.2))) (G.steps part (cut.getLastD 0)) I λz hz=>⟨.word g hr hp ho hz,by
  have:=ok.pr _ _ _ _ hz;show Le c (c.1+z.2,c.2);unfold Le;simp only;lia⟩
 refine⟨I1,⟨o.zero,λy hy hn=>?_,λy hy pt h1 h2 z hz=>?_,λy hy pt h1 h2=>?_,λkey y hy z hz=>?_,λkey y hy=>?_,λnm b e m=>?_,λf m n' cut' e=>?_,λpre e post h=>?_⟩,g1.le⟩
 .rcases jD hy with z|z
  .obtain⟨m,k,h1,h2⟩:=o.fin y z hn;exact⟨m,k,by rw[show(fZ G st n cut c part).best=st.best from g1.best];exact h1,h2⟩
  .subst z;rw[part_of hr,hp]at hn;cases hn
 .rcases jD hy with q|q
  .exact g1.le _ _ (o.wrd y q pt h1 h2 z hz)
  .subst q;rw[part_of hr,hp]at h1;cases h1;exact r1 z hz
 .rcases jD hy with q|q
  .rw[show(fZ G st n cut c part).begun=st.begun from g1.begun];exact o.nam y q pt h1 h2
  .subst q;rw[part_of hr,hp]at h1;cases h1;rw[ho]at h2;cases h2
 .rw[show(fZ G st n cut c part).begun=st.begun from g1.begun]at hy;rw[show(fZ G st n cut c part).ends=st.ends from g1.ends]at hz;exact g1.le _ _ (o.pair key y hy z hz)
 .rw[show(fZ G st n cut c part).begun=st.begun from g1.begun]at hy;obtain⟨h1,h2⟩:=o.bgn key y hy;exact⟨Bh _ h1,h2⟩
 .rw[show(fZ G st n cut c part).ends=st.ends from g1.ends,show(fZ G st n cut c part).best=st.best from g1.best];exact o.ends nm b e m
 .rw[show(fZ G st n cut c part).best=st.best from g1.best]at e;exact o.bst f m n' cut' e
 .rw[show(fZ G st n cut c part).best=st.best from g1.best]at h;exact o.ord pre e post h
theorem XZ{G:Sr}{st:SS}{P:List bT}{c:aJ}{n:Nat}{cut:List Int}{part:Str}(I:fD G st (P++[(n,cut,c)]) c)(o:Ob G st P c)(g:GI G st.best n cut c)(hp:dJ G n cut=some part)(ho:G.own part=true):
  fD G (fT st n cut c part) (P++[(n,cut,c)]) c/\Ob G (fT st n cut c part) (P++[(n,cut,c)]) c/\∀k d,fB st k d->fB (fT st n cut c part) k d:=by
 obtain⟨r,hr⟩:=g.rule;have hp0:=hp;rw[part_of hr]at hp;obtain⟨I1,g1,r1⟩:=qN (G:=G) (P:=P++[(n,cut,c)]) (cur:=c) (st:={st with begun:=eY st.begun (part,cut.getLastD 0) (n,cut,c)}) (λz:Int×aJ=>(n,cut++[z.1],dY c z.2)) ((aI st.ends (part,cut.getLastD 0)).getD []) ⟨I.fall,I.item,I.ge,I.nd,I.once,I.pr,I.fresh,I.curq,I.hit⟩ λz hz=>by
  obtain⟨k,hk⟩:=(o.ends part (cut.getLastD 0) z.1 z.2).mp hz;exact⟨.name g hr hp ho hk,XT (o.bst _ _ _ _ hk).2.2.1⟩
 have hb:(fT st n cut c part).best=st.best:=g1.best;have he:(fT st n cut c part).ends=st.ends:=g1.ends;have hg:(fT st n cut c part).begun=eY st.begun (part,cut.getLastD 0) (n,cut,c):=g1.begun;have hbeg:∀key y,y∈(aI (fT st n cut c part).begun key).getD []↔y∈(aI st.begun key).getD []\/(part,cut.getLastD 0)=key/\y=(n,cut,c):=λkey y=>by
  rw[hg,qL]
  by_cases h:(part,cut.getLastD 0)=key
  .rw[if_pos h,Aw,An];exact⟨λz=>z.imp id λq=>⟨h,q⟩,λz=>z.imp id λq=>q.2⟩
  .rw[if_neg h];exact⟨.inl,λz=>z.elim id λq=>absurd q.1 h⟩
 refine⟨I1,⟨o.zero,λy hy hn=>?_,λy hy pt h1 h2 z hz=>?_,λy hy pt h1 h2=>?_,λkey y hy z hz=>?_,λkey y hy=>?_,λnm b e m=>?_,λf m n' cut' e=>?_,λpre e post h=>?_⟩,g1.le⟩
 .rcases jD hy with z|z
  .rw[hb];exact o.fin y z hn
  .subst z;rw[hp0]at hn;cases hn
 .rcases jD hy with q|q
  .exact g1.le _ _ (o.wrd y q pt h1 h2 z hz)
  .subst q;rw[hp0]at h1;cases h1;rw[ho]at h2;cases h2
 .rw[hbeg];rcases jD hy with q|q
  .exact .inl (o.nam y q pt h1 h2)
  .subst q;rw[hp0]at h1;cases h1;exact .inr ⟨rfl,rfl⟩
 .rw[he]at hz;rcases(hbeg key y).mp hy with q|⟨q1,q2⟩
  .exact g1.le _ _ (o.pair key y q z hz)
  .subst q2;rw[<-q1]at hz;exact r1 z hz
 .rcases(hbeg key y).mp hy with q|⟨q1,q2⟩
  .obtain⟨h1,h2⟩:=o.bgn key y q;exact⟨Bh _ h1,h2⟩
  .subst q2;rw[<-q1];exact⟨Ba _ (An.mpr rfl),hp0,ho,rfl,o.zero⟩
 .rw[he,hb];exact o.ends nm b e m
 .rw[hb]at e;exact o.bst f m n' cut' e
 .rw[hb]at h;exact o.ord pre e post h
theorem X1{G:Sr}{st:SS}{P:List bT}{c:aJ}{n:Nat}{cut:List Int}(I:fD G st (P++[(n,cut,c)]) c)(o:Ob G st P c)(g:GI G st.best n cut c)(hp:dJ G n cut=none):
  fD G (settle G st n cut c) (P++[(n,cut,c)]) c/\Ob G (settle G st n cut c) (P++[(n,cut,c)]) c/\∀k d,fB st k d->fB (settle G st n cut c) k d:=by
 unfold settle;cases hf:aI st.best (cQ G n cut) with
 | some v=>
  obtain⟨m,k⟩:=v;obtain⟨_,_,_,hm⟩:=o.bst _ _ _ _ hf;refine⟨I,⟨o.zero,λy hy hn=>?_,λy hy pt h1 h2 z hz=>?_,λy hy pt h1 h2=>?_,o.pair,λkey y hy=>?_,o.ends,o.bst,o.ord⟩,λ_ _ h=>h⟩
  .rcases jD hy with z|z
   .exact o.fin y z hn
   .subst z;exact⟨m,k,hf,hm⟩
  .rcases jD hy with q|q
   .exact o.wrd y q pt h1 h2 z hz
   .subst q;rw[hp]at h1;cases h1
  .rcases jD hy with q|q
   .exact o.nam y q pt h1 h2
   .subst q;rw[hp]at h1;cases h1
  .obtain⟨h1,h2⟩:=o.bgn key y hy;exact⟨Bh _ h1,h2⟩
 | none=>
  simp only;have new:∀f,aI (st.best++[(cQ G n cut,c,n,cut)]) f=if cQ G n cut=f then some (c,n,cut) else aI st.best f:=λf=>by
   rw[xQ]
   by_cases h:cQ G n cut=f
   .subst h;rw[if_pos rfl,if_pos rfl,hf];rfl
   .rw[if_neg h,if_neg h,Option.or_none]
  have mono:∀f v,aI st.best f=some v->aI (st.best++[(cQ G n cut,c,n,cut)]) f=some v:=λf v h=>by
   rw[new,if_neg (λe=>by rw[<-e,hf]at h;cases h)];exact h
  obtain⟨st1,hst1⟩:∃z:SS,z = {st with best:=st.best++[(cQ G n cut,c,n,cut)],ends:=eY st.ends (c0 G n,cut.headD 0) (cut.getLastD 0,c)}:=⟨_,rfl⟩;have b1:st1.best=st.best++[(cQ G n cut,c,n,cut)]:=by rw[hst1]
  have e1:st1.ends=eY st.ends (c0 G n,cut.headD 0) (cut.getLastD 0,c):=by rw[hst1]
  have n1:st1.begun=st.begun:=by rw[hst1]
  have r0:st1.reached=st.reached:=by rw[hst1]
  have q0:st1.q=st.q:=by rw[hst1]
  have I0:fD G st1 (P++[(n,cut,c)]) c:=by
   rw[hst1];exact⟨I.fall,λe he=>(I.item e he).mono mono,I.ge,I.nd,I.once,λy hy=>let ⟨h1,h2,h3⟩:=I.pr y hy;⟨h1,h2,h3.mono mono⟩,I.fresh,I.curq,I.hit⟩
  rw[<-hst1];obtain⟨I1,g1,r1⟩:=qN (λy:bT=>(y.1,y.2.1++[cut.getLastD 0],dY y.2.2 c)) ((aI st.begun (c0 G n,cut.headD 0)).getD []) I0 λy hy=>by
   obtain⟨h1,h2,h3,h4,h5⟩:=o.bgn _ y hy;obtain⟨_,_,gy⟩:=I.pr y (Bh _ h1);obtain⟨ry,hry⟩:=gy.rule;rw[part_of hry]at h2;refine⟨.name (k:=(n,cut)) (by rw[b1];exact gy.mono mono) hry h2 h3 ?_,XU h5⟩;rw[b1,new,if_pos (by show(c0 G n,cut.headD 0,cut.getLastD 0)=(c0 G n,y.2.1.getLastD 0,cut.getLastD 0);rw[h4])]
  obtain⟨st2,hst2⟩:∃z,z=((aI st.begun (c0 G n,cut.headD 0)).getD []).foldl (λst y=>reach st y.1 (y.2.1++[cut.getLastD 0]) (dY y.2.2 c)) st1:=⟨_,rfl⟩;rw[<-hst2]at I1 g1 r1⊢;have B:st2.best=st.best++[(cQ G n cut,c,n,cut)]:=g1.best.trans b1;have E:st2.ends=eY st.ends (c0 G n,cut.headD 0) (cut.getLastD 0,c):=g1.ends.trans e1;have N:st2.begun=st.begun:=g1.begun.trans n1;have le:∀k d,fB st k d->fB st2 k d:=λk d h=>g1.le k d (by
   obtain⟨z,h1,h2⟩:=h;exact⟨z,by rw[r0];exact h1,h2⟩)
  have hends:∀key z,z∈(aI st2.ends key).getD []↔z∈(aI st.ends key).getD []\/(c0 G n,cut.headD 0)=key/\z=(cut.getLastD 0,c):=λkey z=>by
   rw[E,qL]
   by_cases h:(c0 G n,cut.headD 0)=key
   .rw[if_pos h,Aw,An];exact⟨λz=>z.imp id λq=>⟨h,q⟩,λz=>z.imp id λq=>q.2⟩
   .rw[if_neg h];exact⟨.inl,λz=>z.elim id λq=>absurd q.1 h⟩
  refine⟨I1,⟨o.zero,λy hy hn=>?_,λy hy pt h1 h2 z hz=>?_,λy hy pt h1 h2=>?_,λkey y hy z hz=>?_,λkey y hy=>?_,λnm b e m=>?_,λf m n' cut' e=>?_,λpre e post h=>?_⟩,le⟩
  .rw[B];rcases jD hy with z|z
   .obtain⟨m,k,h1,h2⟩:=o.fin y z hn;exact⟨m,k,mono _ _ h1,h2⟩
   .subst z;exact⟨c,(n,cut),by rw[new,if_pos rfl],Le.refl _⟩
  .rcases jD hy with q|q
   .exact le _ _ (o.wrd y q pt h1 h2 z hz)
   .subst q;rw[hp]at h1;cases h1
  .rw[N];rcases jD hy with q|q
   .exact o.nam y q pt h1 h2
   .subst q;rw[hp]at h1;cases h1
  .rw[N]at hy;rcases(hends key z).mp hz with q|⟨q1,q2⟩
   .exact le _ _ (o.pair key y hy z q)
   .subst q2;rw[<-q1]at hy;exact r1 y hy
  .rw[N]at hy;obtain⟨h1,h2⟩:=o.bgn key y hy;exact⟨Bh _ h1,h2⟩
  .rw[hends,B,new,o.ends]
   by_cases h:cQ G n cut=(nm,b,e)
   .rw[if_pos h];unfold cQ at h;simp only[Dx]at h;obtain⟨rfl,rfl,rfl⟩:=h;constructor
    .rintro(⟨k,hk⟩|⟨_,hk⟩)
     .rw[show(c0 G n,cut.headD 0,cut.getLastD 0)=cQ G n cut from rfl,hf]at hk;cases hk
     .cases hk;exact⟨(n,cut),rfl⟩
    .rintro⟨k,hk⟩;cases hk;exact .inr ⟨rfl,rfl⟩
   .rw[if_neg h];constructor
    .rintro(hk|⟨h1,h2⟩)
     .exact hk
     .cases h1;cases h2;exact absurd rfl h
    .exact .inl
  .rw[B,new]at e
   by_cases h:cQ G n cut=f
   .rw[if_pos h]at e;cases e;exact⟨hp,h.symm,o.zero,Le.refl _⟩
   .rw[if_neg h]at e;exact o.bst f m n' cut' e
  .rw[B]at h;rcases Gj post with z|⟨ps,p,z⟩
   .subst z;have h':=List.append_inj' h rfl;have h2:=h'.2;simp only[Dn,and_true]at h2;rw[<-h'.1,<-h2];exact⟨g,hf⟩
   .rw[Gk]at z;subst z;rw[show pre++e::(ps++[p])=(pre++e::ps)++[p] by simp]at h;have h':=List.append_inj' h rfl;exact o.ord pre e ps h'.1
theorem X2{G:Sr}(ok:qM G){st:SS}{P:List bT}{c:aJ}{n:Nat}{cut:List Int}(I:fD G st (P++[(n,cut,c)]) c)(o:Ob G st P c)(g:GI G st.best n cut c):
  fD G (process G st n cut c) (P++[(n,cut,c)]) c/\Ob G (process G st n cut c) (P++[(n,cut,c)]) c/\∀k d,fB st k d->fB (process G st n cut c) k d:=by
 unfold process;cases hp:dJ G n cut with
 | none=>exact X1 I o g hp
 | some part=>
  simp only;cases ho:G.own part with
  | true=>rw[if_pos rfl];exact XZ I o g hp ho
  | false=>rw[if_neg (by decide)];exact XY ok I o g hp ho
inductive DI(G:Sr):Nat->List Int->aJ->Prop
 | start {n:Nat} {r:aP} {p:Int}:G.rs[n]? = some r->p∈G.places->DI G n [p] (G.wt n,1)
 | word {n:Nat} {r:aP} {cut:List Int} {c:aJ} {part:Str} {e pr:Int}:DI G n cut c->G.rs[n]? = some r->r.parts[cut.length-1]? = some part->G.own part=false->(e,pr)∈G.steps part (cut.getLastD 0)->DI G n (cut++[e]) (c.1+pr,c.2)
 | name {n n':Nat} {r:aP} {cut cut':List Int} {c m:aJ} {part:Str}:DI G n cut c->G.rs[n]? = some r->r.parts[cut.length-1]? = some part->G.own part=true->DI G n' cut' m->dJ G n' cut'=none->c0 G n'=part->cut'.headD 0=cut.getLastD 0->DI G n (cut++[cut'.getLastD 0]) (dY c m)
theorem DI.ne{G:Sr}{n:Nat}{cut:List Int}{c:aJ}(h:DI G n cut c):cut≠[]:=by cases h<;>simp
theorem HC{n:Nat}{a b:List Int}{e:Int}(h:bK n a=bK n b)(ha:a≠[])(hb:b≠[]):bK n (a++[e])=bK n (b++[e]):=by
 unfold bK at *;simp only[Dx,true_and]at h;obtain⟨h1,h2,h3⟩:=h;have hl:∀l:List Int,(l++[e]).getLastD 0=e:=λl=>by simp[Ip]
 rw[hl,hl,Ar,Ar,h1];cases a with
 | nil=>exact absurd rfl ha
 | cons x a=>
  cases b with
  | nil=>exact absurd rfl hb
  | cons y b=>
   simp only[List.headD_cons]at h2;subst h2;rfl
theorem tB{G:Sr}{n n':Nat}{a b:List Int}(h:bK n a=bK n' b):n=n'/\dJ G n a=dJ G n' b/\cQ G n a=cQ G n' b/\a.getLastD 0=b.getLastD 0:=by
 unfold bK at h;simp only[Dx]at h;obtain⟨rfl,h1,h2,h3⟩:=h;refine⟨rfl,?_,?_,h3⟩
 .unfold dJ;rw[h1]
 .unfold cQ;rw[h2,h3]
def xT(G:Sr)(st:SS):Prop:=∀n r p,G.rs[n]? = some r->p∈G.places->fB st (bK n [p]) (G.wt n,1)
theorem X3{G:Sr}{st:SS}{P:List bT}{cur:aJ}(I:fD G st P cur)(o:Ob G st P cur)(hi:xT G st)(hq:st.q=[]){n:Nat}{cut:List Int}{c:aJ}(h:DI G n cut c):fB st (bK n cut) c:=by
 have done:∀{n:Nat} {cut:List Int} {c:aJ},fB st (bK n cut) c->∃y∈P,lF y=bK n cut/\Le y.2.2 c:=λ{n cut c} h=>by
  obtain⟨d,h1,h2⟩:=h;rcases I.hit _ _ h1 with⟨e,he,_⟩|⟨y,hy,e1,e2⟩
  .rw[hq]at he;cases he
  .exact⟨y,hy,e1,by rw[e2];exact h2⟩
 induction h with
 | start a b=>exact hi _ _ _ a b
 | @word n r cut c part e pr hd hr hp ho hs ih=>
  obtain⟨y,hy,ek,hle⟩:=done ih;obtain⟨hn,hpt,_,hlast⟩:=tB (G:=G) ek;have hyn:=(I.pr y hy).2.2.ne;have:=o.wrd y hy part (by rw[hpt,part_of hr];exact hp) ho (e,pr) (by rw[hlast];exact hs);obtain⟨d,h1,h2⟩:=this;refine⟨d,?_,h2.trans ?_⟩
  .have ek':bK n y.2.1=bK n cut:=by rw[<-ek];unfold lF;rw[hn]
   rw[<-HC ek' hyn hd.ne,<-hn];exact h1
  .unfold Le at hle⊢;simp only at *;lia
 | @name n n' r cut cut' c m part hd hr hp ho hd' hfin hnm hhd ih ih'=>
  obtain⟨y,hy,ek,hle⟩:=done ih;obtain⟨hn,hpt,_,hlast⟩:=tB (G:=G) ek;obtain⟨y',hy',ek',hle'⟩:=done ih';obtain⟨hn',hpt',hfact,_⟩:=tB (G:=G) ek';obtain⟨m0,k0,hb,hm0⟩:=o.fin y' hy' (by rw[hpt'];exact hfin);rw[hfact]at hb;have hb':aI st.best (part,cut.getLastD 0,cut'.getLastD 0)=some (m0,k0):=by
   have:cQ G n' cut'=(part,cut.getLastD 0,cut'.getLastD 0):=by unfold cQ;rw[hnm,hhd]
   rw[<-this];exact hb
  have hz:=(o.ends part (cut.getLastD 0) (cut'.getLastD 0) m0).mpr ⟨k0,hb'⟩;have hyb:=o.nam y hy part (by rw[hpt,part_of hr];exact hp) ho;rw[hlast]at hyb;have hyn:=(I.pr y hy).2.2.ne;obtain⟨d,h1,h2⟩:=o.pair _ y hyb _ hz;refine⟨d,?_,h2.trans (XQ hle (hm0.trans hle'))⟩;have ek2:bK n y.2.1=bK n cut:=by rw[<-ek];unfold lF;rw[hn]
  rw[<-HC ek2 hyn hd.ne,<-hn];exact h1
theorem X4{G:Sr}{st:SS}{P:List bT}{cur:aJ}(I:fD G st P cur)(o:Ob G st P cur)(hi:xT G st)(hq:st.q=[]){n:Nat}{cut:List Int}{c:aJ}(h:DI G n cut c)(hf:dJ G n cut=none):∃m k,aI st.best (cQ G n cut)=some (m,k)/\Le m c:=by
 obtain⟨d,h1,h2⟩:=X3 I o hi hq h;rcases I.hit _ _ h1 with⟨e,he,_⟩|⟨y,hy,e1,e2⟩
 .rw[hq]at he;cases he
 .obtain⟨_,hpt,hfact,_⟩:=tB (G:=G) e1;obtain⟨m,k,hb,hm⟩:=o.fin y hy (by rw[hpt];exact hf);rw[hfact]at hb;exact⟨m,k,hb,hm.trans (by rw[e2];exact h2)⟩
theorem xU{G:Sr}{B:bZ}(h:∀f m n cut,aI B f=some (m,n,cut)->DI G n cut m/\dJ G n cut=none/\f=cQ G n cut){n:Nat}{cut:List Int}{c:aJ}(g:GI G B n cut c):DI G n cut c:=by
 induction g with
 | start a b=>exact .start a b
 | word _ a b c d ih=>exact .word ih a b c d
 | name hgi hr hp ho hb ih=>
  rename_i k;obtain⟨n',cut'⟩:=k;obtain⟨h1,h2,h3⟩:=h _ _ _ _ hb;unfold cQ at h3;simp only[Dx]at h3;obtain⟨e1,e2,e3⟩:=h3;rw[e3];exact .name ih hr hp ho h1 h2 e1.symm e2.symm
theorem qO{U J:Type}[DecidableEq U]{t:List (U×J)}{k:U}{v:J}(h:aI t k=some v):∃a b,t=a++(k,v)::b:=by
 induction t with
 | nil=>cases h
 | cons e t ih=>
  rw[dG]at h
  by_cases hk:e.1=k
  .rw[if_pos hk]at h;cases h;exact⟨[],t,by rw[<-hk];rfl⟩
  .rw[if_neg hk]at h;obtain⟨a,b,rfl⟩:=ih h;exact⟨e::a,b,rfl⟩
theorem X5{G:Sr}{st:SS}{P:List bT}{cur:aJ}(o:Ob G st P cur):∀(k:Nat) (pre:bZ) (e:cT×aJ×Nat×List Int) (post:bZ),pre.length=k->st.best=pre++e::post->DI G e.2.2.1 e.2.2.2 e.2.1:=by
 intro k
 induction k using Kk with
 | _ k ih=>
  intro pre e post hk hb;obtain⟨g,_⟩:=o.ord pre e post hb;refine xU (B:=pre) (λf m n cut hf=>?_) g;obtain⟨a,b,hab⟩:=qO hf;have hb2:st.best=a++(f,m,n,cut)::(b++e::post):=by rw[hb,hab];simp
  have hlen:a.length<k:=by rw[<-hk,hab];simp
  have hd:=ih a.length hlen a _ _ rfl hb2;have hnone:=(o.ord a _ _ hb2).2;have hf2:aI st.best f=some (m,n,cut):=by
   rw[hb2];have:∀{a:bZ} {x:cT×aJ×Nat×List Int} {r:bZ},aI a x.1=none->aI (a++x::r) x.1=some x.2:=by
    intro a
    induction a with
    | nil=>intro x r _;rw[Ci,dG,if_pos rfl]
    | cons y a ih2=>
     intro x r h;rw[dG]at h;rw[List.cons_append,dG]
     by_cases hy:y.1=x.1
     .rw[if_pos hy]at h;cases h
     .rw[if_neg hy]at h⊢;exact ih2 h
   exact this (x:=(f,m,n,cut)) hnone
  obtain⟨h1,h2,_⟩:=o.bst f m n cut hf2;exact⟨hd,h1,h2⟩
theorem xV{G:Sr}{st:SS}{P:List bT}{cur:aJ}(o:Ob G st P cur){f:cT}{m:aJ}{n:Nat}{cut:List Int}(h:aI st.best f=some (m,n,cut)):DI G n cut m/\dJ G n cut=none/\f=cQ G n cut:=by
 obtain⟨a,b,hab⟩:=qO h;obtain⟨h1,h2,_⟩:=o.bst f m n cut h;exact⟨X5 o a.length a _ b rfl hab,h1,h2⟩
theorem HD(st:SS)(n:Nat)(cut:List Int)(c:aJ):∃j,j<=1/\(a5 (reach st n cut c).q).length=(a5 st.q).length+j/\(reach st n cut c).reached.length<=st.reached.length+j:=by
 have push:∃j,j<=1/\(a5 (dH c (n,cut) st.q)).length=(a5 st.q).length+j/\(dA st.reached (bK n cut) c).length<=st.reached.length+j:=⟨1,Ag _,sZ _ _ _,mD _ _ _⟩;unfold reach;cases aI st.reached (bK n cut) with
 | none=>exact push
 | some d=>
  simp only;split
  .exact push
  .exact⟨0,by lia,rfl,by lia⟩
theorem qP{O:Type}(f:O->Nat×List Int×aJ):∀(xs:List O) (st:SS),∃j,j<=xs.length/\(a5 (xs.foldl (λst x=>reach st (f x).1 (f x).2.1 (f x).2.2) st).q).length=(a5 st.q).length+j/\(xs.foldl (λst x=>reach st (f x).1 (f x).2.1 (f x).2.2) st).reached.length<=st.reached.length+j
 | [],st=>⟨0,Ag _,rfl,Ag _⟩
 | x::xs,st=>by
  obtain⟨j1,h1,h2,h3⟩:=HD st (f x).1 (f x).2.1 (f x).2.2;obtain⟨j2,g1,g2,g3⟩:=qP f xs (reach st (f x).1 (f x).2.1 (f x).2.2);refine⟨j1+j2,by rw[Az];lia,?_,?_⟩
  .rw[Ex,g2,h2];lia
  .rw[Ex];lia
def gM(G:Sr)(S:Nat)(st:SS)(y:bT):Nat:=match dJ G y.1 y.2.1 with
 | none=>0
 | some part=>if G.own part=true then((aI st.ends (part,y.2.1.getLastD 0)).getD []).length else S
structure Cn(G:Sr)(S I0:Nat)(st:SS)(P:List bT)(T:Nat):Prop where
 put:(a5 st.q).length+T<=I0+(P.map (gM G S st)).sum
 rch:st.reached.length<=(a5 st.q).length+T
 bnd:∀key,((aI st.begun key).getD []).Nodup
 enn:∀key,(((aI st.ends key).getD []).map Cu).Nodup
theorem tD(f:bT->Nat)(P:List bT)(x:bT):((P++[x]).map f).sum=(P.map f).sum+f x:=by simp
theorem xW{G:Sr}{S:Nat}{st st':SS}(h:st'.ends=st.ends):gM G S st'=gM G S st:=by
 funext y;unfold gM;rw[h]
theorem X6{G:Sr}{S I0 T:Nat}{st:SS}{P:List bT}{c:aJ}{n:Nat}{cut:List Int}{part:Str}(C:Cn G S I0 st P T)(hS:∀t p,(G.steps t p).length<=S)(hp:dJ G n cut=some part)(ho:G.own part=false):Cn G S I0 (fZ G st n cut c part) (P++[(n,cut,c)]) T:=by
 obtain⟨j,h1,h2,h3⟩:=qP (λz:Int×Int=>(n,cut++[z.1],(c.1+z.2,c.2))) (G.steps part (cut.getLastD 0)) st;have keep:∀(xs:List (Int×Int)) (st:SS),(xs.foldl (λst z=>reach st n (cut++[z.1]) (c.1+z.2,c.2)) st).ends=st.ends/\(xs.foldl (λst z=>reach st n (cut++[z.1]) (c.1+z.2,c.2)) st).begun=st.begun:=by
  intro xs
  induction xs with
  | nil=>intro st;exact⟨rfl,rfl⟩
  | cons x xs ih=>
   intro st;rw[Ex];obtain⟨e1,e2⟩:=ih (reach st n (cut++[x.1]) (c.1+x.2,c.2));have hr:(reach st n (cut++[x.1]) (c.1+x.2,c.2)).ends=st.ends/\(reach st n (cut++[x.1]) (c.1+x.2,c.2)).begun=st.begun:=by
    unfold reach;split
    .split<;>exact⟨rfl,rfl⟩
    .exact⟨rfl,rfl⟩
   exact⟨e1.trans hr.1,e2.trans hr.2⟩
 obtain⟨k1,k2⟩:=keep (G.steps part (cut.getLastD 0)) st;have k1':(fZ G st n cut c part).ends=st.ends:=k1;have k2':(fZ G st n cut c part).begun=st.begun:=k2;have h2':(a5 (fZ G st n cut c part).q).length=(a5 st.q).length+j:=h2;have h3':(fZ G st n cut c part).reached.length<=st.reached.length+j:=h3;have hs:=hS part (cut.getLastD 0);have hput:=C.put;have hrch:=C.rch;refine⟨?_,by lia,λkey=>by rw[k2'];exact C.bnd key,λkey=>by rw[k1'];exact C.enn key⟩;rw[xW k1',tD,h2'];have:gM G S st (n,cut,c)=S:=by
  unfold gM;rw[hp];simp only;rw[if_neg (by rw[ho];decide)]
 lia
theorem X7(st:SS)(n:Nat)(cut:List Int)(c:aJ):(reach st n cut c).ends=st.ends/\(reach st n cut c).begun=st.begun/\(reach st n cut c).best=st.best:=by
 unfold reach;split
 .split<;>exact⟨rfl,rfl,rfl⟩
 .exact⟨rfl,rfl,rfl⟩
theorem xX{O:Type}(f:O->Nat×List Int×aJ):∀(xs:List O) (st:SS),(xs.foldl (λst x=>reach st (f x).1 (f x).2.1 (f x).2.2) st).ends=st.ends/\(xs.foldl (λst x=>reach st (f x).1 (f x).2.1 (f x).2.2) st).begun=st.begun/\(xs.foldl (λst x=>reach st (f x).1 (f x).2.1 (f x).2.2) st).best=st.best
 | [],st=>⟨rfl,rfl,rfl⟩
 | x::xs,st=>by
  rw[Ex];obtain⟨h1,h2,h3⟩:=xX f xs (reach st (f x).1 (f x).2.1 (f x).2.2);obtain⟨g1,g2,g3⟩:=X7 st (f x).1 (f x).2.1 (f x).2.2;exact⟨h1.trans g1,h2.trans g2,h3.trans g3⟩
theorem X8{G:Sr}{S I0 T:Nat}{st:SS}{P:List bT}{cur c:aJ}{n:Nat}{cut:List Int}{part:Str}(C:Cn G S I0 st P T)(o:Ob G st P cur)(hnew:(n,cut,c)∉P)(hp:dJ G n cut=some part)(ho:G.own part=true):Cn G S I0 (fT st n cut c part) (P++[(n,cut,c)]) T:=by
 obtain⟨st1,hst1⟩:∃z:SS,z = {st with begun:=eY st.begun (part,cut.getLastD 0) (n,cut,c)}:=⟨_,rfl⟩;obtain⟨j,h1,h2,h3⟩:=qP (λz:Int×aJ=>(n,cut++[z.1],dY c z.2)) ((aI st.ends (part,cut.getLastD 0)).getD []) st1;obtain⟨k1,k2,_⟩:=xX (λz:Int×aJ=>(n,cut++[z.1],dY c z.2)) ((aI st.ends (part,cut.getLastD 0)).getD []) st1;have k1':(fT st n cut c part).ends=st.ends:=by
  have:(fT st n cut c part).ends=st1.ends:=by rw[hst1]at k1⊢;exact k1
  rw[this,hst1]
 have k2':(fT st n cut c part).begun=eY st.begun (part,cut.getLastD 0) (n,cut,c):=by
  have:(fT st n cut c part).begun=st1.begun:=by rw[hst1]at k2⊢;exact k2
  rw[this,hst1]
 have h2':(a5 (fT st n cut c part).q).length=(a5 st.q).length+j:=by rw[hst1]at h2;exact h2
 have h3':(fT st n cut c part).reached.length<=st.reached.length+j:=by rw[hst1]at h3;exact h3
 have hput:=C.put;have hrch:=C.rch;refine⟨?_,by lia,λkey=>?_,λkey=>by rw[k1'];exact C.enn key⟩
 .rw[xW k1',tD,h2'];have:gM G S st (n,cut,c)=((aI st.ends (part,cut.getLastD 0)).getD []).length:=by
   unfold gM;rw[hp];simp only;rw[if_pos ho]
  lia
 .rw[k2',qL];split
  .rename_i h;rw[Ck];refine⟨C.bnd key,by simp,λa ha b hb e=>?_⟩;rw[An]at hb;rw[e,hb]at ha;exact hnew (o.bgn key _ ha).1
  .exact C.bnd key
theorem len_sub{O:Type}[DecidableEq O]:∀{a b:List O},a.Nodup->(∀x∈a,x∈b)->a.length<=b.length
 | [],b,_,_=>Bf _
 | x::a,b,hn,hs=>by
  rw[Ee]at hn;have hx:=hs x Ai;have ih:=len_sub (a:=a) (b:=b.erase x) hn.2 λy hy=>by
   have hne:y≠x:=λe=>hn.1 (by rw[<-e];exact hy);exact(List.mem_erase_of_ne hne).mpr (hs y (Af _ hy))
  rw[List.length_erase_of_mem hx]at ih;have:=List.length_pos_of_mem hx;rw[Az];lia
theorem HE{f g:bT->Nat}{p:bT->Bool}:∀{P:List bT},(∀y∈P,g y=f y+if p y=true then 1 else 0)->(P.map g).sum=(P.map f).sum+(P.filter p).length
 | [],_=>rfl
 | y::P,h=>by
  have ih:=HE (P:=P) λz hz=>h z (Af _ hz);rw[Ay,Ay,Dy,Dy,ih,h y Ai,Bx];split<;>simp<;>lia
theorem X9{G:Sr}{S I0 T:Nat}{st:SS}{P:List bT}{cur c:aJ}{n:Nat}{cut:List Int}(C:Cn G S I0 st P T)(o:Ob G st P cur)(hp:dJ G n cut=none):Cn G S I0 (settle G st n cut c) (P++[(n,cut,c)]) T:=by
 have hdeg0:∀st',gM G S st' (n,cut,c)=0:=λst'=>by unfold gM;rw[hp]
 have hput:=C.put;have hrch:=C.rch;unfold settle;cases hf:aI st.best (cQ G n cut) with
 | some v=>
  simp only;refine⟨?_,C.rch,C.bnd,C.enn⟩;rw[tD,hdeg0];lia
 | none=>
  simp only;obtain⟨st1,hst1⟩:∃z:SS,z = {st with best:=st.best++[(cQ G n cut,c,n,cut)],ends:=eY st.ends (c0 G n,cut.headD 0) (cut.getLastD 0,c)}:=⟨_,rfl⟩;rw[<-hst1];obtain⟨j,h1,h2,h3⟩:=qP (λy:bT=>(y.1,y.2.1++[cut.getLastD 0],dY y.2.2 c)) ((aI st.begun (c0 G n,cut.headD 0)).getD []) st1;obtain⟨k1,k2,_⟩:=xX (λy:bT=>(y.1,y.2.1++[cut.getLastD 0],dY y.2.2 c)) ((aI st.begun (c0 G n,cut.headD 0)).getD []) st1;obtain⟨st2,hst2⟩:∃z,z=((aI st.begun (c0 G n,cut.headD 0)).getD []).foldl (λst y=>reach st y.1 (y.2.1++[cut.getLastD 0]) (dY y.2.2 c)) st1:=⟨_,rfl⟩;rw[<-hst2]at h2 h3 k1 k2⊢;have E:st2.ends=eY st.ends (c0 G n,cut.headD 0) (cut.getLastD 0,c):=by rw[k1,hst1]
  have N:st2.begun=st.begun:=by rw[k2,hst1]
  have q1:(a5 st1.q).length=(a5 st.q).length:=by rw[hst1]
  have r1:st1.reached.length=st.reached.length:=by rw[hst1]
  obtain⟨pk,hpk⟩:∃pk:bT->Bool,pk=λy=>decide (dJ G y.1 y.2.1=some (c0 G n)/\G.own (c0 G n)=true/\y.2.1.getLastD 0=cut.headD 0):=⟨_,rfl⟩;have hsum:(P.map (gM G S st2)).sum=(P.map (gM G S st)).sum+(P.filter pk).length:=HE λy hy=>by
   unfold gM;cases hpt:dJ G y.1 y.2.1 with
   | none=>rw[hpk];simp[hpt]
   | some part=>
    simp only;cases ho:G.own part with
    | false=>
     rw[hpk];simp only[hpt,Gd];rw[if_neg (by decide),if_neg (by decide),if_neg (by rw[decide_eq_true_eq];rintro⟨h1,h2,_⟩;rw[<-h1,ho]at h2;cases h2)];rfl
    | true=>
     rw[if_pos rfl,if_pos rfl,E,qL]
     by_cases h:(c0 G n,cut.headD 0)=(part,y.2.1.getLastD 0)
     .rw[if_pos h];simp only[Dx]at h;rw[hpk];simp only[hpt,Gd];rw[if_pos (by rw[decide_eq_true_eq];exact⟨h.1.symm,by rw[h.1];exact ho,h.2.symm⟩)];simp
     .rw[if_neg h];rw[hpk];simp only[hpt,Gd];rw[if_neg (by rw[decide_eq_true_eq];rintro⟨h1,_,h3⟩;exact h (by rw[h1,h3]))];lia
  have hbl:((aI st.begun (c0 G n,cut.headD 0)).getD []).length<=(P.filter pk).length:=len_sub (C.bnd _) λy hy=>by
   obtain⟨g1,g2,g3,g4,_⟩:=o.bgn _ y hy;rw[Dh,hpk];exact⟨g1,decide_eq_true ⟨g2,g3,g4⟩⟩
  refine⟨?_,by lia,λkey=>by rw[N];exact C.bnd key,λkey=>?_⟩
  .rw[tD,hdeg0,hsum];lia
  .rw[E,qL];split
   .rename_i h;rw[Bk,Ck];refine⟨C.enn key,by simp,λa ha b hb e=>?_⟩;obtain⟨z,hz,rfl⟩:=Au.mp ha;rw[List.map_singleton,An]at hb;rw[<-h]at hz;obtain⟨k,hk⟩:=(o.ends _ _ z.1 z.2).mp hz;rw[e,hb]at hk;have:aI st.best (cQ G n cut)=some (z.2,k):=hk;rw[hf]at this;cases this
   .exact C.enn key
def lG(G:Sr)(st:SS):SS:=match iA st.q with
 | none=>st
 | some (c,(n,cut),q')=>match aI st.reached (bK n cut) with
  | some d=>if cF d c=true then {st with q:=q'} else process G {st with q:=q'} n cut c
  | none=>{st with q:=q'}
structure All(G:Sr)(S I0:Nat)(st:SS)(P:List bT)(cur:aJ)(T:Nat):Prop where
 inv:fD G st P cur
 ob:Ob G st P cur
 ini:xT G st
 cn:Cn G S I0 st P T
theorem Cn.q{G:Sr}{S I0 T:Nat}{st:SS}{P:List bT}{q':List (aJ×List (Nat×List Int))}(C:Cn G S I0 st P T)(h:(a5 st.q).length=(a5 q').length+1):Cn G S I0 {st with q:=q'} P (T+1):=by
 have h1:=C.put;have h2:=C.rch;refine⟨?_,?_,C.bnd,C.enn⟩
 .show(a5 q').length+(T+1)<=_;rw[xW (st':={st with q:=q'}) (st:=st) rfl];lia
 .show st.reached.length<=(a5 q').length+(T+1);lia
theorem YA{G:Sr}{S I0 T:Nat}{st:SS}{P:List bT}{cur c:aJ}{n:Nat}{cut:List Int}(C:Cn G S I0 st P T)(o:Ob G st P cur)(hS:∀t p,(G.steps t p).length<=S)(hnew:(n,cut,c)∉P):Cn G S I0 (process G st n cut c) (P++[(n,cut,c)]) T:=by
 unfold process;cases hp:dJ G n cut with
 | none=>exact X9 C o hp
 | some part=>
  simp only;cases ho:G.own part with
  | true=>rw[if_pos rfl];exact X8 C o hnew hp ho
  | false=>rw[if_neg (by decide)];exact X6 C hS hp ho
theorem YB{G:Sr}(ok:qM G){S I0 T:Nat}{st:SS}{P:List bT}{cur:aJ}(A:All G S I0 st P cur T)(hS:∀t p,(G.steps t p).length<=S)(hq:st.q≠[]):∃P' cur',All G S I0 (lG G st) P' cur' (T+1):=by
 obtain⟨c,x,q',e1,f1,m1,l1,c1,_⟩:=nF A.inv.fall hq;obtain⟨n,cut⟩:=x;have hin:(c,(n,cut))∈a5 st.q:=(m1 _).mpr (.inl rfl);obtain⟨d,hd,hle⟩:=A.inv.ge _ hin;unfold lG;rw[e1];simp only;rw[hd];simp only
 by_cases hl:cF d c=true
 .rw[if_pos hl];obtain⟨I1,hc⟩:=XX A.inv e1 hd hl;exact⟨P,c,I1,A.ob.later hc q',A.ini,A.cn.q l1⟩
 .rw[if_neg hl];have hdc:d=c:=Le.antisymm hle (xP.mpr hl);subst hdc;obtain⟨I1,hc,g⟩:=XW A.inv e1 hd;have o1:=A.ob.later hc q';obtain⟨I2,o2,le2⟩:=X2 ok I1 o1 g;refine⟨_,_,I2,o2,λn r p h1 h2=>le2 _ _ (A.ini n r p h1 h2),YA (A.cn.q l1) o1 hS λhm=>?_⟩;have hn:=I1.once;rw[Bk,Ck]at hn;exact hn.2.2 _ (Au.mpr ⟨_,hm,rfl⟩) _ (by simp) rfl
def gN:SS:=⟨[],[],[],[],[]⟩
def j3(G:Sr):List (Nat×Int):=(Bp G.rs.length).flatMap λn=>G.places.map λp=>(n,p)
def kJ(G:Sr):SS:=(j3 G).foldl (λst x=>reach st x.1 [x.2] (G.wt x.1,1)) gN
theorem YC{G:Sr}(ok:qM G)(S:Nat):All G S (j3 G).length (kJ G) [] (0,0) 0:=by
 have I0:fD G gN [] (0,0):=⟨trivial,(λe he=>nomatch he),(λe he=>nomatch he),Gf,Gf,(λy hy=>nomatch hy),(λe he=>nomatch he),(λe he=>nomatch he),(λk d hd=>nomatch hd)⟩;have hmem:∀x∈j3 G,(∃r,G.rs[x.1]? = some r)/\x.2∈G.places:=λx hx=>by
  obtain⟨n,hn,hx⟩:=Ej.mp hx;obtain⟨p,hp,rfl⟩:=Au.mp hx;exact⟨⟨_,Bc (Cv.mp hn)⟩,hp⟩
 obtain⟨I1,g1,r1⟩:=qN (λx:Nat×Int=>(x.1,[x.2],(G.wt x.1,(1:Int)))) (j3 G) I0 λx hx=>by
  obtain⟨⟨r,hr⟩,hp⟩:=hmem x hx;refine⟨.start hr hp,?_⟩;have:=ok.wt x.1;show Le (0,0) (G.wt x.1,1);unfold Le;simp only;lia
 obtain⟨j,h1,h2,h3⟩:=qP (λx:Nat×Int=>(x.1,[x.2],(G.wt x.1,(1:Int)))) (j3 G) gN;have b0:(kJ G).best=[]:=g1.best;have e0:(kJ G).ends=[]:=g1.ends;have n0:(kJ G).begun=[]:=g1.begun;refine⟨I1,⟨Le.refl _,(λy hy=>nomatch hy),(λy hy=>nomatch hy),(λy hy=>nomatch hy),λkey y hy=>?_,λkey y hy=>?_,λnm b e m=>?_,λf m n cut e=>?_,λpre e post h=>?_⟩,λn r p hr hp=>?_,⟨?_,?_,λkey=>?_,λkey=>?_⟩⟩
 .rw[n0]at hy;cases hy
 .rw[n0]at hy;cases hy
 .rw[e0,b0];exact⟨(λz=>nomatch z),(λ⟨k,hk⟩=>nomatch hk)⟩
 .rw[b0]at e;cases e
 .rw[b0]at h;cases pre<;>cases h
 .exact r1 (n,p) (Ej.mpr ⟨n,Cv.mpr (Ak.mp hr).1,Au.mpr ⟨p,hp,rfl⟩⟩)
 .have h2:(a5 (kJ G).q).length=(a5 gN.q).length+j:=h2;have:(a5 gN.q).length=0:=rfl;simp only[Gw,List.sum_nil];lia
 .have h2:(a5 (kJ G).q).length=(a5 gN.q).length+j:=h2;have h3:(kJ G).reached.length<=gN.reached.length+j:=h3;have e1:(a5 gN.q).length=0:=rfl;have e2:gN.reached.length=0:=rfl;lia
 .rw[n0];exact Gf
 .rw[e0];exact Gf
structure tE(G:Sr)(V:List Int)(N L:Nat):Prop where
 pl:∀p∈G.places,p∈V
 st:∀t p e c,p∈V->(e,c)∈G.steps t p->e∈V
 few:G.rs.length<=N
 len:∀r∈G.rs,r.parts.length+1<=L
theorem tF{l:List Int}(h:l≠[]):l.getLastD 0∈l:=by
 rcases Gj l with z|⟨a,b,z⟩
 .exact absurd z h
 .rw[z,Gk];simp[Ip]
theorem YD{l:List Int}(h:l≠[]):l.headD 0∈l:=by
 cases l with
 | nil=>exact absurd rfl h
 | cons a b=>simp
theorem tG{G:Sr}{V:List Int}{N L:Nat}(v:tE G V N L){n:Nat}{cut:List Int}{c:aJ}(h:DI G n cut c):(∀x∈cut,x∈V)/\n<N/\cut.length<=L:=by
 induction h with
 | @start n r p hr hp=>
  have hn:=(Ak.mp hr).1;have:=v.len r (Bl hr);have:=v.few;exact⟨λx hx=>by rw[An.mp hx];exact v.pl p hp,by lia,by simp;lia⟩
 | @word n r cut c part e pr hd hr hp ho hs ih=>
  obtain⟨h1,h2,h3⟩:=ih;have hl:=(Ak.mp hp).1;have:=v.len r (Bl hr);have hne:=El.mpr hd.ne;refine⟨λx hx=>?_,h2,by rw[Ar,Bz];lia⟩;rcases Aw.mp hx with z|z
  .exact h1 x z
  .rw[An.mp z];exact v.st _ _ _ _ (h1 _ (tF hd.ne)) hs
 | @name n n' r cut cut' c m part hd hr hp ho hd' hf hn hh ih ih'=>
  obtain⟨h1,h2,h3⟩:=ih;obtain⟨g1,_,_⟩:=ih';have hl:=(Ak.mp hp).1;have:=v.len r (Bl hr);have hne:=El.mpr hd.ne;refine⟨λx hx=>?_,h2,by rw[Ar,Bz];lia⟩;rcases Aw.mp hx with z|z
  .exact h1 x z
  .rw[An.mp z];exact g1 _ (tF hd'.ne)
def tH(V:List Int)(N L:Nat):List K4:=(Bp N).flatMap λn=>(Bp (L+1)).flatMap λl=>V.flatMap λa=>V.map λb=>(n,l,a,b)
theorem flat_len{O J:Type}{f:O->List J}{k:Nat}:∀{l:List O},(∀x∈l,(f x).length=k)->(l.flatMap f).length=l.length*k
 | [],_=>by simp
 | x::l,h=>by
  rw[Jq,Ar,h x Ai,flat_len λy hy=>h y (Af _ hy),Az,Im];lia
theorem YE(V:List Int)(N L:Nat):(tH V N L).length=N*((L+1)*(V.length*V.length)):=by
 unfold tH;rw[flat_len (k:=(L+1)*(V.length*V.length)) λn _=>?_,Cm];rw[flat_len (k:=V.length*V.length) λl _=>?_,Cm];rw[flat_len (k:=V.length) λa _=>by rw[Aa]]
theorem HF{G:Sr}{V:List Int}{N L S I0 T:Nat}{st:SS}{P:List bT}{cur:aJ}(v:tE G V N L)(A:All G S I0 st P cur T):P.length<=N*((L+1)*(V.length*V.length))/\(∀key,((aI st.ends key).getD []).length<=V.length)/\(a5 st.q).length+T<=I0+N*((L+1)*(V.length*V.length))*(S+V.length):=by
 have hin:∀{B:bZ} {n cut c},B=st.best->GI G B n cut c->DI G n cut c:=λ{B n cut c} e g=>xU (B:=B) (λf m n' cut' h=>xV A.ob (by rw[<-e];exact h)) g;have hP:P.length<=N*((L+1)*(V.length*V.length)):=by
  have:=len_sub (b:=tH V N L) A.inv.once λk hk=>by
   obtain⟨y,hy,rfl⟩:=Au.mp hk;have hd:=hin rfl (A.inv.pr y hy).2.2;obtain⟨h1,h2,h3⟩:=tG v hd;unfold tH;refine Ej.mpr ⟨y.1,Cv.mpr h2,Ej.mpr ⟨y.2.1.length,Cv.mpr (by lia),Ej.mpr ⟨_,h1 _ (YD hd.ne),Au.mpr ⟨_,h1 _ (tF hd.ne),rfl⟩⟩⟩⟩
  rw[Aa,YE]at this;exact this
 have hE:∀key,((aI st.ends key).getD []).length<=V.length:=λkey=>by
  have:=len_sub (b:=V) (A.cn.enn key) λe he=>by
   obtain⟨z,hz,rfl⟩:=Au.mp he;obtain⟨k,hk⟩:=(A.ob.ends key.1 key.2 z.1 z.2).mp hz;obtain⟨n,cut⟩:=k;obtain⟨hd,_,hf⟩:=xV A.ob hk;unfold cQ at hf;simp only[Dx]at hf;rw[hf.2.2];exact(tG v hd).1 _ (tF hd.ne)
  rw[Aa]at this;exact this
 refine⟨hP,hE,?_⟩;have hsum:(P.map (gM G S st)).sum<=P.length*(S+V.length):=by
  have hd:∀y,gM G S st y<=S+V.length:=λy=>by
   unfold gM;split
   .lia
   .rename_i part _;split
    .have:=hE (part,y.2.1.getLastD 0);lia
    .lia
  have:∀l:List bT,(l.map (gM G S st)).sum<=l.length*(S+V.length):=by
   intro l
   induction l with
   | nil=>simp
   | cons y l ih=>rw[Ay,Dy,Az,Im];have:=hd y;lia
  exact this P
 have h1:=A.cn.put;have h2:P.length*(S+V.length)<=N*((L+1)*(V.length*V.length))*(S+V.length):=Gy _ hP;lia
theorem gE{O:Type}{l:List O}{k:Nat}{x:O}(h:l[k]? = some x):l.take (k+1)=l.take k++[x]:=by
 rw[List.take_succ,h];rfl
end Rg
namespace L3
open PySem Spec PyProof.Rows L2
section
variable {ws:List W}{g:eI}{tb:aH}{D:D3}{τ:S3}{M:Mm}
theorem xI{O:Sort _}{p K:O->Prop}{w:O}(h:p w)(k:K w):∃w,p w/\K w:=⟨w,h,k⟩
theorem xY(Pv:Nat->S3->Mm->Prop)(h0:Pv 0 τ M)(hs:∀i w τ M,ws[i]? = some w->Pv i τ M->g w τ M λτ2 M2=>tb {D with nx:=λτ' M'=>∃M'',Sub M'' M'/\Pv (i+1) τ' M'',ct:=λτ' M'=>∃M'',Sub M'' M'/\Pv (i+1) τ' M'',bk:=D.nx} τ2 M2)(hd:∀τ M,Pv ws.length τ M->D.nx τ M):qB ws (λ_=>True) g tb D τ M:=nC Pv h0 (λ_ _ _ _ _=>trivial) hs hd
theorem d9(Pv:Nat->S3->Mm->Prop)(h0:Pv 0 τ M)(hs:∀i w τ M,ws[i]? = some w->Pv i τ M->∀D':D3,(∀τ M,Pv (i+1) τ M->D'.nx τ M)->g w τ M λτ2 M2=>tb D' τ2 M2)(hd:∀τ M,Pv ws.length τ M->D.nx τ M):qB ws (λ_=>True) g tb D τ M:=xY Pv h0 (λi w τ M e p=>hs i w τ M e p _ λ_ M z=>⟨M,Sub.refl _,z⟩) hd
theorem xZ{c:dD}(Pv:Nat->S3->Mm->Prop)(h0:∃m,Pv m τ M)(hs:∀m τ M,Pv m τ M->∀D':D3,(∀m' τ M,m'<m->Pv m' τ M->D'.nx τ M)->c τ M λb M1=>if b=true then tb D' τ M1 else D.nx τ M1):oG c tb D τ M:=⟨Pv,h0,λm τ M p=>hs m τ M p _ λm' _ M l z=>⟨m',M,l,Sub.refl _,z⟩⟩
end
end L3
namespace PySem
namespace Dp
open PyProof.Rows L2 PySem.Spec
section
variable {prog:Ca}{w:Ct}{A:Dg}{E:Ae->Aj->Prop}{s:Aj}
theorem YF:typeLookup (.type "list") "keys" = pure none:=by rw[typeLookup_type,builtinLookup_eq_fast];kernel_rfl
theorem YG{a:Addr}{xs:Array Ae}{k:Nat}{Q:Option Ae->Aj->Prop}(hx:s.heap.get? a=some {cls:=.type "list",data:=.seq xs k})(hA:A.handled=none)(h:∀h' tk,(∀b o,s.heap.get? b=some o->h'.get? b=some o)->Q none {s with heap:=h',toks:=tk}):Bo (Bw prog w) A (getAttr? (.ref a) (Eg "keys")) Q E s:=by
 obtain⟨hp,g,d,tk,os⟩:=s;have hT:∀tk',(⟨hp,g,d,tk',os⟩:Aj).TypeIs (.ref a) "list":=λ_=>⟨_,hx,rfl⟩
 have f1:=sub_AttributeError;have f3:=Me.lookup;have f4:=Me.bind (.ref a);have f5:=am_list_getattr_none;unfold getAttr? getAttrBy? getAttrBy
 repeat (any_goals (first|assumption|exact hT _|((with_reducible show Bo _ _ (call (Value.builtin "list.__getattribute__") _ _) _ _ _);refine Mx Me (hT _) am_entry_list_getattribute (F.args_list_getattribute_2 _ _) (meets_getattribute_miss_list a xs k #[] (Eg "keys") _ YF (by decide +kernel) (by decide +kernel)) ⟨hx,hA,λh' tk' e hx'=>?_⟩)|wp_step))
 obtain⟨t',u',he⟩:=hx'.there;have hx2:=hx'.of.keeps;show Bo _ _ (getattributeRaised _ _ _ _ _ _ _) _ _ _;unfold getattributeRaised
 repeat (any_goals (first|assumption|wp_step))
 exact h _ _ hx2
theorem HG:entryFor table "dict.update.loop" = some Mz.«dict.update.loop»:=entryFor_of_tree (by kernel_rfl)
theorem tI:plainId "dict.update.loop" = true:=by decide +kernel
variable {K:Type}[DecidableEq K]{knd:KeyKind prog w K}
theorem YH(kvs:List (K×Ae))(k:K)(v:Ae):(stored kvs k v).length<=kvs.length+1:=by
 unfold stored;split
 .rw[Aa];lia
 .rw[Ar,Bz];exact Ag _
def all(kvs:List (K×Ae))(ps:List (K×Ae)):List (K×Ae):=ps.foldl (λkvs p=>stored kvs p.1 p.2) kvs
theorem YI{d I l:Addr}{items:Array Ae}{Dd:Nat->Heap->Prop}{R:Result->Aj->Prop}(hh:A.handled=none)(hdI:d≠I)(hdl:d≠l)(hlI:l≠I)(fr:∀{i h h'},Dd i h->(∀b o,b≠I->h.get? b=some o->h'.get? b=some o)->Dd i h')(st:∀{i:Nat} {t:Aj},i<items.size->Dd i t.heap->∃(a:Addr) (key v:Ae),items[i]? = some (.ref a)/\t.heap.IsTuple a #[key,v]/\∀{E:Ae->Aj->Prop} {Q:Unit->Aj->Prop},(∀h2 tk,Dd (i+1) h2->Ez d t.heap h2->Q () {t with heap:=h2,toks:=tk})->Bo (Bw prog w) A.in1 (dictSet d key v) Q E t):
  ∀(k i:Nat) (s:Aj),items.size-i=k->i<=items.size->s.heap.IsListIter I l i->s.heap.IsList l items->Dd i s.heap->
  (∀h' tk,(∀b o,b≠d->b≠I->s.heap.get? b=some o->h'.get? b=some o)->Dd items.size h'->R (.ok (.ret .none)) {s with heap:=h',toks:=tk})->
  Mi (Bw prog w) A (.builtin "dict.update.loop" ⟨[.ref d,.ref I,Lu (i:Int),.none],[]⟩) R s:=by
 intro k
 induction k with
 | zero=>
  intro i s hk hi hit pI hd hR;have hin:i=items.size:=by lia
  refine codeAny_builtin HG ?_;rw[Around.under_plainId tI _];show Bo _ A.in1 (Ml (.ref I)>>=_) _ _ s;have W:=Walks.list (prog:=prog) (w:=w) (A:=A.in1) hh I l hlI items;refine Ac (W.done s _ _ (by rw[<-hin];exact⟨hit,pI⟩) λh' tk hm=>?_);show Bo _ A.in1 (Builtin.Dict.addKeywords d []>>=_) _ _ _;rw[hin]at hd;exact Ac (Ao (Ao (hR h' tk (λb o _ hb e=>hm b o (by simp[hb]) e) (fr hd λb o hb e=>hm b o (by simp[hb]) e))))
 | succ k ih=>
  intro i s hk hi hit pI hd hR;have hlt:i<items.size:=by lia
  refine codeAny_builtin HG ?_;rw[Around.under_plainId tI _];show Bo _ A.in1 (Ml (.ref I)>>=_) _ _ s;have W:=Walks.list (prog:=prog) (w:=w) (A:=A.in1) hh I l hlI items;refine Ac (W.item i s _ _ hlt ⟨hit,pI⟩ λv h' tk hv hst hm=>?_);obtain⟨a,key,u,ha,⟨o,ho,hc,n,hd2⟩,go⟩:=st (t:={s with heap:=h',toks:=tk}) hlt (fr hd λb o hb e=>hm b o (by simp[hb]) e);rw[ha]at hv;cases hv;show Bo _ A.in1 (Jn [Value.ref a] _>>=_) _ _ _;refine Ac (Du (Ac (wpAny_tryCatch ?_)));unfold Builtin.Dict.pairItems;refine Ac (wpAny_typeOf (T:="tuple") ⟨o,ho,hc⟩ ?_);rw[if_pos (by decide)];refine Ac (wpAny_seqItems ho hd2 (Ao ?_));show Bo _ _ (Jn [key,u] (dictSet d key u)) _ _ _;refine Du (go λh2 tk2 hd3 hs2=>?_);refine Ao ⟨plainId_quiet tI _,?_⟩;exact ih (i+1) _ (by lia) hlt (hst.1.at λo e=>(hs2.2 I (Co hdI)).trans e) (hst.2.at λo e=>(hs2.2 l (Co hdl)).trans e) hd3 λh3 tk3 hk3 hd4=>hR h3 tk3 (λb o h1 h2 e=>hk3 b o h1 h2 ((hs2.2 b h1).trans (hm b o (by simp[h2]) e))) hd4
theorem callG{l:Addr}{items:Array Ae}{c:Nat}{Dd:Nat->Heap->Prop}{Q:Ae->Aj->Prop}(hh:A.handled=none)(hx:s.heap.get? l=some {cls:=.type "list",data:=.seq items c})(d0:Dd 0 (s.heap.push {cls:=.type "dict",data:=.dict #[]}))(fr:∀{i h h'},Dd i h->(∀b o,@LE.le Nat _ b s.heap.objs.size->h.get? b=some o->h'.get? b=some o)->Dd i h')(st:∀{i:Nat} {t:Aj},i<items.size->Dd i t.heap->(∀b o,s.heap.get? b=some o->t.heap.get? b=some o)->∃(a:Addr) (key v:Ae),items[i]? = some (.ref a)/\s.heap.IsTuple a #[key,v]/\∀{E:Ae->Aj->Prop} {Q:Unit->Aj->Prop},(∀h2 tk,Dd (i+1) h2->Ez s.heap.objs.size t.heap h2->Q () {t with heap:=h2,toks:=tk})->Bo (Bw prog w) A.in1.in1 (dictSet s.heap.objs.size key v) Q E t)(h:∀h' tk,(∀b o,s.heap.get? b=some o->h'.get? b=some o)->Dd items.size h'->Q (.ref s.heap.objs.size) {s with heap:=h',toks:=tk}):
  Bo (Bw prog w) A (call (.type "dict") [.ref l]) Q E s:=by
 refine callType_codes (Q₁:=λobj s1=>obj=.ref s.heap.objs.size/\s1 = {s with heap:=s.heap.push {cls:=.type "dict",data:=.dict #[]}}) F.kt_called_dict (F.kt_typeCall_dict_1 _) F.entry_dict_init (kt_code_dict_new _ ⟨rfl,rfl⟩) ?_;rintro obj s1 ⟨rfl,rfl⟩;have lt:l<s.heap.objs.size:=Bi hx;have hx':(s.heap.push {cls:=.type "dict",data:=.dict #[]}).get? l=some {cls:=.type "list",data:=.seq items c}:=Am _ hx;have hty:({s with heap:=s.heap.push {cls:=.type "dict",data:=.dict #[]}}:Aj).TypeIs (.ref s.heap.objs.size) "dict":=⟨_,Be _ rfl,rfl⟩;refine⟨hty,F.args_dict_init_2 _ _,?_⟩;unfold Mz.«dict.__init__»;refine Ac ?_;unfold Builtin.Dict.selfAndRest;refine Ac (Kg hty ?_);show Bo _ _ (pure (s.heap.objs.size,[Value.ref l])) _ _ _;refine Ao ?_;show Bo _ _ (Builtin.Dict.updateFrom "dict.__init__" s.heap.objs.size (.ref l) [] .none) _ _ _;unfold Builtin.Dict.updateFrom;refine Ac (wpAny_typeOf (T:="list") ⟨_,hx',rfl⟩ ?_);rw[if_pos (by decide)];refine Ac (YG hx' hh λh1 tk1 hk1=>?_);rw[if_pos (by decide)];have hx1:=hk1 _ _ hx';have l1:s.heap.objs.size<h1.objs.size:=Bi (hk1 _ _ (Be _ rfl));refine Ac (Kj (Ac (Ih (items:=items) ⟨_,hx1,rfl,c,rfl⟩ ?_)));have gI:(h1.push {cls:=.type "list_iterator",data:=.fields #[.ref l,.int 0 0]}).IsListIter h1.objs.size l 0:=⟨_,Be _ rfl,rfl,rfl⟩;have up:∀b o,s.heap.get? b=some o->(h1.push {cls:=.type "list_iterator",data:=.fields #[.ref l,.int 0 0]}).get? b=some o:=λb o e=>Am _ (hk1 b o (Am _ e));have nI:∀{b:Addr},@LE.le Nat _ b s.heap.objs.size->b≠h1.objs.size:=λhb=>Bs (Gh hb l1);refine Ao ⟨plainId_quiet tI _,?_⟩;refine YI (A:=A.in1) (d:=s.heap.objs.size) (I:=h1.objs.size) (l:=l) (items:=items) (Dd:=λi h=>Dd i h/\∀b o,s.heap.get? b=some o->h.get? b=some o) hh (Bs l1) (Hm lt) (Bs (Nat.lt_trans lt l1)) (λ⟨z1,z2⟩ hm=>⟨fr z1 λb o hb e=>hm b o (nI hb) e,λb o e=>hm b o (nI (Gz (Bi e))) (z2 b o e)⟩) (λhi ⟨z1,z2⟩=>?_) items.size 0 _ rfl (Bf _) gI ⟨_,Am _ hx1,rfl,c,rfl⟩ ⟨fr d0 λb o _ e=>Am _ (hk1 b o e),up⟩ λh2 tk2 _ hd2=>⟨rfl,h h2 tk2 hd2.2 hd2.1⟩
 obtain⟨a,key,v,g1,⟨o,g2,g3⟩,go⟩:=st hi z1 z2;exact⟨a,key,v,g1,⟨o,z2 a o g2,g3⟩,λk=>go λh2 tk z hs=>k h2 tk ⟨z,λb o e=>(hs.2 b (Bs (Bi e))).trans (z2 b o e)⟩ hs⟩
theorem take_at{O:Type}{ps:List O}{i:Nat}{p:O}(h:ps[i]? = some p):ps.take (i+1)=ps.take i++[p]:=by rw[Lm,h];rfl
theorem YJ(ps:List (K×Ae)):∀kvs,(all kvs ps).length<=kvs.length+ps.length:=by
 induction ps with
 | nil=>exact λ_=>Ag _
 | cons p ps ih=>exact λkvs=>Ah (ih _) (by have:=YH kvs p.1 p.2;rw[Az];lia)
theorem call_pairs{l:Addr}{items:Array Ae}{c:Nat}{ps:List (K×Ae)}{Q:Ae->Aj->Prop}(hh:A.handled=none)(hx:s.heap.get? l=some {cls:=.type "list",data:=.seq items c})(hn:ps.length=items.size)(hz:items.size<=Ap)(hp:∀(j:Nat) (p:K×Ae),ps[j]? = some p->∃(a:Addr) (key:Ae),items[j]? = some (.ref a)/\s.heap.IsTuple a #[key,p.2]/\knd.is p.1 key=true)(h:∀h' tk,(∀b o,s.heap.get? b=some o->h'.get? b=some o)->h'.DictOf knd s.heap.objs.size (all [] ps)->Q (.ref s.heap.objs.size) {s with heap:=h',toks:=tk}):
  Bo (Bw prog w) A (call (.type "dict") [.ref l]) Q E s:=by
 refine callG (Dd:=λi h=>h.DictOf knd s.heap.objs.size (all [] (ps.take i))) hh hx (Heap.DictOf.new s.heap) (λ⟨o,es,ep,ho,rest⟩ hm=>⟨o,es,ep,hm _ o (Ag _) ho,rest⟩) (λ{i t} hi hd _=>?_) λh' tk e d=>h h' tk e (by rw[<-hn,Cb]at d;exact d);obtain⟨p,hpi⟩:∃p,ps[i]? = some p:=⟨_,Bc (by lia)⟩;obtain⟨a,key,g1,g2,g3⟩:=hp i p hpi;have len:=YJ (ps.take i) [];rw[Ce,Mr]at len;refine⟨a,key,p.2,g1,g2,λk=>wpAny_dictSet_pairs g3 hd (λh2 d2 s2=>k h2 _ ?_ s2) (by lia)⟩;rw[take_at hpi,all,Jp];exact d2
end
end Dp
end PySem
namespace L3
open PySem Spec PyProof.Rows L2
section
variable {X:Cx}
def j4(kvs:List (aC×W))(ps:List (aC×W)):List (aC×W):=ps.foldl (λkvs p=>bS kvs p.1 p.2) kvs
def iN(ps:List (aC×W)):List W:=ps.map λp=>.tup [wK p.1,p.2]
def oM:List W->Mm->K3->Prop
 | [.rl ws],M,R=>∃ps:List (aC×W),ws=iN ps/\ws.length<=Ap/\pV (j4 [] ps) M R
 | _,_,_=>False
theorem yA{pins:List (Addr×Obj)}{Z:L2.St}{H:Hp}{M:Mm}{s:Aj}(I:L2.Inv X pins Z H s):∀{ps:List (aC×W)} {vs:List V} {its:List Ae},aL X.K H M vs (iN ps)->aW vs its->
  ∃(ks:List (aC×V)) (rs:List (aC×Ae)),bJ X.K H M aC ks ps/\KV ks rs/\rs.length=its.length/\
   ∀(j:Nat) (p:aC×Ae),rs[j]? = some p->∃(a:Addr) (key:Ae),its[j]? = some (.ref a)/\s.heap.IsTuple a #[key,p.2]/\(cR X.prog X.w).is p.1 key=true
 | [],_,_,.nil,.nil=>⟨[],[],.nil,.nil,rfl,λj p h=>by simp at h⟩
 | (k,w)::ps,_,_,.cons av avs,.cons rv rvs=>by
  obtain⟨ks,rs,h1,h2,h3,h4⟩:=yA I avs rvs;obtain⟨a,xs,ev,e,q⟩:=av.inv;rw[ev]at rv;obtain⟨u1,u2,ex,a1,a2⟩:=q.two;obtain⟨its2,r2,pl,_⟩:=I.tuple (bU.of e);rw[ex,a1.key]at r2;obtain⟨y1,y2,ey,x1,x2⟩:=vals2 r2;rw[ey]at pl;refine⟨(k,u2)::ks,(k,y2)::rs,.cons ⟨rfl,a2⟩ h1,.cons ⟨rfl,x2⟩ h2,congrArg (· + 1) h3,λj p hj=>?_⟩;cases j with
  | zero=>rw[<-Cj hj];exact⟨a,y1,congrArg some rv,pl,lP x1⟩
  | succ j=>exact h4 j p hj
theorem yB{H:Hp}{M:Mm}:∀{ps:List (aC×W)} {ks:List (aC×V)} {rs:List (aC×Ae)} {kvs:List (aC×W)} {ls:List (aC×V)} {us:List (aC×Ae)},bJ X.K H M aC ks ps->KV ks rs->bJ X.K H M aC ls kvs->KV ls us->
  ∃ls':List (aC×V),bJ X.K H M aC ls' (j4 kvs ps)/\KV ls' (Dp.all us rs)/\ls'.length<=ls.length+ps.length
 | [],_,_,_,ls,_,.nil,.nil,h1,h2=>⟨ls,h1,h2,Ag _⟩
 | p::ps,_,_,_,ls,_,.cons (a:=a) x r,.cons (b:=b) y t,h1,h2=>by
  obtain⟨k,w⟩:=p;obtain⟨k1,v⟩:=a;obtain⟨k2,u⟩:=b;obtain⟨x1,x2⟩:=x;obtain⟨y1,y2⟩:=y;cases x1;cases y1;obtain⟨ls',g1,g2,g3⟩:=yB (kvs:=bS _ k w) r t (p6 h1 k x2) (h2.put k y2);have:=nY ls k v;exact⟨ls',g1,g2,by simp at g3⊢;lia⟩
theorem qQ(hc:X.calm=true):b7 X (.type "dict") (e8 X.K oM):=by
 rintro pins s Z H xs us Q I rs ⟨ws,M,R,am,axs,h,k⟩
 match ws,h with
 | [.rl ws],h=>
  obtain⟨v,rfl,av⟩:=axs.one;obtain⟨ps,rfl,hz,r⟩:=h;obtain⟨u,rfl,ru⟩:=vals1 rs;cases av with
  | rl f n q=>
   cases ru;obtain⟨z,its,c,rv,hl,e⟩:=I.lstM f;obtain⟨ks,rs',h1,h2,h3,h4⟩:=yA I q rv;obtain⟨ls,g1,g2,g3⟩:=yB h1 h2 .nil .nil;refine Dp.call_pairs (knd:=cR X.prog X.w) (items:=its.toArray) (ps:=rs') (I.ok.hd hc) e (by simpa using h3) (by rw[Bg];lia) (λj p hj=>by simpa using h4 j p hj) λh' tk hk hd=>?_;have hz2:ps.length<=Ap:=by simpa [iN] using hz
   have hfr:=I.hok.fresh (Ag _);refine⟨.ref s.heap.objs.size,aQ H s.heap.objs.size (.dK ls),I.laid (o:=.dK ls) (t':=tk) hk (Ag _) ⟨by simp at g3;lia,beq_eq_false_iff_ne.mpr (Co (Bs I.big)),_,g2,hd⟩,rfl,?_⟩;obtain⟨am2,k2⟩:=am.laid (o:=.dK (j4 [] ps)) (u:=.dK ls) hfr ⟨ls,cU,pkv_new hfr g1⟩;exact k _ _ _ _ k2 am2 (.ref _) (r _ (am.nonM hfr))
where
 pkv_new:∀{H:Hp} {M:Mm} {p:Addr} {ks ls:List (aC×V)} {kvs kus:List (aC×W)},H p=none->bJ X.K H M aC ks kvs->bJ X.K (aQ H p (.dK ls)) (put M p (.dK kus)) aC ks kvs:=λhp h=>mX h.keys (h.vals.newL hp)
def tJ:List W->Mm->K3->Prop
 | [.rl ws],M,R=>∃ps:List (aC×W),ws=iN ps/\ws.length<=Ap/\R (.dk (j4 [] ps)) M
 | _,_,_=>False
theorem yC(hc:X.calm=true):b7 X (.type "dict") (e8 X.K tJ):=by
 rintro pins s Z H xs us Q I rs ⟨ws,M,R,am,axs,h,k⟩
 match ws,h with
 | [.rl ws],h=>
  obtain⟨v,rfl,av⟩:=axs.one;obtain⟨ps,rfl,hz,r⟩:=h;obtain⟨u,rfl,ru⟩:=vals1 rs;cases av with
  | rl f n q=>
   cases ru;obtain⟨z,its,c,rv,hl,e⟩:=I.lstM f;obtain⟨ks,rs',h1,h2,h3,h4⟩:=yA I q rv;obtain⟨ls,g1,g2,g3⟩:=yB h1 h2 .nil .nil;refine Dp.call_pairs (knd:=cR X.prog X.w) (items:=its.toArray) (ps:=rs') (I.ok.hd hc) e (by simpa using h3) (by rw[Bg];lia) (λj p hj=>by simpa using h4 j p hj) λh' tk hk hd=>?_;have hz2:ps.length<=Ap:=by simpa [iN] using hz
   have hfr:=I.hok.fresh (Ag _);refine⟨.ref s.heap.objs.size,aQ H s.heap.objs.size (.dK ls),I.laid (o:=.dK ls) (t':=tk) hk (Ag _) ⟨by simp at g3;lia,beq_eq_false_iff_ne.mpr (Co (Bs I.big)),_,g2,hd⟩,rfl,?_⟩;obtain⟨am2,k2⟩:=am.tup (u:=.dK ls) hfr;exact k _ _ _ _ k2 am2 (.dk cU (am.nonM hfr) g1.keys (g1.vals.newT hfr)) r
end
section
variable {X:Cx}
def yD(neg:Bool):R3:=λx y M R=>∃ws dx ds,(y=.rl ws\/∃a,y=.ref a/\M a=some (.lst ws))/\Snap M x dx/\hJ M ws ds/\n5 dx/\(∀d∈ds,n5 d)/\
 R (.bl (if neg then !(ds.any λd=>Dw d dx) else ds.any λd=>Dw d dx)) M
def oN(h:Heap)(dx:Iu)(u:Ae):Bool:=@decide (∃d as,Reads h u d as/\Dw d dx=true) (Classical.propDecidable _)
theorem HH{h:Heap}{dx d:Iu}{u:Ae}{as:List Addr}(r:Reads h u d as)(hd:d.canLay0=true):oN h dx u=Dw d dx:=by
 unfold oN;rw[Dk,@decide_eq_true_eq _ (Classical.propDecidable _)];exact⟨λ⟨d',as',r',e⟩=>by rw[SeqAt.Reads.unique d d' u as as' hd r r'];exact e,λe=>⟨d,as,r,e⟩⟩
theorem HI{h:Heap}{dx:Iu}:∀{us:List Ae} {ds:List Iu} {as:List Addr},ReadsAll h us ds as->(∀d∈ds,n5 d)->us.any (oN h dx)=ds.any λd=>Dw d dx
 | _,_,_,.nil,_=>rfl
 | _,_,_,.cons r t,f=>by
  rw[Ei,Ei,HH r (f _ Ai).1,HI t λd hd=>f d (Af _ hd)]
theorem HJ{h:Heap}:∀{us:List Ae} {ds:List Iu} {as:List Addr},ReadsAll h us ds as->∀u∈us,∃d∈ds,∃bs,Reads h u d bs
 | _,_,_,.nil,u,hu=>by cases hu
 | _,_,_,.cons r t,u,hu=>by
  rcases Bj.mp hu with rfl|hu
  .exact⟨_,Ai,_,r⟩
  .obtain⟨d,hd,q⟩:=HJ t u hu;exact⟨d,Af _ hd,q⟩
theorem YK{pins:List (Addr×Obj)}{Z:L2.St}{H:Hp}{s:Aj}{M:Mm}{R:K3}{x y:V}{wx wy:W}{v u:Ae}{neg:Bool}(hu:X.A.units+64<Fo)(I:L2.Inv X pins Z H s)(am:AM X.K H M)(ax:AV X.K H M x wx)(ay:AV X.K H M y wy)(rx:RelV x v)(ry:RelV y u)(h:yD neg wx wy M R):
  ∃(l:Addr) (its:Array Ae) (e:Ae->Bool),u=.ref l/\s.heap.IsList l its/\(∀w∈its,SeqAt.EqAt X.A.in1 s w v (e w))/\R (.bl (if neg then !its.any e else its.any e)) M:=by
 obtain⟨ws,dx,ds,hy,sx,ss,fx,fs,q⟩:=h;obtain⟨as,ra⟩:=sx.reads I am ax rx;obtain⟨l,vs,its,rfl,rv,pl,qv⟩:∃(l:Addr) (vs:List V) (its:List Ae),u=.ref l/\aW vs its/\s.heap.IsList l its.toArray/\aL X.K H M vs ws:=by
  rcases hy with rfl|⟨a,rfl,e⟩
  .cases ay with
   | rl e _ q=>
    cases ry;obtain⟨its,rv,pl,_⟩:=I.list (bH.of e);exact⟨_,_,its,rfl,rv,pl.isList,q⟩
  .cases ay;cases ry;obtain⟨vs,e0,q⟩:=am.lst e;obtain⟨its,rv,pl,_⟩:=I.list (bH.of e0);exact⟨_,_,its,rfl,rv,pl.isList,q⟩
 obtain⟨bs,rb⟩:=ss.reads I am qv rv;refine⟨l,its.toArray,oN s.heap dx,rfl,pl,λw hw=>?_,?_⟩
 .obtain⟨d,hd,cs,r⟩:=HJ rb w (by simpa using hw);rw[HH r (fs d hd).1];refine SeqAt.eqAt_reads d dx X.A.in1 s w v _ _ r ra (fs d hd).1 fx.1 ?_;have h1:=(fs d hd).2;have h2:X.A.in1.units=X.A.units+1:=rfl;exact Gh (by lia) hu
 .rw[show its.toArray.any (oN s.heap dx)=its.any (oN s.heap dx) by simp,HI rb fs];exact q
theorem YL(hu:X.A.units+64<Fo):a9 X (Cq .In) (cJ X.K (yD false)):=by
 rintro pins s Z H x y v u Q I rx ry ⟨wx,wy,M,R,am,ax,ay,h,k⟩;obtain⟨l,its,e,rfl,pl,he,q⟩:=YK hu I am ax ay rx ry h;exact SeqAt.in_listAt e pl he ⟨.bl _,H,I,rfl,k.at am (.bl _) q⟩
end
def bD(f:Str)(w:W):List (Str×W)->List (Str×W)
 | []=>[(f,w)]
 | (k,x)::r=>if k=f then(k,w)::r else(k,x)::bD f w r
section
variable {K:Ab}{H:Hp}{M:Mm}
theorem bJ.look{f:Str}{w:W}:∀{gs:List (Str×V)} {fs:List (Str×W)},bJ K H M Str gs fs->fs.lookup f=some w->∃v,gs.lookup f=some v/\AV K H M v w
 | _,_,.nil,h=>by cases h
 | _,_,.cons (a:=(k,v)) (b:=(k',w')) r t,h=>by
  obtain⟨rfl,av⟩:=r
  by_cases hk:(f==k)=true
  .simp only[Bu,hk]at h⊢;cases h;exact⟨v,rfl,av⟩
  .have hk':(f==k)=false:=by simpa using hk
   simp only[Bu,hk']at h⊢;exact bJ.look t h
theorem bJ.lookN{f:Str}:∀{gs:List (Str×V)} {fs:List (Str×W)},bJ K H M Str gs fs->fs.lookup f=none->gs.lookup f=none
 | _,_,.nil,_=>rfl
 | _,_,.cons (a:=(k,v)) (b:=(k',w')) r t,h=>by
  obtain⟨rfl,av⟩:=r
  by_cases hk:(f==k)=true
  .simp only[Bu,hk]at h;cases h
  .have hk':(f==k)=false:=by simpa using hk
   simp only[Bu,hk']at h⊢;exact bJ.lookN t h
theorem bJ.putF{f:Str}{v:V}{w:W}(av:AV K H M v w):∀{gs:List (Str×V)} {fs:List (Str×W)},bJ K H M Str gs fs->bJ K H M Str (L2.putF f v gs) (bD f w fs)
 | _,_,.nil=>.cons ⟨rfl,av⟩ .nil
 | _,_,.cons (a:=(k,v')) (b:=(k',w')) r t=>by
  obtain⟨rfl,av'⟩:=r;show bJ K H M Str (if k=f then(k,v)::_ else(k,v')::L2.putF f v _) (if k=f then(k,w)::_ else(k,w')::bD f w _)
  by_cases hk:k=f
  .rw[if_pos hk,if_pos hk];exact .cons ⟨rfl,av⟩ t
  .rw[if_neg hk,if_neg hk];exact .cons ⟨rfl,av'⟩ (bJ.putF av t)
theorem bJ.len{U:Type}{gs:List (U×V)}{fs:List (U×W)}(h:bJ K H M U gs fs):gs.length=fs.length:=by
 have:=congrArg Dv h.keys;simpa using this
end
section
variable {X:Cx}{C:Addr}{f m:Str}{pos apos cpos:Pos}{ta tv:aY}{o e value:Expr}{es:List Expr}{t:dP}{sp:bM}
def bO(C:Addr)(ta:aY)(f:Str):aY:=λτ M R=>ta τ M λx M1=>∃a dx fs w,x=.ref a/\M1 a=some (.ins C dx fs)/\fs.lookup f=some w/\R w M1
theorem bV(c:gH X.K C)(n:eQ X.K C f)(he:E3 X o ta)(hb:Ia o f X.env (eval o X.env)=eval o X.env:=by rfl):E3 X (.Attribute o f pos) (bO C ta f):=
 (RB he hb).weak λZ H Q z0=>z0.el λτ M R as am h k=>⟨τ,M,_,as,am,h,λx H1 wx M1 k1 am1 ax ⟨a,dx,fs,w,e1,e2,e3,r⟩=>by
  subst e1;obtain rfl:=ax.inv;obtain⟨gs,e4,q⟩:=am1 a _ e2;obtain⟨v,e5,av⟩:=q.look e3;exact⟨a,C,dx,gs,v,rfl,e4,c,n,e5,k _ _ _ _ k1 am1 av r⟩⟩
def gV(C:Addr)(ta:aY)(f:Str)(tv:aY):aH:=λD τ M=>tv τ M λy M1=>ta τ M1 λx M2=>∃a dx fs,x=.ref a/\M2 a=some (.ins C dx fs)/\fs.length<1000/\D.nx τ (put M2 a (.ins C dx (bD f y fs)))
theorem iB(c:gH X.K C)(n:eQ X.K C f)(ha:E3 X o ta)(hv:E3 X value tv)(hs:Jt value (some (.Attribute o f apos)) pos.line X.env=pure false:=by rfl):P3 X (.Assign [.Attribute o f apos] value pos) (gV C ta f tv):=
 (RC ha hv hs).weak λD Z H z0=>z0.el λτ M D' as am h k=>⟨τ,M,_,as,am,h,λy H1 wy M1 k1 am1 ay h1=>⟨τ,M1,_,as.kp am k1,am1,h1,λx H2 wx M2 k2 am2 ax ⟨a,dx,fs,e1,e2,hl,r⟩=>by
  subst e1;obtain rfl:=ax.inv;obtain⟨gs,e4,q⟩:=am2 a _ e2;refine⟨a,C,dx,gs,rfl,e4,c,n,by rw[q.len];exact hl,?_⟩;obtain⟨am3,k3⟩:=am2.write (o:=.ins C dx (bD f wy fs)) (u:=.ins C dx (L2.putF f y gs)) e2 ⟨_,cU,((q.putF (ay.kp am1 k2))).go (mY am2 e2)⟩;exact k.nx _ _ _ _ ((k1.trans k2).trans k3) am3 (((as.kp am k1).kp am1 k2).kp am2 k3) r⟩⟩
variable {k:Nat}{g:Addr}{fd:Bv}{ps:List Str}
def fL(C:Addr)(m:Str)(sp:bM)(ta:aY)(t:dP):aY:=λτ M R=>ta τ M λx M1=>∃a dx fs,x=.ref a/\M1 a=some (.ins C dx fs)/\fs.lookup m=none/\t τ M1 λws M2=>sp (.ref a::ws) M2 R
theorem YM{Z:SV}{H:Hp}{Q:VK}(h:up X.K (fL C m sp ta t) Z H Q):vR C m (gL X.K sp) [] E0 (up X.K ta) (n6 X.K t) Z H Q:=by
 obtain⟨τ,M,R,as,am,h,k⟩:=h;refine⟨τ,M,_,as,am,h,λx H1 wx M1 k1 am1 ax ⟨a,dx,fs,e1,e2,e3,h1⟩=>?_⟩;subst e1;obtain rfl:=ax.inv;obtain⟨gs,e4,q⟩:=am1 a _ e2;refine⟨a,dx,gs,rfl,e4,q.lookN e3,τ,M1,_,as.kp am k1,am1,h1,λvs H2 ws M2 k2 am2 avs h2=>⟨.ref a::ws,M2,R,am2,?_,h2,k.kp (k1.trans k2)⟩⟩;rw[Cf];exact .cons (.ref a) avs
theorem iO{pl:Sem Bool}(c:gH X.K C)(hm:nX X.K C m g)(F:eR X.prog X.w X.K X.mg X.base fW k g fd ps (gL X.K sp))(hr:cN k X.A)(hb:Binds X.K fd ps [])(he:E3 X o ta)(ha:A3 X (e::es) t)(hst:Br (e::es) X.env=(false,eval e X.env)::Br es X.env:=by rfl)(hpl:(Hk pos (Br es X.env)).any (·.1)=false:=by rfl)(ht:eval (.Call (.Attribute o m apos) (e::es) [] pos) X.env=(do
   let ov <-eval o X.env
   Nl apos.atName
   let (f,first) <-Jn [ov] (Nm ov m pl)
   callWith pos f first (Hk pos (Br (e::es) X.env)) (backToKw pos (Mh [] X.env))):=by rfl):
  E3 X (.Call (.Attribute o m apos) (e::es) [] pos) (fL C m sp ta t):=(RN (pl:=pl) he c hm F hr hb .nil pR ha hst hpl ht).weak λ_ _ _ h=>YM h
theorem yE{pl:Sem Bool}(c:gH X.K C)(hm:nX X.K C m g)(F:eR X.prog X.w X.K X.mg X.base fW k g fd ps (gL X.K sp))(hr:cN k X.A)(hb:Binds X.K fd ps [])(he:E3 X o ta)(ht:eval (.Call (.Attribute o m apos) [] [] pos) X.env=(do
   let ov <-eval o X.env
   Nl apos.atName
   let (f,first) <-Jn [ov] (Nm ov m pl)
   callWith pos f first (Hk pos (Br [] X.env)) (backToKw pos (Mh [] X.env))):=by rfl):
  E3 X (.Call (.Attribute o m apos) [] [] pos) (fL C m sp ta aE):=(RO (pl:=pl) he c hm F hr hb .nil pR ht).weak λZ H Q h=>by
 obtain⟨τ,M,R,as,am,h,k⟩:=h;refine⟨τ,M,_,as,am,h,λx H1 wx M1 k1 am1 ax ⟨a,dx,fs,e1,e2,e3,h1⟩=>?_⟩;subst e1;obtain rfl:=ax.inv;obtain⟨gs,e4,q⟩:=am1 a _ e2;exact⟨a,dx,gs,rfl,e4,q.lookN e3,[.ref a],M1,R,am1,.cons (.ref a) .nil,h1,k.kp k1⟩
def qR(C:Addr)(sp:bM)(t:dP):aY:=λτ M R=>t τ M λws M1=>∀a dx,M1 a=none->M1 dx=none->dx≠a->sp (.ref a::ws) (put M1 a (.ins C dx [])) λw M2=>w=.non/\R (.ref a) M2
theorem AM.made{K:Ab}{H:Hp}{M:Mm}{x dx:Addr}(am:AM K H M)(hx:H x=none)(hd:H dx=none)(ne:dx≠x):AM K (aQ (aQ H dx (.own x)) x (.ins C dx [])) (put M x (.ins C dx []))/\Kp H M (aQ (aQ H dx (.own x)) x (.ins C dx [])) (put M x (.ins C dx [])):=by
 obtain⟨am1,k1⟩:=am.tup (u:=.own x) hd;have hx1:aQ H dx (.own x) x=none:=by rw[bI (Co ne)];exact hx
 obtain⟨am2,k2⟩:=am1.laid (o:=.ins C dx []) (u:=.ins C dx []) hx1 ⟨[],cU,.nil⟩;exact⟨am2,k1.trans k2⟩
theorem HK{H:Hp}{M:Mm}{R:K3}{Q:VK}{vs:List V}{ws:List W}(am:AM X.K H M)(avs:aL X.K H M vs ws)(h:∀a dx,M a=none->M dx=none->dx≠a->sp (.ref a::ws) (put M a (.ins C dx [])) λw M2=>w=.non/\R (.ref a) M2)(k:Up X.K H M R Q):
  ∀x dx,H x=none->H dx=none->dx≠x->gL X.K sp (.ref x::(vs++[])) (aQ (aQ H dx (.own x)) x (.ins C dx [])) (λv H2=>v=.non/\Q (.ref x) H2) E0:=by
 intro x dx hx hd ne;obtain⟨am1,k1⟩:=am.made (C:=C) hx hd ne;refine⟨.ref x::ws,_,_,am1,?_,h x dx (am.nonM hx) (am.nonM hd) ne,λv H2 w M2 k2 am2 av r=>?_⟩
 .rw[Cf];exact .cons (.ref x) (avs.kp am k1)
 .obtain⟨rfl,r⟩:=r;obtain rfl:=av.inv;exact⟨rfl,k _ _ _ _ (k1.trans k2) am2 (.ref x) r⟩
theorem HL{x:Str}{p:Pos}(M:Mk X.K C g)(F:eR X.prog X.w X.K X.mg X.base fW k g fd ps (gL X.K sp))(hr:cN (k+1) X.A)(hg:Gl X x)(hm:X.mg x=some (.ref C))(hb:Binds X.K fd ps [])(ha:A3 X (e::es) t)(hdb:(x==("__debug__" : Str))=false:=by decide)(he:Br (e::es) X.env=(false,eval e X.env)::Br es X.env:=by rfl)(hpl:(Hk pos (Br es X.env)).any (·.1)=false:=by rfl):
  E3 X (.Call (.Name x p) (e::es) [] pos) (qR C sp t):=(RP M F hr hg hm hb .nil pR ha hdb he hpl).weak λZ H Q z0=>z0.el λτ M R as am h k=>⟨τ,M,_,as,am,h,λvs H1 ws M1 k1 am1 avs h1=>HK am1 avs h1 (k.kp k1)⟩
theorem YN{x:Str}{p:Pos}(M:Mk X.K C g)(F:eR X.prog X.w X.K X.mg X.base fW k g fd ps (gL X.K sp))(hr:cN (k+1) X.A)(hg:Gl X x)(hm:X.mg x=some (.ref C))(hb:Binds X.K fd ps [])(hdb:(x==("__debug__" : Str))=false:=by decide):E3 X (.Call (.Name x p) [] [] pos) (qR C sp aE):=(RQ M F hr hg hm hb .nil pR hdb).weak λZ H Q z0=>z0.el λτ M R as am h k=>HK am .nil h k
end
end L3
namespace L2
open PySem Spec PyProof.Rows
section
variable {prog:Ca}{w:Ct}{K:Type}[DecidableEq K]{knd:HeapKind prog w K}{A:Dg}{E:Ae->Aj->Prop}{s:Aj}{d a:Addr}{k:K}{xs:List (K×Addr×Ae)}
theorem YO{y:Ae}{Q:Ae->Aj->Prop}(hu:knd.room A)(hkey:knd.is s.heap k a)(hm:s.heap.DictOfH knd d xs)(hsz:xs.length<=Ap)(h1:∀p,Mu xs k=some p->Q p.2 {s with toks:=s.toks+knd.draws k})(h2:Mu xs k=none->∀h',h'.DictOfH knd d (Nk xs k a y)->Ez d s.heap h'->Q y {s with heap:=h',toks:=s.toks+knd.draws k}):
  Bo (Bw prog w) A (dictSetDefault d (.ref a) y) Q E s:=by
 obtain⟨o,es,ep,ho,hc,hd,he,his,hn⟩:=hm;unfold dictSetDefault;refine Du (Ac (knd.pyHash hu hkey (Ac (wpAny_dictFind_heap (s:={s with toks:=s.toks+knd.draws k}) hu hkey ho hd he his hn (λhno=>?_) λj p hj=>?_))))
 .have hk:=atKey_none_of_get hno;have hnot:k∉xs.map (·.1):=not_mem_keys_of_get hno;refine Ac (Kj (Ac (wpAny_updateDictKeys (hz:=by have e:=Kw he;lia) (s:={s with toks:=s.toks+knd.draws k}) ho hd (Ao (h2 hk _ ⟨_,_,ep+1,Hs _ ho (Obj.isFreed_of_dict (Kf hd _)),
   hc.mapDictKeys _,Kf hd _,?_,λx hx=>?_,?_⟩ (Fd ..))))))
  .rw[storedH_new hk];simp[he,entryOfKey]
  .rw[storedH_new hk]at hx;rcases Aw.mp hx with q|q
   .exact knd.keeps (his x q) ho hd (Fd ..)
   .obtain rfl:=An.mp q;exact knd.keeps hkey ho hd (Fd ..)
  .rw[storedH_new hk,Bk,Ck];refine⟨hn,by simp,λx hx y hy=>?_⟩;simp only[Ay,Gw,An]at hy;subst hy;exact λe=>hnot (e▸hx)
 .refine Ac (Ii (s:={s with toks:=s.toks+knd.draws k}) ho hd ?_);rw[entry_at he j,hj];exact Ac (Kj (Ao (h1 p (atKey_of_get hn hj))))
theorem HM:∀{xs:List (K×Addr×Ae)} {j:Nat} {p:Addr×Ae},(xs.map (·.1)).Nodup->xs[j]? = some (k,p)->xs.eraseIdx j=xs.filter λx=>decide (x.1≠k)
 | [],j,p,_,h=>by simp at h
 | x::r,0,p,hn,h=>by
  have e:x=(k,p):=by simpa using h
  subst e;rw[Ay,Ee]at hn;rw[List.eraseIdx_zero,List.tail_cons,List.filter_cons_of_neg (by simp)];refine(List.filter_eq_self.mpr λy hy=>?_).symm;rw[decide_eq_true_eq];exact λe=>hn.1 (Au.mpr ⟨y,hy,e⟩)
 | x::r,j+1,p,hn,h=>by
  rw[Ay,Ee]at hn;have hj:r[j]? = some (k,p):=by simpa using h
  have hx:x.1≠k:=λe=>hn.1 (Au.mpr ⟨(k,p),Bl hj,e.symm⟩);rw[List.eraseIdx_cons_succ,HM hn.2 hj,List.filter_cons_of_pos (by simpa using hx)]
theorem YQ{v:Ae}{b:Addr}{Q:Option Fn->Aj->Prop}(hu:knd.room A)(hkey:knd.is s.heap k a)(hm:s.heap.DictOfH knd d xs)(hsz:xs.length<=Ap)(hv:Mu xs k=some (b,v))(h:∀h',h'.DictOfH knd d (xs.filter λx=>decide (x.1≠k))->Ez d s.heap h'->Q (some ⟨knd.hash k,.ref b,v⟩) {s with heap:=h',toks:=s.toks+knd.draws k}):
  Bo (Bw prog w) A (Builtin.Dict.takeOut d (.ref a)) Q E s:=by
 obtain⟨o,es,ep,ho,hc,hd,he,his,hn⟩:=hm;unfold Builtin.Dict.takeOut;refine Du (Ac (knd.pyHash hu hkey (Ac (wpAny_dictFind_heap (s:={s with toks:=s.toks+knd.draws k}) hu hkey ho hd he his hn (λhno=>?_) λj p hj=>?_))))
 .rw[atKey_none_of_get hno]at hv;cases hv
 .rw[atKey_of_get hn hj]at hv;cases hv;have hej:=HM hn hj;refine Ac (Ii (s:={s with toks:=s.toks+knd.draws k}) ho hd ?_);rw[entry_at he j,hj];refine Ac (wpAny_updateDictKeys (hz:=by have e:=Kw he;lia) (s:={s with toks:=s.toks+knd.draws k}) ho hd (Ao (h _ ⟨_,_,ep+1,Hs _ ho (Obj.isFreed_of_dict (Kf hd _)),
   hc.mapDictKeys _,Kf hd _,?_,λx hx=>knd.keeps (his x (Dh.mp hx).1) ho hd (Fd ..),?_⟩ (Fd ..))))
  .rw[<-hej];have e2:(xs.eraseIdx j).map (entryOfKey knd)=(xs.map (entryOfKey knd)).eraseIdx j:=by simp[List.eraseIdx_eq_take_drop_succ,Ng,List.map_drop]
   rw[e2,<-he];obtain⟨l⟩:=es;simp
  .exact hn.sublist (List.filter_sublist.map _)
end
section
variable {X:Cx}{pins:List (Addr×Obj)}{Z:St}{H:Hp}{s:Aj}{a b:Addr}{v:V}{r:Ae}{A:Dg}{E:Ae->Aj->Prop}{kvs:List (List aC×V)}{k:List aC}
theorem KT.drop{xs:List (List aC×Addr×Ae)}(rel:KT H kvs xs)(k:List aC):KT H (mS kvs k) (xs.filter λx=>decide (x.1≠k)):=by
 induction rel with
 | nil=>exact .nil
 | @cons p q ps qs h t ih=>
  unfold mS at ih⊢;rw[Bx,Bx,<-h.1];split
  .exact .cons h ih
  .exact ih
theorem YR{Q:Ae->Aj->Prop}(hu:A.units+1<Fo)(I:Inv X pins Z H s)(e:H a=some (.dT kvs))(eb:H b=some (.tup (k.map kV)))(rv:RelV v r)(hl:kvs.length<Ap)(h1:∀v0 w' s',gC kvs k=some v0->Inv X pins Z H s'->RelV v0 w'->Q w' s')(h2:gC kvs k=none->∀s',Inv X pins Z (aQ H a (.dT (d5 kvs k v))) s'->Q r s'):
  Bo (Bw X.prog X.w) A (call (.builtin "dict.setdefault") [.ref a,.ref b,r]) Q E s:=by
 obtain⟨z,hd,xs,rel,dd⟩:=vZ I.hok e;have hz:xs.length<=Ap:=by rw[<-Dr rel];exact z
 have hv:=rel.val k;refine Jc PySem.F.slot_dict_setdefault dd.typeIs PySem.F.entry_dict_setdefault (PySem.F.args_dict_setdefault_3 _ _ _)
  (S:=λA R s1=>(Ga (cR X.prog X.w)).room A.in1/\(Ga (cR X.prog X.w)).is s1.heap k b/\s1.heap.DictOfH (Ga (cR X.prog X.w)) a xs/\
   (∀p,Mu xs k=some p->R (.ok (.ret p.2)) {s1 with toks:=s1.toks+(k.length+1)})/\
   (Mu xs k=none->∀h',h'.DictOfH (Ga (cR X.prog X.w)) a (Nk xs k b r)->Ez a s1.heap h'->R (.ok (.ret r)) {s1 with heap:=h',toks:=s1.toks+(k.length+1)}))
  (.of_wp λA R s1 ⟨q0,q1,q2,q3,q4⟩=>?_) ⟨Ff hu,kD I.hok eb,dd,λp hp=>?_,λhn h' dd' hs=>?_⟩
 .unfold Mz.«dict.setdefault»;refine Ac ?_;unfold Builtin.Dict.keyAndDefault;refine Ac (Kg q2.typeIs ?_);refine Ao ?_;dsimp only;rw[if_neg (by rw[hd];exact Av)];exact Ac (YO q0 q1 q2 hz (λp hp=>Ao ⟨_,rfl,q3 p hp⟩) λhn h' hm' hs'=>Ao ⟨_,rfl,q4 hn h' hm' hs'⟩)
 .rw[hp]at hv;cases q:gC kvs k with
  | none=>rw[q]at hv;exact(show False from hv).elim
  | some v0=>rw[q]at hv;exact h1 v0 _ _ q (I.tok _) hv
 .rw[hn]at hv;have q:gC kvs k=none:=by
   cases q:gC kvs k with
   | none=>rfl
   | some v0=>rw[q]at hv;exact(show False from hv).elim
  have hl':(d5 kvs k v).length<=Ap:=by have:=nY kvs k v;lia
  obtain⟨q1,es,ep,hq,g2,g3,g4,_,g5⟩:=dd';refine h2 q _ (pQ (t':=s.toks+(k.length+1)) I (by rw[e];exact True.intro) hs ⟨q1,hq⟩ ⟨hl',hd,_,(rel.put k eb rv).keeps λc ys ec=>?_,q1,es,ep,hq,g2,g3,g4,g5⟩);rw[bI (vI ec e (λz=>nomatch z))];exact ec
theorem YS{Q:Ae->Aj->Prop}(hu:A.units+1<Fo)(I:Inv X pins Z H s)(e:H a=some (.dT kvs))(eb:H b=some (.tup (k.map kV)))(l:gC kvs k=some v)(h:∀w' s',Inv X pins Z (aQ H a (.dT (mS kvs k))) s'->RelV v w'->Q w' s'):Bo (Bw X.prog X.w) A (call (.builtin "dict.pop") [.ref a,.ref b]) Q E s:=by
 obtain⟨z,hd,xs,rel,dd⟩:=vZ I.hok e;have hz:xs.length<=Ap:=by rw[<-Dr rel];exact z
 obtain⟨w',hw,rw'⟩:=fV.some_of (v:=v) (o:=(Mu xs k).map (·.2)) (by rw[<-l];exact rel.val k);obtain⟨⟨c,w2⟩,hc,rfl⟩:=Bb.mp hw;refine Jc PySem.F.slot_dict_pop dd.typeIs PySem.F.entry_dict_pop (PySem.F.args_dict_pop_2 _ _)
  (S:=λA R s1=>(Ga (cR X.prog X.w)).room A.in1/\(Ga (cR X.prog X.w)).is s1.heap k b/\s1.heap.DictOfH (Ga (cR X.prog X.w)) a xs/\
   ∀h',h'.DictOfH (Ga (cR X.prog X.w)) a (xs.filter λx=>decide (x.1≠k))->Ez a s1.heap h'->R (.ok (.ret w2)) {s1 with heap:=h',toks:=s1.toks+(k.length+1)})
  (.of_wp λA R s1 ⟨q0,q1,q2,q3⟩=>?_) ⟨Ff hu,kD I.hok eb,dd,λh' dd' hs=>?_⟩
 .unfold Mz.«dict.pop»;refine Ac ?_;unfold Builtin.Dict.keyAndDefault;refine Ac (Kg q2.typeIs ?_);refine Ao ?_;dsimp only;rw[if_neg (show ¬((keyPart (Value.ref b)).isSome=true) from Av)];obtain⟨o,es,ep,ho,hc',hd',he,his,hn⟩:=id q2;have hne:es.isEmpty=false:=by
   have h1:=Kw he;cases xs with
   | nil=>cases hc
   | cons x r=>rw[Array.isEmpty_eq_false_iff];intro z;rw[z]at h1;simp at h1
  refine Ac (Ii ho hd' ?_);refine Ac (Ao ?_);rw[hne,if_neg Av];refine Ac (YQ q0 q1 q2 hz hc λh' hm' hs'=>?_);rw[if_neg (by simp)];exact Ac (wpAny_letGo (Ao ⟨_,rfl,q3 h' hm' hs'⟩))
 .obtain⟨q1,es,ep,hq,g2,g3,g4,_,g5⟩:=dd';refine h w2 _ (pQ (t':=s.toks+(k.length+1)) I (by rw[e];exact True.intro) hs ⟨q1,hq⟩ ⟨Ah (TZ kvs k) z,hd,_,(rel.drop k).keeps λc ys ec=>?_,q1,es,ep,hq,g2,g3,g4,g5⟩) rw';rw[bI (vI ec e (λz=>nomatch z))];exact ec
end
end L2
namespace L3
open PySem Spec PyProof.Rows L2
section
variable {X:Cx}
def oO:W->List W->Mm->K3->Prop
 | d,[y],M,R=>∃o,e9 M d y o/\R (o.getD .non) M
 | d,[y,v],M,R=>∃o,e9 M d y o/\R (o.getD v) M
 | _,_,_,_=>False
theorem qS(hu:X.A.units+1<Fo):iS X "dict.get" (kZ X.K oO):=by
 rintro pins s Z H x xs v us Q I rx rs ⟨wx,ws,M,R,am,ax,axs,h,k⟩
 match ws,h with
 | [y],h=>
  obtain⟨z,rfl,az⟩:=axs.one;obtain⟨o,g,r⟩:=h;obtain⟨a,rfl,g2⟩:=sL am ax az g;cases rx;obtain⟨u,rfl,ru⟩:=rs.one;rcases g2 with⟨rfl,g3⟩|⟨v0,w0,rfl,g3,av⟩
  .exact EN hu I g3 ru λw' s' I' rw'=>⟨_,H,I',rw',k.at am .non r⟩
  .exact EN hu I g3 ru λw' s' I' rw'=>⟨_,H,I',rw',k.at am av r⟩
 | [y,v1],h=>
  obtain⟨z,z1,rfl,az,az1⟩:=axs.two;obtain⟨o,g,r⟩:=h;obtain⟨a,rfl,g2⟩:=sL am ax az g;cases rx;obtain⟨u,u1,rfl,ru,ru1⟩:=vals2 rs;rcases g2 with⟨rfl,g3⟩|⟨v0,w0,rfl,g3,av⟩
  .exact EO hu I g3 ru ru1 λw' s' I' rw'=>⟨_,H,I',rw',k.at am az1 r⟩
  .exact EO hu I g3 ru ru1 λw' s' I' rw'=>⟨_,H,I',rw',k.at am av r⟩
def qT:W->List W->Mm->K3->Prop
 | .ref a,[.tup ks,v],M,R=>∃kvs k,M a=some (.dT kvs)/\ks=k.map wK/\kvs.length<Ap/\(∀w,aV kvs k=some w->R w M)/\(aV kvs k=none->R v (put M a (.dT (bS kvs k v))))
 | _,_,_,_=>False
theorem HN(hu:X.A.units+1<Fo):iS X "dict.setdefault" (kZ X.K qT):=by
 rintro pins s Z H x xs v us Q I rx rs ⟨wx,ws,M,R,am,ax,axs,h,k⟩
 match wx,ws,h with
 | .ref a,[.tup ks,v1],h=>
  obtain⟨z,z1,rfl,az,az1⟩:=axs.two;obtain⟨kvs,kk,e,rfl,hl,h1,h2⟩:=h;obtain rfl:=ax.inv;cases rx;obtain⟨u,u1,rfl,ru,ru1⟩:=vals2 rs;obtain⟨gs,e1,q⟩:=am _ _ e;cases az with
  | @tup b vs _ eb qb=>
   cases (show u=Value.ref b from ru);rw[qb.keys]at eb;have lk:=sJ q kk;refine YR hu I e1 eb ru1 (by rw[q.len];exact hl) (λv0 w' s' e2 I' rw'=>?_) λe2 s' I'=>?_
   .rcases lk with⟨_,l2⟩|⟨v2,w2,l1,l2,av⟩
    .rw[l2]at e2;cases e2
    .rw[l2]at e2;cases e2;exact⟨_,H,I',rw',k.at am av (h1 w2 l1)⟩
   .rcases lk with⟨l1,l2⟩|⟨v2,w2,l1,l2,av⟩
    .obtain⟨am3,k3⟩:=am.write (o:=.dT (bS kvs kk v1)) (u:=.dT (d5 gs kk z1)) e ⟨_,cU,(p6 q kk az1).go (mY am e)⟩;exact⟨_,_,I',ru1,k _ _ _ _ k3 am3 (az1.wr am e) (h2 l1)⟩
    .rw[l2]at e2;cases e2
def jE{U:Type}[DecidableEq U](kvs:List (U×W))(k:U):List (U×W):=kvs.filter λkv=>decide (kv.1≠k)
theorem YT{U:Type}[DecidableEq U]{K:Ab}{H:Hp}{M:Mm}{gs:List (U×V)}{kvs:List (U×W)}(h:bJ K H M U gs kvs)(k:U):bJ K H M U (mS gs k) (jE kvs k):=by
 induction h with
 | nil=>exact .nil
 | @cons p q ps qs r t ih=>
  unfold mS jE at ih⊢;rw[Bx,Bx,<-r.1];split
  .exact .cons r ih
  .exact ih
def HP:W->List W->Mm->K3->Prop
 | .ref a,[.tup ks],M,R=>∃kvs k w,M a=some (.dT kvs)/\ks=k.map wK/\aV kvs k=some w/\R w (put M a (.dT (jE kvs k)))
 | _,_,_,_=>False
theorem YU(hu:X.A.units+1<Fo):iS X "dict.pop" (kZ X.K HP):=by
 rintro pins s Z H x xs v us Q I rx rs ⟨wx,ws,M,R,am,ax,axs,h,k⟩
 match wx,ws,h with
 | .ref a,[.tup ks],h=>
  obtain⟨z,rfl,az⟩:=axs.one;obtain⟨kvs,kk,w,e,rfl,l,r⟩:=h;obtain rfl:=ax.inv;cases rx;obtain⟨u,rfl,ru⟩:=rs.one;obtain⟨gs,e1,q⟩:=am _ _ e;cases az with
  | @tup b vs _ eb qb=>
   cases (show u=Value.ref b from ru);rw[qb.keys]at eb;rcases sJ q kk with⟨l1,l2⟩|⟨v2,w2,l1,l2,av⟩
   .rw[l1]at l;cases l
   .rw[l1]at l;cases l;obtain⟨am3,k3⟩:=am.write (o:=.dT (jE kvs kk)) (u:=.dT (mS gs kk)) e ⟨_,cU,(YT q kk).go (mY am e)⟩;exact YS hu I e1 eb l2 λw' s' I' rw'=>⟨_,_,I',rw',k _ _ _ _ k3 am3 (av.wr am e) r⟩
end
section
variable {K:Ab}{H:Hp}{M:Mm}
theorem YV(k:aC):AV K H M (kV k) (wK k):=by cases k<;>first|exact .int _|exact .str _
theorem yF:∀ks:List aC,aL K H M (ks.map kV) (ks.map wK)
 | []=>.nil
 | k::r=>.cons (YV k) (yF r)
end
end L3
namespace PySem
namespace Zd
open PyProof.Rows L2 PySem.Spec Zt
section
variable {prog:Ca}{w:Ct}{A:Dg}{E:Ae->Aj->Prop}{s:Aj}
variable {z TI TO i1 i2 l1 l2:Addr}{xs ys:Array Ae}{S1 S2:Nat->Heap->Prop}
abbrev TK(prog:Ca)(w:Ct):=Ga (cR prog w)
def allH(es:List (List aC×Addr×Ae))(ps:List (List aC×Addr×Ae)):List (List aC×Addr×Ae):=ps.foldl (λes p=>Nk es p.1 p.2.1 p.2.2) es
theorem HQ(es:List (List aC×Addr×Ae))(k:List aC)(a:Addr)(v:Ae):(Nk es k a v).length<=es.length+1:=by
 unfold Nk;split
 .rw[Aa];lia
 .rw[Ar,Bz];exact Ag _
theorem yG{h h':Heap}{k:List aC}{a:Addr}(x:(TK prog w).is h k a)(e:∀o,h.get? a=some o->h'.get? a=some o):(TK prog w).is h' k a:=by
 obtain⟨o,items,n,ho,r⟩:=x;exact⟨o,items,n,e o ho,r⟩
end
end Zd
end PySem
namespace L2
open PySem Spec PyProof.Rows
def nG(ks:List (List aC×V))(ps:List (List aC×V)):List (List aC×V):=ps.foldl (λk p=>d5 k p.1 p.2) ks
theorem YW{H:Hp}{qs:List (List aC×Addr×V)}{ps:List (List aC×Addr×Ae)}(h:Iv (λ(q:List aC×Addr×V) (p:List aC×Addr×Ae)=>q.1=p.1/\q.2.1=p.2.1/\RelV q.2.2 p.2.2) qs ps):
  ∀{kvs:List (List aC×V)} {es:List (List aC×Addr×Ae)},(∀q∈qs,H q.2.1=some (.tup (q.1.map kV)))->KT H kvs es->KT H (nG kvs (qs.map λq=>(q.1,q.2.2))) (Zd.allH es ps):=by
 induction h with
 | nil=>intro kvs es _ k;exact k
 | @cons q p qs ps r t ih=>
  intro kvs es hq k;obtain⟨q1,q2,q3⟩:=q;obtain⟨p1,p2,p3⟩:=p;obtain⟨rfl,rfl,r3⟩:=r;exact ih (λz hz=>hq z (Af _ hz)) (k.put q1 (hq _ Ai) r3)
theorem HR:∀(ps:List (List aC×V)) (ks:List (List aC×V)),(nG ks ps).length<=ks.length+ps.length
 | [],ks=>Ag _
 | p::ps,ks=>by
  have h1:=HR ps (d5 ks p.1 p.2);have h2:=nY ks p.1 p.2;show(nG (d5 ks p.1 p.2) ps).length<=ks.length+(ps.length+1);lia
end L2
namespace L3
open PySem Spec PyProof.Rows L2
def oP(kvs:List (List aC×W))(ps:List (List aC×W)):List (List aC×W):=ps.foldl (λkvs p=>bS kvs p.1 p.2) kvs
structure Dm(K:Ab)(C:Addr)(x qual:Str)(st:Stmt)(ps:List Str)(f:Addr)(fd:Bv):Prop where
 fn:jM K x qual st f fd
 me:nX K C x f
 bi:Binds K fd ps []
structure Di(K:Ab)(C:Addr)(x qual:Str)(st:Stmt)(ps:List Str)(f:Addr)(fd:Bv):Prop where
 fn:jM K x qual st f fd
 mak:Mk K C f
 bi:Binds K fd ps []
theorem YX{A:Dg}{k:Nat}(hr:cN k A):A.units+2<Fo:=by have:=hr.un;lia
end L3
namespace L2
open PySem Spec PyProof.Rows
def gW(a b:Int×Int):Bool:=decide (a.1<b.1)||(decide (a.1=b.1)&&decide (a.2<b.2))
section
variable {prog:Ca}{w:Ct}{A:Dg}{E:Ae->Aj->Prop}{s:Aj}
theorem YY{a b:Addr}{oa ob:Obj}{xs ys:Array Ae}{na nb:Nat}{x1 x2 y1 y2:Int}{t1 t2 u1 u2:Tok}{Q:Ae->Aj->Prop}(hu:A.units+1<Fo)(hoa:s.heap.get? a=some oa)(hca:oa.cls=.type "tuple")(hda:oa.data=.seq xs na)(hob:s.heap.get? b=some ob)(hcb:ob.cls=.type "tuple")(hdb:ob.data=.seq ys nb)(ex:xs.toList=[.int x1 t1,.int x2 t2])(ey:ys.toList=[.int y1 u1,.int y2 u2])(h:Q (.bool (gW (x1,x2) (y1,y2))) s):Bo (Bw prog w) A (Cq .Lt (.ref a) (.ref b)) Q E s:=by
 have hTa:s.TypeIs (.ref a) "tuple":=⟨oa,hoa,hca⟩;have hTb:s.TypeIs (.ref b) "tuple":=⟨ob,hob,hcb⟩;show Bo _ _ (richCompare .Lt (.ref a) (.ref b)) Q E s;refine wpAny_richCompare_same_room (op:=.Lt) hTa hTb PySem.F.slot_tuple_lt (Fi PySem.F.slot_tuple_lt hTa PySem.F.entry_tuple_lt ?_ (PySem.F.args_tuple_lt_2 _ _)) (Nat.lt_of_succ_lt hu);show Bo _ _ (isInstance (.ref b) (.type "tuple")>>=_) _ _ s;refine Ac (wpAny_isInstance hTb isSubtype_tuple_tuple ?_);simp only[Kb,Ea,if_false];refine Ac (Lr hoa hda ?_);refine Ac (Lr hob hdb ?_);refine Ac ?_;rw[ex,ey];show Bo _ _ (forIn [(Value.int x1 t1,Value.int y1 u1),(Value.int x2 t2,Value.int y2 u2)] _ _) _ _ s;have hsz:xs.size=2/\ys.size=2:=by
  have h1:=congrArg Dv ex;have h2:=congrArg Dv ey;simp at h1 h2;exact⟨h1,h2⟩
 refine wpAny_forIn_list _
  (λrest q s'=>q.1=none/\s'=s/\(rest=[(Value.int x1 t1,Value.int y1 u1),(Value.int x2 t2,Value.int y2 u2)]\/(rest=[(Value.int x2 t2,Value.int y2 u2)]/\x1=y1)\/(rest=[]/\x1=y1/\x2=y2)))
  _ ?_ ?_ _ _ ⟨rfl,rfl,.inl rfl⟩
 .rintro⟨u,v⟩ rest q s' ⟨hq,rfl,hc⟩;rcases hc with z|⟨z,e1⟩|⟨z,_⟩
  .simp only[Dn,Dx]at z;obtain⟨⟨rfl,rfl⟩,rfl⟩:=z;refine Ac (Jb ?_)
   by_cases e1:x1=y1
   .rw[show(x1==y1)=true by simpa using e1];simp only[Kb,Ea,if_false];exact Ao ⟨rfl,rfl,by simp[e1]⟩
   .rw[show(x1==y1)=false by simpa using e1];simp only[Mw,if_true];have e:gW (x1,x2) (y1,y2)=decide (x1<y1):=by simp[gW,e1]
    rw[e]at h;refine Ac (Kj (Ac (Ly ?_)));exact Ac (Ao (Ao (Ao ⟨_,rfl,(λe=>nomatch e),h⟩)))
  .simp only[Dn,Dx]at z;obtain⟨⟨rfl,rfl⟩,rfl⟩:=z;refine Ac (Jb ?_)
   by_cases e2:x2=y2
   .rw[show(x2==y2)=true by simpa using e2];simp only[Kb,Ea,if_false];exact Ao ⟨rfl,rfl,by simp[e1,e2]⟩
   .rw[show(x2==y2)=false by simpa using e2];simp only[Mw,if_true];have e:gW (x1,x2) (y1,y2)=decide (x2<y2):=by simp[gW,e1]
    rw[e]at h;refine Ac (Kj (Ac (Ly ?_)));exact Ac (Ao (Ao (Ao ⟨_,rfl,(λe=>nomatch e),h⟩)))
  .cases z
 .rintro⟨q1,q2⟩ s' ⟨hq,rfl,hc⟩;simp only at hq;subst hq;rcases hc with z|⟨z,_⟩|⟨_,e1,e2⟩
  .cases z
  .cases z
  .refine Ao ⟨_,rfl,(λe=>nomatch e),?_⟩;subst e1;subst e2;have e:gW (x1,x2) (x1,x2)=decide (xs.size<ys.size):=by rw[hsz.1,hsz.2];simp[gW]
   rw[e]at h;exact h
theorem YZ{a b:Addr}{oa ob:Obj}{xs ys:Array Ae}{na nb:Nat}{x1 x2 y1 y2:Int}{t1 t2 u1 u2:Tok}{Q:Ae->Aj->Prop}(hu:A.units+1<Fo)(hoa:s.heap.get? a=some oa)(hca:oa.cls=.type "tuple")(hda:oa.data=.seq xs na)(hob:s.heap.get? b=some ob)(hcb:ob.cls=.type "tuple")(hdb:ob.data=.seq ys nb)(ex:xs.toList=[.int x1 t1,.int x2 t2])(ey:ys.toList=[.int y1 u1,.int y2 u2])(h:Q (.bool (gW (y1,y2) (x1,x2))) s):Bo (Bw prog w) A (Cq .Gt (.ref a) (.ref b)) Q E s:=by
 have hTa:s.TypeIs (.ref a) "tuple":=⟨oa,hoa,hca⟩;have hTb:s.TypeIs (.ref b) "tuple":=⟨ob,hob,hcb⟩;show Bo _ _ (richCompare .Gt (.ref a) (.ref b)) Q E s;refine wpAny_richCompare_same_room (op:=.Gt) hTa hTb PySem.F.slot_tuple_gt (Fi PySem.F.slot_tuple_gt hTa PySem.F.entry_tuple_gt ?_ (PySem.F.args_tuple_gt_2 _ _)) (Nat.lt_of_succ_lt hu);show Bo _ _ (isInstance (.ref b) (.type "tuple")>>=_) _ _ s;refine Ac (wpAny_isInstance hTb isSubtype_tuple_tuple ?_);simp only[Kb,Ea,if_false];refine Ac (Lr hoa hda ?_);refine Ac (Lr hob hdb ?_);refine Ac ?_;rw[ex,ey];show Bo _ _ (forIn [(Value.int x1 t1,Value.int y1 u1),(Value.int x2 t2,Value.int y2 u2)] _ _) _ _ s;have hsz:xs.size=2/\ys.size=2:=by
  have h1:=congrArg Dv ex;have h2:=congrArg Dv ey;simp at h1 h2;exact⟨h1,h2⟩
 refine wpAny_forIn_list _
  (λrest q s'=>q.1=none/\s'=s/\(rest=[(Value.int x1 t1,Value.int y1 u1),(Value.int x2 t2,Value.int y2 u2)]\/(rest=[(Value.int x2 t2,Value.int y2 u2)]/\x1=y1)\/(rest=[]/\x1=y1/\x2=y2)))
  _ ?_ ?_ _ _ ⟨rfl,rfl,.inl rfl⟩
 .rintro⟨u,v⟩ rest q s' ⟨hq,rfl,hc⟩;rcases hc with z|⟨z,e1⟩|⟨z,_⟩
  .simp only[Dn,Dx]at z;obtain⟨⟨rfl,rfl⟩,rfl⟩:=z;refine Ac (Jb ?_)
   by_cases e1:x1=y1
   .rw[show(x1==y1)=true by simpa using e1];simp only[Kb,Ea,if_false];exact Ao ⟨rfl,rfl,by simp[e1]⟩
   .rw[show(x1==y1)=false by simpa using e1];simp only[Mw,if_true];have e:gW (y1,y2) (x1,x2)=decide (y1<x1):=by simp[gW,Co e1]
    rw[e]at h;refine Ac (Kj (Ac (PyProof.Rows.gt_int ?_)));exact Ac (Ao (Ao (Ao ⟨_,rfl,(λe=>nomatch e),h⟩)))
  .simp only[Dn,Dx]at z;obtain⟨⟨rfl,rfl⟩,rfl⟩:=z;refine Ac (Jb ?_)
   by_cases e2:x2=y2
   .rw[show(x2==y2)=true by simpa using e2];simp only[Kb,Ea,if_false];exact Ao ⟨rfl,rfl,by simp[e1,e2]⟩
   .rw[show(x2==y2)=false by simpa using e2];simp only[Mw,if_true];have e:gW (y1,y2) (x1,x2)=decide (y2<x2):=by simp[gW,e1]
    rw[e]at h;refine Ac (Kj (Ac (PyProof.Rows.gt_int ?_)));exact Ac (Ao (Ao (Ao ⟨_,rfl,(λe=>nomatch e),h⟩)))
  .cases z
 .rintro⟨q1,q2⟩ s' ⟨hq,rfl,hc⟩;simp only at hq;subst hq;rcases hc with z|⟨z,_⟩|⟨_,e1,e2⟩
  .cases z
  .cases z
  .refine Ao ⟨_,rfl,(λe=>nomatch e),?_⟩;subst e1;subst e2;have e:gW (x1,x2) (x1,x2)=decide (xs.size > ys.size):=by rw[hsz.1,hsz.2];simp[gW]
   rw[e]at h;exact h
end
section
variable {X:Cx}
def rInsert:V->List V->Hp->VK->Prop:=λx vs H Q=>∃l xs y i,x=.ref l/\vs=[.int (i:Nat),y]/\H l=some (.lst xs)/\xs.length<Ap/\i<=xs.length/\Q .non (aQ H l (.lst (xs.take i++y::xs.drop i)))
theorem aW.splitAt:∀{xs:List V} {us:List Ae} (i:Nat),aW xs us->aW (xs.take i) (us.take i)/\aW (xs.drop i) (us.drop i)
 | _,_,0,h=>⟨.nil,h⟩
 | _,_,i+1,.nil=>⟨.nil,.nil⟩
 | _,_,i+1,.cons r t=>by
  obtain⟨h1,h2⟩:=aW.splitAt i t;exact⟨.cons r h1,h2⟩
theorem Y0:vW X "list.insert" rInsert:=by
 intro pins s Z H x vs v us Q I rx rv h;obtain⟨l,xs,y,i,rfl,rfl,hH,hz,hi,q⟩:=h;cases rx;obtain⟨u1,u2,rfl,r1,r2⟩:=vals2 rv;obtain⟨tk,rfl⟩:=r1;obtain⟨z,its,n,r,hl,e⟩:=I.lstM hH;have hlen:its.length=xs.length:=r.length.symm;have hs:Ap=16777216:=Mg;have hc0:¬(!Builtin.List.listFitsIndex ((i:Nat):Int))=true:=by
  have h1:Builtin.List.listFitsIndex ((i:Nat):Int)=true:=by
   unfold Builtin.List.listFitsIndex;rw[Cw,decide_eq_true_eq,decide_eq_true_eq];lia
  rw[h1];decide
 have hs1:its.toArray.size<=Ap:=by rw[Bg];lia
 generalize hj:((i:Nat):Int)=j at hc0 e⊢;have hm:=PySem.AutoSeq1.list_insert_list_int_val_1 l its.toArray n j tk u2 hc0 hs1;refine Mx F.slot_list_insert ⟨_,e,rfl⟩ F.entry_list_insert (F.args_list_insert_3 _ _ _) hm ⟨e,?_⟩;obtain⟨h1,h2⟩:=aW.splitAt i r;refine⟨.non,_,I.lset (its':=its.take i++u2::its.drop i) hH e ?_ (h1.append (.cons r2 h2)) ?_,rfl,q⟩
 .have hk:(if j<0 then(j+(its.toArray.size:Int)).toNat else min j.toNat its.toArray.size)=i:=by
   rw[<-hj,if_neg (by lia),Fj,Bg];lia
  show(its.toArray.extract 0 (if j<0 then(j+(its.toArray.size:Int)).toNat else min j.toNat its.toArray.size)).push u2++its.toArray.extract (if j<0 then(j+(its.toArray.size:Int)).toNat else min j.toNat its.toArray.size)=_;rw[hk];apply Array.toList_inj.mp;simp[Array.toList_append,Array.toList_push];rw[Hh (by rw[Fq];lia)]
 .rw[Ar,Az,Ce,Fq];lia
end
end L2
namespace L3
open PySem Spec PyProof.Rows L2
section
variable {X:Cx}
def yH:R3:=λx y M R=>∃a b c d:Int,x=.tup [.int a,.int b]/\y=.tup [.int c,.int d]/\R (.bl (gW (a,b) (c,d))) M
def HS:R3:=λx y M R=>∃a b c d:Int,x=.tup [.int a,.int b]/\y=.tup [.int c,.int d]/\R (.bl (gW (c,d) (a,b))) M
theorem tK{pins:List (Addr×Obj)}{Z:SV}{H:Hp}{M:Mm}{s:Aj}{x:V}{v:Ae}{a b:Int}(I:Inv X pins Z H s)(rx:RelV x v)(ax:AV X.K H M x (.tup [.int a,.int b])):∃p o its n t u,v=.ref p/\s.heap.get? p=some o/\o.cls=.type "tuple"/\o.data=.seq its n/\its.toList=[.int a t,.int b u]:=by
 cases ax with
 | @tup p xs _ e q=>
  cases (show v=Value.ref p from rx);obtain⟨y,z,rfl,ay,az⟩:=q.two;obtain rfl:=ay.inv;obtain rfl:=az.inv;obtain⟨_,its,r,o,h1,h2,m,h3⟩:=(show b8 X.prog X.w H s.heap p (.tup [.int a,.int b]) from I.hok p _ e);obtain⟨u1,u2,rfl,r1,r2⟩:=vals2 r;obtain⟨t1,rfl⟩:=r1;obtain⟨t2,rfl⟩:=r2;exact⟨p,o,_,m,t1,t2,rfl,h1,h2,h3,by simp⟩
theorem HU(hu:X.A.units+1<Fo):a9 X (Cq .Lt) (cJ X.K yH):=by
 rintro pins s Z H x y v u Q I rx ry ⟨wx,wy,M,R,am,ax,ay,⟨a,b,c,d,rfl,rfl,r⟩,k⟩;obtain⟨p,o,its,n,t1,t2,rfl,h1,h2,h3,h4⟩:=tK I rx ax;obtain⟨p',o',its',n',t1',t2',rfl,g1,g2,g3,g4⟩:=tK I ry ay;exact YY hu h1 h2 h3 g1 g2 g3 h4 g4 ⟨.bl _,H,I,rfl,k.at am (.bl _) r⟩
theorem Y1(hu:X.A.units+1<Fo):a9 X (Cq .Gt) (cJ X.K HS):=by
 rintro pins s Z H x y v u Q I rx ry ⟨wx,wy,M,R,am,ax,ay,⟨a,b,c,d,rfl,rfl,r⟩,k⟩;obtain⟨p,o,its,n,t1,t2,rfl,h1,h2,h3,h4⟩:=tK I rx ax;obtain⟨p',o',its',n',t1',t2',rfl,g1,g2,g3,g4⟩:=tK I ry ay;exact YZ hu h1 h2 h3 g1 g2 g3 h4 g4 ⟨.bl _,H,I,rfl,k.at am (.bl _) r⟩
def HV:W->List W->Mm->K3->Prop
 | .ref l,[.int i,y],M,R=>∃ws,M l=some (.lst ws)/\ws.length<Ap/\0<=i/\i<=ws.length/\R .non (put M l (.lst (ws.take i.toNat++y::ws.drop i.toNat)))
 | _,_,_,_=>False
theorem HW{K:Ab}{H:Hp}{M:Mm}:∀{vs:List V} {ws:List W} (i:Nat),aL K H M vs ws->aL K H M (vs.take i) (ws.take i)/\aL K H M (vs.drop i) (ws.drop i)
 | _,_,0,h=>⟨.nil,h⟩
 | _,_,i+1,.nil=>⟨.nil,.nil⟩
 | _,_,i+1,.cons r t=>by
  obtain⟨h1,h2⟩:=HW i t;exact⟨.cons r h1,h2⟩
theorem Y2:iS X "list.insert" (kZ X.K HV):=by
 rintro pins s Z H x xs v us Q I rx rs ⟨wx,ws,M,R,am,ax,axs,h,k⟩
 match wx,ws,h with
 | .ref l,[.int i,y],h=>
  obtain⟨u,z,rfl,au,az⟩:=axs.two;obtain rfl:=ax.inv;obtain rfl:=au.inv;obtain⟨ws,e,hl,h0,h1,r⟩:=h;obtain⟨i,rfl⟩:=Hf h0;obtain⟨vs,f,q⟩:=am.lst e;obtain⟨q1,q2⟩:=HW i q;rw[Fj]at r;exact Y0 pins s Z H _ _ v us Q I rx rs ⟨l,vs,z,i,rfl,rfl,f,by rw[q.length];exact hl,by rw[q.length];lia,wM am k e (q1.append (.cons az q2)) .non r⟩
end
end L3
namespace Rg
open PySem Spec PyProof.Rows L2 L3
theorem oQ{U:Type}[DecidableEq U]{kvs:List (U×W)}{k j:U}{w:W}:aV (bS kvs k w) j=if k=j then some w else aV kvs j:=kI kvs k j w
theorem lH{U:Type}[DecidableEq U](e:U×W)(t:List (U×W))(k:U):aV (e::t) k=if e.1=k then some e.2 else aV t k:=dG e t k
theorem tL{U:Type}[DecidableEq U]{k j:U}:∀{kvs:List (U×W)},aV (jE kvs k) j=if k=j then none else aV kvs j
 | []=>by unfold jE;rw[Jd];split<;>rfl
 | e::t=>by
  have ih:=tL (k:=k) (j:=j) (kvs:=t);unfold jE at ih⊢;rw[Bx]
  by_cases h:e.1=k
  .rw[if_neg (by simp[h]),ih,lH]
   by_cases hj:k=j
   .rw[if_pos hj,if_pos hj]
   .rw[if_neg hj,if_neg hj,if_neg (by rw[h];exact hj)]
  .rw[if_pos (by simp[h]),lH,ih,lH]
   by_cases hj:k=j
   .rw[if_pos hj,if_pos hj,if_neg (by rw[<-hj];exact h)]
   .rw[if_neg hj,if_neg hj]
theorem yI{U:Type}[DecidableEq U](kvs:List (U×W))(k:U)(w:W):(bS kvs k w).length<=kvs.length+1:=mD kvs k w
theorem HX{U:Type}[DecidableEq U]{k:U}:∀{kvs:List (U×W)},(aV kvs k).isSome=true->(jE kvs k).length<kvs.length
 | [],h=>by cases h
 | e::t,h=>by
  unfold jE;rw[Bx];have hle:(t.filter λkv=>decide (kv.1≠k)).length<=t.length:=Ef _ _
  by_cases he:e.1=k
  .rw[if_neg (by simp[he]),Az];lia
  .rw[if_pos (by simp[he]),Az,Az];rw[lH,if_neg he]at h;have:=HX h;unfold jE at this;lia
structure d3{U:Type}(kk:U->List aC)(M0 M:Mm)(a:Addr)(kvs:List (List aC×W))(g:U->Option (List W)):Prop where
 sub:L3.Sub M0 M
 new:M0 a=none
 at_:M a=some (.dT kvs)
 non:∀k,g k=none->aV kvs (kk k)=none
 som:∀k ws,g k=some ws->∃p,aV kvs (kk k)=some (.ref p)/\p≠a/\M0 p=none/\M p=some (.lst ws)
 inj:∀k j p,aV kvs (kk k)=some (.ref p)->aV kvs (kk j)=some (.ref p)->k=j
theorem iP{M0 M:Mm}{p:Addr}{o:MO}(h:L3.Sub M0 M)(n:M0 p=none):L3.Sub M0 (put M p o):=λa u e=>by
 rw[aK (λz=>by rw[z,n]at e;cases e)];exact h a u e
section
variable {U:Type}[DecidableEq U]{kk:U->List aC}{M0 M:Mm}{a p:Addr}{kvs:List (List aC×W)}{g:U->Option (List W)}{o:MO}{k:U}{ws:List W}
theorem d3.lift(h:d3 kk M0 M a kvs g)(hp:M p=none\/∃u,M0 p=some u):d3 kk (put M0 p o) (put M p o) a kvs g:=by
 have ne:∀{b:Addr},M0 b=none->(∃u,M b=some u)->b≠p:=λ{b} h0 ⟨u,h1⟩ e=>by
  subst e;rcases hp with z|⟨v,z⟩
  .rw[h1]at z;cases z
  .rw[h0]at z;cases z
 refine⟨Sub.put h.sub,?_,?_,h.non,λk ws e=>?_,h.inj⟩
 .rw[aK (ne h.new ⟨_,h.at_⟩)];exact h.new
 .rw[aK (ne h.new ⟨_,h.at_⟩)];exact h.at_
 .obtain⟨q,h1,h2,h3,h4⟩:=h.som k ws e;have:=ne h3 ⟨_,h4⟩;exact⟨q,h1,h2,by rw[aK this];exact h3,by rw[aK this];exact h4⟩
theorem d3.more(h:d3 kk M0 M a kvs g)(hp:M p=none):d3 kk M0 (put M p o) a kvs g:=by
 have ne:∀{b:Addr},(∃u,M b=some u)->b≠p:=λ{b} ⟨u,h1⟩ e=>by subst e;rw[hp]at h1;cases h1
 refine⟨iP h.sub (h.sub.non hp),h.new,by rw[aK (ne ⟨_,h.at_⟩)];exact h.at_,h.non,λk ws e=>?_,h.inj⟩;obtain⟨q,h1,h2,h3,h4⟩:=h.som k ws e;exact⟨q,h1,h2,h3,by rw[aK (ne ⟨_,h4⟩)];exact h4⟩
theorem d3.has(h:d3 kk M0 M a kvs g)(e:g k=some ws):∃p,aV kvs (kk k)=some (.ref p)/\M p=some (.lst ws):=by
 obtain⟨q,h1,_,_,h4⟩:=h.som k ws e;exact⟨q,h1,h4⟩
theorem d3.look(h:d3 kk M0 M a kvs g)(k:U):(aV kvs (kk k)).isSome=(g k).isSome:=by
 cases e:g k with
 | none=>rw[h.non k e];rfl
 | some ws=>obtain⟨q,h1,_⟩:=h.has e;rw[h1];rfl
theorem d3.wr(h:d3 kk M0 M a kvs g)(hk:aV kvs (kk k)=some (.ref p)):d3 kk M0 (put M p (.lst ws)) a kvs (λj=>if k=j then some ws else g j):=by
 obtain⟨ws0,e0⟩:∃ws0,g k=some ws0:=by
  cases e:g k with
  | none=>rw[h.non k e]at hk;cases hk
  | some ws=>exact⟨_,rfl⟩
 obtain⟨q,h1,h2,h3,h4⟩:=h.som k ws0 e0;rw[hk]at h1;cases h1;refine⟨iP h.sub h3,h.new,by rw[aK (Co h2)];exact h.at_,λj e=>?_,λj us e=>?_,h.inj⟩
 .by_cases hj:k=j
  .rw[if_pos hj]at e;cases e
  .rw[if_neg hj]at e;exact h.non j e
 .by_cases hj:k=j
  .rw[if_pos hj]at e;cases e;subst hj;exact⟨p,hk,h2,h3,aS⟩
  .rw[if_neg hj]at e;obtain⟨q,g1,g2,g3,g4⟩:=h.som j us e;refine⟨q,g1,g2,g3,?_⟩;rw[aK (λz=>hj (h.inj k j p hk (by rw[<-z];exact g1)))];exact g4
theorem d3.add(hkk:∀k j,kk k=kk j->k=j)(h:d3 kk M0 M a kvs g)(hg:g k=none)(hp:M p=none):d3 kk M0 (put (put M p (.lst ws)) a (.dT (bS kvs (kk k) (.ref p)))) a (bS kvs (kk k) (.ref p)) (λj=>if k=j then some ws else g j):=by
 have ne:∀{b:Addr},(∃u,M b=some u)->b≠p:=λ{b} ⟨u,h1⟩ e=>by subst e;rw[hp]at h1;cases h1
 have hpa:p≠a:=Co (ne ⟨_,h.at_⟩);have refs:∀j q,aV kvs (kk j)=some (.ref q)->∃u,M q=some u:=λj q e=>by
  cases eg:g j with
  | none=>rw[h.non j eg]at e;cases e
  | some us=>
   obtain⟨q',g1,_,_,g4⟩:=h.som j us eg;rw[e]at g1;cases g1;exact⟨_,g4⟩
 refine⟨iP (iP h.sub (h.sub.non hp)) h.new,h.new,aS,λj e=>?_,λj us e=>?_,λi j q e1 e2=>?_⟩
 .by_cases hj:k=j
  .rw[if_pos hj]at e;cases e
  .rw[if_neg hj]at e;rw[oQ,if_neg (λz=>hj (hkk _ _ z))];exact h.non j e
 .by_cases hj:k=j
  .rw[if_pos hj]at e;cases e;subst hj;exact⟨p,by rw[oQ,if_pos rfl],hpa,h.sub.non hp,by rw[aK hpa,aS]⟩
  .rw[if_neg hj]at e;obtain⟨q,g1,g2,g3,g4⟩:=h.som j us e;exact⟨q,by rw[oQ,if_neg (λz=>hj (hkk _ _ z))];exact g1,g2,g3,by rw[aK g2,aK (ne ⟨_,g4⟩)];exact g4⟩
 .rw[oQ]at e1 e2
  by_cases h1:kk k=kk i
  .by_cases h2:kk k=kk j
   .exact(hkk _ _ h1).symm.trans (hkk _ _ h2)
   .rw[if_pos h1]at e1;rw[if_neg h2]at e2;cases e1;obtain⟨u,z⟩:=refs j p e2;rw[hp]at z;cases z
  .by_cases h2:kk k=kk j
   .rw[if_neg h1]at e1;rw[if_pos h2]at e2;cases e2;obtain⟨u,z⟩:=refs i p e1;rw[hp]at z;cases z
   .rw[if_neg h1]at e1;rw[if_neg h2]at e2;exact h.inj i j q e1 e2
theorem d3.del(hkk:∀k j,kk k=kk j->k=j)(h:d3 kk M0 M a kvs g):d3 kk M0 (put M a (.dT (jE kvs (kk k)))) a (jE kvs (kk k)) (λj=>if k=j then none else g j):=by
 refine⟨iP h.sub h.new,h.new,aS,λj e=>?_,λj us e=>?_,λi j q e1 e2=>?_⟩
 .rw[tL]
  by_cases hj:k=j
  .rw[if_pos (by rw[hj])]
  .rw[if_neg hj]at e;rw[if_neg (λz=>hj (hkk _ _ z))];exact h.non j e
 .by_cases hj:k=j
  .rw[if_pos hj]at e;cases e
  .rw[if_neg hj]at e;obtain⟨q,g1,g2,g3,g4⟩:=h.som j us e;exact⟨q,by rw[tL,if_neg (λz=>hj (hkk _ _ z))];exact g1,g2,g3,by rw[aK g2];exact g4⟩
 .rw[tL]at e1 e2;split at e1
  .cases e1
  .split at e2
   .cases e2
   .exact h.inj i j q e1 e2
theorem d3.same{g':U->Option (List W)}(h:d3 kk M0 M a kvs g)(e:∀k,g' k=g k):d3 kk M0 M a kvs g':=by
 have:g'=g:=funext e;rw[this];exact h
end
structure Cc where
 q:Addr
 s:Addr
 f:Addr
 g:Addr
 p:Addr
 h:Addr
 i:Addr
 c:Addr
 t:Addr
def cW(c:aJ):W:=.tup [.int c.1,.int c.2]
def cK(c:aJ):List aC:=[Sum.inl c.1,Sum.inl c.2]
theorem Y3(c:aJ):cW c=.tup ((cK c).map wK):=rfl
theorem HY:∀a b:aJ,cK a=cK b->a=b:=λa b h=>by
 unfold cK at h;simp only[Dn,Ju,and_true]at h;exact Iz h.1 h.2
def iC(cut:List Int):W:=.tup (cut.map W.int)
def j5(x:Nat×List Int):W:=.tup [.int x.1,iC x.2]
section
variable {O:Type}
theorem oR{U J:Type}[DecidableEq U]{t:List (U×J)}{k:U}(h:∀e∈t,e.1≠k):aI t k=none:=by
 induction t with
 | nil=>rfl
 | cons e t ih=>rw[dG,if_neg (h e Ai)];exact ih λx hx=>h x (Af _ hx)
theorem tM{a b:aJ}(h:cF a b=true):a≠b:=λe=>by subst e;exact qJ h
theorem HZ(c:aJ)(x:O)(d:aJ):∀{q:List (aJ×List O)},gU q->aI (dH c x q) d=if c=d then some ((aI q c).getD []++[x]) else aI q d
 | [],_=>by rw[dH,dG];rfl
 | (e,xs)::r,h=>by
  obtain⟨_,h2,h3⟩:=h;rw[dH]
  by_cases h1:cF c e=true
  .rw[if_pos h1,dG,HZ c x d h3,dG,dG,if_neg (Co (tM h1))]
   by_cases hd:e=d
   .rw[if_pos hd,if_pos hd,if_neg (λz=>tM h1 (z.trans hd.symm))]
   .rw[if_neg hd,if_neg hd]
  .rw[if_neg h1]
   by_cases h4:e=c
   .subst h4;rw[if_pos rfl,dG,dG,dG,if_pos rfl]
    by_cases hd:e=d
    .rw[if_pos hd,if_pos hd];rfl
    .rw[if_neg hd,if_neg hd,if_neg hd]
   .rw[if_neg h4,dG];have hn:aI ((e,xs)::r) c=none:=oR λz hz=>by
     rcases Bj.mp hz with y|y
     .rw[y];exact h4
     .intro e1;have:=h2 z y;rw[e1]at this;exact h1 this
    rw[hn];rfl
def pos(c:aJ):List aJ->Nat
 | []=>0
 | d::r=>if cF c d=true then pos c r+1 else 0
theorem IA(c:aJ):∀cs:List aJ,pos c cs<=cs.length
 | []=>Ag _
 | d::r=>by
  rw[pos];split
  .have:=IA c r;simp;lia
  .simp
theorem yJ(c:aJ)(x:O):∀{q:List (aJ×List O)},gU q->(aI q c).isSome=false->(dH c x q).map (·.1)=(q.map (·.1)).take (pos c (q.map (·.1)))++c::(q.map (·.1)).drop (pos c (q.map (·.1)))
 | [],_,_=>rfl
 | (e,xs)::r,h,hn=>by
  obtain⟨_,h2,h3⟩:=h;rw[dG]at hn
  by_cases h4:e=c
  .rw[if_pos h4]at hn;cases hn
  .rw[if_neg h4]at hn;rw[dH,Ay,pos]
   by_cases h1:cF c e=true
   .rw[if_pos h1,if_pos h1,Ay,yJ c x h3 hn];rfl
   .rw[if_neg h1,if_neg h1,if_neg h4];rfl
theorem IC(c:aJ)(x:O):∀{q:List (aJ×List O)},gU q->(aI q c).isSome=true->(dH c x q).map (·.1)=q.map (·.1)
 | [],_,h=>by cases h
 | (e,xs)::r,h,hn=>by
  obtain⟨_,h2,h3⟩:=h;rw[dG]at hn;rw[dH]
  by_cases h1:cF c e=true
  .rw[if_neg (Co (tM h1))]at hn;rw[if_pos h1,Ay,IC c x h3 hn];rfl
  .rw[if_neg h1]
   by_cases h4:e=c
   .rw[if_pos h4];rfl
   .rw[if_neg h4]at hn;obtain⟨ys,hy⟩:=Gv.mp hn;have:∃z∈r,z.1=c:=by
     have:∀{t:List (aJ×List O)},aI t c=some ys->∃z∈t,z.1=c:=by
      intro t
      induction t with
      | nil=>intro e;cases e
      | cons b t ih=>
       intro e;rw[dG]at e
       by_cases hb:b.1=c
       .exact⟨b,Ai,hb⟩
       .rw[if_neg hb]at e;obtain⟨z,h1,h2⟩:=ih e;exact⟨z,Af _ h1,h2⟩
     exact this hy
    obtain⟨z,hz,e1⟩:=this;have:=h2 z hz;rw[e1]at this;exact absurd this h1
theorem yK:∀{q:List (aJ×List O)},gU q->q.length<=(a5 q).length
 | [],_=>Ag _
 | (e,xs)::r,h=>by
  obtain⟨h1,_,h3⟩:=h;have:=yK h3;have:=El.mpr h1;rw[a5,Ar,Aa,Az];lia
theorem ID:∀{q:List (aJ×List O)} {c:aJ},((aI q c).getD []).length<=(a5 q).length
 | [],_=>Ag _
 | (e,xs)::r,c=>by
  rw[dG,a5,Ar,Aa];split
  .show xs.length<=_;lia
  .have:=ID (q:=r) (c:=c);lia
theorem IE:∀{q q':List (aJ×List O)} {c:aJ} {x:O},gU q->iA q=some (c,x,q')->∃r ys,q=r++[(c,ys++[x])]/\q'=(if ys.isEmpty then r else r++[(c,ys)])
 | [],q',c,x,_,h=>by cases h
 | [(d,xs)],q',c,x,hf,h=>by
  obtain⟨h1,_,_⟩:=hf;rcases Gj xs with z|⟨ys,y,z⟩
  .exact absurd z h1
  .rw[Gk]at z;subst z;simp[iA]at h;obtain⟨rfl,rfl,rfl⟩:=h;refine⟨[],ys,rfl,?_⟩;cases ys<;>simp
 | e::e2::r,q',c,x,hf,h=>by
  obtain⟨_,_,h3⟩:=hf;rw[iA]at h;split at h
  .cases h
  .rename_i d1 x1 q1 e1;simp only[Gd,Dx]at h;obtain⟨rfl,rfl,rfl⟩:=h;obtain⟨r',ys,z1,z2⟩:=IE h3 e1;refine⟨e::r',ys,by rw[z1];rfl,?_⟩;rw[z2];split<;>rfl
theorem tN{U J:Type}[DecidableEq U]{t:List (U×J)}{k:U}{v:J}(h:∀e∈t,e.1≠k)(j:U):aI (t++[(k,v)]) j=if k=j then some v else aI t j:=by
 rw[xQ]
 by_cases hj:k=j
 .subst hj;rw[if_pos rfl,if_pos rfl,oR h];rfl
 .rw[if_neg hj,if_neg hj,Option.or_none]
theorem IF:∀{r:List (aJ×List O)} {c:aJ} {ys:List O},gU (r++[(c,ys)])->∀e∈r,e.1≠c
 | [],_,_,_,e,h=>nomatch h
 | b::r,c,ys,h,e,he=>by
  obtain⟨_,h2,h3⟩:=h;rcases Bj.mp he with z|z
  .rw[z];exact Co (tM (h2 (c,ys) (by simp)))
  .exact IF h3 e z
theorem IG:∀{q:List (aJ×List O)},gU q->(q.map (·.1)).Pairwise λa b=>cF b a=true
 | [],_=>.nil
 | (e,xs)::r,h=>by
  obtain⟨_,h2,h3⟩:=h;rw[Ay,List.pairwise_cons];refine⟨λa ha=>?_,IG h3⟩;obtain⟨z,hz,rfl⟩:=Au.mp ha;exact h2 z hz
end
theorem II{c:aJ}:∀{cs:List aJ} {k:Nat},k<=cs.length->(∀i d,i<k->cs[i]? = some d->cF c d=true)->(∀i d,k<=i->cs[i]? = some d->cF c d=false)->pos c cs=k
 | [],k,h,_,_=>by simp at h;subst h;rfl
 | d::r,k,h,h1,h2=>by
  rw[pos];cases k with
  | zero=>rw[if_neg (by rw[h2 0 d (Ag _) rfl];decide)]
  | succ k=>
   rw[if_pos (h1 0 d (by lia) rfl),II (k:=k) (by simpa using h) (λi e hi he=>h1 (i+1) e (by lia) (by simpa using he)) λi e hi he=>h2 (i+1) e (by lia) (by simpa using he)]
structure Aq where
 o:Addr
 d:Addr
 c:Addr
 w:Addr
def qf(A:Aq):List (Str×W):=[("costs",.ref A.c),("waiting",.ref A.w)]
theorem oS{A:Aq}:Bu ("costs" : Str) (qf A)=some (W.ref A.c):=by kernel_rfl
theorem oT{A:Aq}:Bu ("waiting" : Str) (qf A)=some (W.ref A.w):=by kernel_rfl
theorem Y4{A:Aq}:Bu ("place_of" : Str) (qf A)=none:=by kernel_rfl
theorem Y5{A:Aq}:Bu ("put" : Str) (qf A)=none:=by kernel_rfl
theorem Y6{A:Aq}:Bu ("take" : Str) (qf A)=none:=by kernel_rfl
theorem Y7{A:Aq}:Bu ("is_done" : Str) (qf A)=none:=by kernel_rfl
structure Qm(C:Cc)(M0 M:Mm)(A:Aq)(cs:List aJ):Prop where
 sub:L3.Sub M0 M
 no:M0 A.o=none
 nc:M0 A.c=none
 ne:A.o≠A.c
 ob:M A.o=some (.ins C.q A.d (qf A))
 co:M A.c=some (.lst (cs.map cW))
abbrev Qu:=List (aJ×List (Nat×List Int))
abbrev wG(q:Qu):aJ->Option (List W):=λc=>(aI q c).map λxs=>xs.map j5
structure QR(C:Cc)(M0 M:Mm)(A:Aq)(q:Qu):Prop where
 fall:gU q
 ex:∃M1 kvs,Qm C M0 M1 A (q.map (·.1))/\d3 cK M1 M A.w kvs (wG q)/\kvs.length<=q.length
theorem Qm.lift{C:Cc}{M0 M:Mm}{A:Aq}{cs:List aJ}{p:Addr}{o:MO}(h:Qm C M0 M A cs)(hp:M p=none\/∃u,M0 p=some u):Qm C (put M0 p o) (put M p o) A cs:=by
 have ne:∀{b:Addr},M0 b=none->(∃u,M b=some u)->b≠p:=λ{b} h0 ⟨u,h1⟩ e=>by
  subst e;rcases hp with z|⟨v,z⟩
  .rw[h1]at z;cases z
  .rw[h0]at z;cases z
 have n1:=ne h.no ⟨_,h.ob⟩;have n2:=ne h.nc ⟨_,h.co⟩;exact⟨Sub.put h.sub,by rw[aK n1];exact h.no,by rw[aK n2];exact h.nc,h.ne,by rw[aK n1];exact h.ob,by rw[aK n2];exact h.co⟩
theorem Qm.costs{C:Cc}{M0 M:Mm}{A:Aq}{cs cs':List aJ}(h:Qm C M0 M A cs):Qm C M0 (put M A.c (.lst (cs'.map cW))) A cs':=
 ⟨iP h.sub h.nc,h.no,h.nc,h.ne,by rw[aK h.ne];exact h.ob,aS⟩
theorem QR.lift{C:Cc}{M0 M:Mm}{A:Aq}{q:Qu}{p:Addr}{o:MO}(h:QR C M0 M A q)(hp:M p=none\/∃u,M0 p=some u):QR C (put M0 p o) (put M p o) A q:=by
 obtain⟨M1,kvs,h1,h2,h3⟩:=h.ex;refine⟨h.fall,put M1 p o,kvs,h1.lift ?_,h2.lift ?_,h3⟩
 .rcases hp with z|z
  .exact .inl (h2.sub.non z)
  .exact .inr z
 .rcases hp with z|⟨u,z⟩
  .exact .inl z
  .exact .inr ⟨u,h1.sub _ _ z⟩
theorem QR.more{C:Cc}{M0 M:Mm}{A:Aq}{q:Qu}{p:Addr}{o:MO}(h:QR C M0 M A q)(hp:M p=none):QR C M0 (put M p o) A q:=by
 obtain⟨M1,kvs,h1,h2,h3⟩:=h.ex;exact⟨h.fall,M1,kvs,h1,h2.more hp,h3⟩
theorem QR.sub{C:Cc}{M0 M:Mm}{A:Aq}{q:Qu}(h:QR C M0 M A q):L3.Sub M0 M:=by
 obtain⟨M1,kvs,h1,h2,h3⟩:=h.ex;exact h1.sub.trans h2.sub
theorem QR.ob{C:Cc}{M0 M:Mm}{A:Aq}{q:Qu}(h:QR C M0 M A q):M A.o=some (.ins C.q A.d (qf A)):=by
 obtain⟨M1,kvs,h1,h2,h3⟩:=h.ex;exact h2.sub _ _ h1.ob
theorem QR.co{C:Cc}{M0 M:Mm}{A:Aq}{q:Qu}(h:QR C M0 M A q):M A.c=some (.lst ((q.map (·.1)).map cW)):=by
 obtain⟨M1,kvs,h1,h2,h3⟩:=h.ex;exact h2.sub _ _ h1.co
def IJ(C:Cc):bM:=λws M R=>∃M0 a dx,ws=[.ref a]/\M=put M0 a (.ins C.q dx [])/\M0 a=none/\∀M' (A:Aq),A.o=a->QR C M0 M' A []->R .non M'
def IK(C:Cc):bM:=λws M R=>∃M0 A q,ws=[.ref A.o]/\QR C M0 M A q/\R (.bl (decide (q=[]))) M
def IL(C:Cc):bM:=λws M R=>∃(A:Aq) (cs:List aJ) (c:aJ),ws=[.ref A.o,cW c]/\M A.o=some (.ins C.q A.d (qf A))/\M A.c=some (.lst (cs.map cW))/\cs.Pairwise (λa b=>cF b a=true)/\cs.length<10000000/\R (.int (pos c cs:Nat)) M
def yL(C:Cc):bM:=λws M R=>∃M0 A q c x,ws=[.ref A.o,cW c,j5 x]/\QR C M0 M A q/\(a5 (dH c x q)).length<10000000/\∀M',QR C M0 M' A (dH c x q)->R .non M'
def IM(C:Cc):bM:=λws M R=>∃M0 A q c x q',ws=[.ref A.o]/\QR C M0 M A q/\iA q=some (c,x,q')/\∀M',QR C M0 M' A q'->R (.tup [cW c,j5 x]) M'
abbrev Y8:List Str:=["self"]
def Y9(C:Cc):aH:=
   (aM (gV C.q (aA 0) "costs" (g9 aE))
   (gV C.q (aA 0) "waiting" lA))
abbrev ZA:List Str:=["self"]
def ZC(C:Cc):aH:=
   (cL (aF (rEq false) (bN dQ (aB (bO C.q (aA 0) "costs") aE)) (vC (.int 0))))
abbrev ZD:List Str:=["self","cost","thing"]
def ZE(C:Cc):aH:=
   (aM (dR (b5 (aF (rIn true) (aA 1) (bO C.q (aA 0) "waiting")))
    (aM (iL (g9 aE) (hZ (bO C.q (aA 0) "waiting") (aA 1)))
   (dE (dX "list" HV (bO C.q (aA 0) "costs") (aB (fL C.q "place_of" (IL C) (aA 0) (aB (aA 1) aE)) (aB (aA 1) aE)))))
    eU)
   (dE (dX "list" fQ (aF aX (bO C.q (aA 0) "waiting") (aA 1)) (aB (aA 2) aE))))
abbrev ZF:List Str:=["self","cost","low","high","middle"]
def ZG(C:Cc):aH:=
   (bB 2 (vC (.int 0)))
def ZH(C:Cc):aH:=
   (bB 3 (bN dQ (aB (bO C.q (aA 0) "costs") aE)))
def ZI(C:Cc):aH:=
   (aM (bB 4 (aF iV (aF dS (aA 2) (aA 3)) (vC (.int 2))))
   (dR (b5 (aF HS (aF aX (bO C.q (aA 0) "costs") (aA 4)) (aA 1)))
    (bB 2 (aF dS (aA 4) (vC (.int 1))))
    (bB 3 (aA 4))))
def ZJ(C:Cc):aH:=
   (oG (b5 (aF lW (aA 2) (aA 3))) (ZI C))
def ZK(C:Cc):aH:=
   (cL (aA 2))
def ZL(C:Cc):aH:=(aM (ZG C) (aM (ZH C) (aM (ZJ C) (ZK C))))
abbrev ZM:List Str:=["self","cost","things","thing"]
def ZN(C:Cc):aH:=
   (bB 1 (aF aX (bO C.q (aA 0) "costs") (i8 jA (vC (.int 1)))))
def ZO(C:Cc):aH:=
   (bB 2 (aF aX (bO C.q (aA 0) "waiting") (aA 1)))
def ZP(C:Cc):aH:=
   (bB 3 (wO "list" rPop (aA 2)))
def ZQ(C:Cc):aH:=
   (dR (b5 (aF (rEq false) (bN dQ (aB (aA 2) aE)) (vC (.int 0))))
    (aM (dE (wO "list" rPop (bO C.q (aA 0) "costs")))
   (dE (dX "dict" HP (bO C.q (aA 0) "waiting") (aB (aA 1) aE))))
    eU)
def ZR(C:Cc):aH:=
   (cL (bP (aB (aA 1) (aB (aA 3) aE))))
def ZS(C:Cc):aH:=(aM (ZN C) (aM (ZO C) (aM (ZP C) (aM (ZQ C) (ZR C)))))
theorem z1:1<=Ap:=by decide
theorem z2:2<=Ap:=by decide
theorem z3:3<=Ap:=by decide
theorem z4:4<=Ap:=by decide
theorem bW{b:Bool}{P Q:Prop}(h1:b=true->P)(h2:b=false->Q):if b=true then P else Q:=by cases b;exact h2 rfl;exact h1 rfl
theorem yM{w:W}{ws:List W}{M:Mm}{R:List W->(Mm->Prop)->Mm->Prop}(e:w=.rl ws)(h:R ws (λ_=>True) M):L3.l8 w M R:=by rw[e];exact h
theorem oU{M:Mm}{a:Addr}{kvs:List (List aC×W)}{k:List aC}{w:W}{R:K3}(h:M a=some (.dT kvs))(hl:aV kvs k=some w)(r:R w M):L3.aX (.ref a) (.tup (k.map wK)) M R:=⟨w,.inr ⟨kvs,k,h,rfl,hl.symm⟩,r⟩
theorem gO{M:Mm}{a:Addr}{ws:List W}(h:M a=some (.lst ws)):kG "list" (.ref a) M:=.inl ⟨rfl,_,h⟩
theorem qU{M:Mm}{a:Addr}{kvs:List (List aC×W)}(h:M a=some (.dT kvs)):kG "dict" (.ref a) M:=.inr ⟨rfl,.inr ⟨_,h⟩⟩
theorem ZT{C:Cc}{ws:List W}{M:Mm}{R:K3}(h:IK C ws M R):ZC C (bQ R) (bY ZA ws) M:=by
 obtain⟨M0,A,q,rfl,hq,r⟩:=h;refine⟨_,rfl,A.o,A.d,qf A,_,rfl,hq.ob,oS,.inl ⟨_,hq.co,M,Sub.refl _,?_⟩⟩;show R (.bl (decide (((Ja cW (q.map λx=>x.1)).length:Int)=0))) M;have e:decide (((Ja cW (q.map λx=>x.1)).length:Int)=0)=decide (q=[]):=by
  cases q<;>simp;lia
 rw[e];exact r
theorem ZU{C:Cc}{ws:List W}{M:Mm}{R:K3}(h:IJ C ws M R):Y9 C (bQ R) (bY Y8 ws) M:=by
 obtain⟨M0,a,dx,rfl,rfl,ha,r⟩:=h;refine⟨Bf _,λp hp=>?_⟩;have hpa:p≠a:=λe=>by rw[e,aS]at hp;cases hp
 have hp0:M0 p=none:=by rw[aK hpa]at hp;exact hp
 refine⟨_,rfl,a,dx,[],rfl,by rw[aK (Co hpa),aS],by decide,λw hw=>?_⟩;have hwa:w≠a:=λe=>by rw[e,aS]at hw;cases hw
 have hwp:w≠p:=λe=>by rw[e,aK hpa,aS]at hw;cases hw
 have hw0:M0 w=none:=by rw[aK hwa,aK hwp,aK hwa]at hw;exact hw
 refine⟨_,rfl,a,dx,bD "costs" (.ref p) [],rfl,by rw[aK (Co hwa),aS],(show(1:Nat)<1000 by decide),_,Sub.refl _,r _ ⟨a,dx,p,w⟩ rfl ⟨trivial,put (put M0 p (.lst [])) a (.ins C.q dx (qf ⟨a,dx,p,w⟩)),[],⟨iP (iP (Sub.refl _) hp0) ha,ha,hp0,Co hpa,aS,by rw[aK hpa,aS];rfl⟩,?_,Ag _⟩⟩;have e:put (put (put (put (put M0 a (.ins C.q dx [])) p (.lst [])) a (.ins C.q dx (bD "costs" (.ref p) []))) w (.dT [])) a (.ins C.q dx (bD "waiting" (.ref w) (bD "costs" (.ref p) [])))=put (put (put M0 p (.lst [])) a (.ins C.q dx (qf ⟨a,dx,p,w⟩))) w (.dT []):=by
  have eq:bD "waiting" (.ref w) (bD "costs" (.ref p) [])=qf ⟨a,dx,p,w⟩:=by
   show(if (("costs" : Str)=("waiting" : Str)) then _ else _)=_;rw[if_neg (by decide +kernel)];rfl
  rw[eq];funext b;unfold put
  by_cases h1:b=a<;>by_cases h2:b=w<;>by_cases h3:b=p<;>simp_all
 rw[e];exact⟨iP (Sub.refl _) (by rw[aK hwa,aK hwp];exact hw0),by rw[aK hwa,aK hwp];exact hw0,aS,(λ_ _=>rfl),(λk ws e=>nomatch e),(λk j p e=>nomatch e)⟩
theorem ZV{C:Cc}{ws:List W}{M:Mm}{R:K3}(h:IL C ws M R):ZL C (bQ R) (bY ZF ws) M:=by
 obtain⟨A,cs,c,rfl,ho,hc,pw,hl,r⟩:=h;refine⟨_,rfl,A.o,A.d,qf A,_,rfl,ho,oS,.inl ⟨_,hc,?_⟩⟩;refine⟨λm τ M'=>∃lo hi:Nat,∃o,τ=[some (.ref A.o),some (cW c),some (.int lo),some (.int hi),o]/\M'=M/\lo<=hi/\hi<=cs.length/\(∀i d,i<lo->cs[i]? = some d->cF c d=true)/\(∀i d,hi<=i->cs[i]? = some d->cF c d=false)/\m=hi-lo,⟨_,0,cs.length,none,by rw[Aa];rfl,rfl,Bf _,Ag _,(λi d hi=>absurd hi (Nat.not_lt_zero _)),(λi d hi e=>by rw[Jw hi]at e;cases e),rfl⟩,?_⟩;rintro m τ M' ⟨lo,hi,o,rfl,rfl,h1,h2,h3,h4,rfl⟩;refine⟨_,rfl,_,rfl,_,rfl,bW (λhb=>?_) λhb=>?_⟩
 .have hlt:=of_decide_eq_true hb;refine⟨_,rfl,_,rfl,⟨by decide,by decide⟩,?_⟩;obtain⟨mid,hm⟩:∃mid,mid=(lo+hi)/2:=⟨_,rfl⟩;have em:((lo:Int)+(hi:Int))/2=(mid:Nat):=by lia
  dsimp only;rw[em];obtain⟨d,hd⟩:∃d,cs[mid]? = some d:=⟨_,Bc (by lia)⟩;refine⟨_,rfl,A.o,A.d,qf A,_,rfl,ho,oS,_,rfl,.inl ⟨_,cW d,hc,kA (by rw[Ax,hd];rfl),_,rfl,d.1,d.2,c.1,c.2,rfl,rfl,_,rfl,?_⟩⟩;have pg:∀i j a b,i<j->cs[i]? = some a->cs[j]? = some b->cF b a=true:=λi j a b hij hi' hj'=>by
   obtain⟨q1,e1⟩:=Ak.mp hi';obtain⟨q2,e2⟩:=Ak.mp hj';rw[<-e1,<-e2];exact Lf.mp pw i j q1 q2 hij
  show if cF c d=true then _ else _
  by_cases hcd:cF c d=true
  .rw[if_pos hcd];refine⟨_,rfl,_,_,?_,Sub.refl _,mid+1,hi,_,rfl,rfl,by lia,h2,λi e hi' he=>?_,h4,rfl⟩
   .lia
   .by_cases hi2:i<mid
    .exact qK hcd (Le.of_lt (pg i mid e d hi2 he hd))
    .have:i=mid:=by lia
     rw[this,hd]at he;cases he;exact hcd
  .rw[if_neg hcd];refine⟨_,rfl,_,_,?_,Sub.refl _,lo,mid,_,rfl,rfl,by lia,by lia,h3,λi e hi' he=>?_,rfl⟩
   .lia
   .by_cases hi2:mid<i
    .have h5:=pg mid i d e hi2 hd he;cases h6:cF c e with
     | false=>rfl
     | true=>exact absurd (qK h6 (Le.of_lt h5)) hcd
    .have:i=mid:=by lia
     rw[this,hd]at he;cases he;simpa using hcd
 .have hlt:=of_decide_eq_false hb;have:lo=hi:=by lia
  subst this;refine⟨_,rfl,_,Sub.refl _,?_⟩;rw[<-II (c:=c) (cs:=cs) (k:=lo) h2 h3 h4];exact r
theorem ZW{C:Cc}{ws:List W}{M:Mm}{R:K3}(h:yL C ws M R):ZE C (bQ R) (bY ZD ws) M:=by
 obtain⟨M0,A,q,c,x,rfl,hq,hl,r⟩:=h;have hle:=sZ c x q;have hf:=hq.fall;have hql:=yK hf;have hil:=ID (q:=q) (c:=c);have hfp:=xR c x hf;obtain⟨M1,kvs,m1,t1,l1⟩:=hq.ex;refine⟨_,rfl,_,rfl,A.o,A.d,qf A,_,rfl,hq.ob,oT,.inr ⟨_,.inr ⟨kvs,cK c,t1.at_,Y3 c,rfl⟩,_,rfl,?_⟩⟩;rw[t1.look c];have wgp:∀j,wG (dH c x q) j=if c=j then some (((aI q c).getD []).map j5++[j5 x]) else wG q j:=λj=>by
  show(aI (dH c x q) j).map _=_;rw[HZ c x j hf]
  by_cases hj:c=j
  .rw[if_pos hj,if_pos hj,Md,Bk];rfl
  .rw[if_neg hj,if_neg hj]
 cases hg:aI q c with
 | some xs=>
  have hgw:wG q c=some (xs.map j5):=by show(aI q c).map _=_;rw[hg];rfl
  rw[hgw];rw[hg]at hil wgp;have hil:xs.length<=(a5 q).length:=hil;refine bW (λh=>nomatch (show false=true from h)) λ_=>?_;obtain⟨p,hp1,hp2⟩:=t1.has hgw;have hold:=IC c x hf (by rw[hg];rfl);refine⟨_,rfl,A.o,A.d,qf A,_,rfl,hq.ob,oT,_,rfl,oU t1.at_ hp1 ⟨gO hp2,_,rfl,_,hp2,dW (by rw[Aa];lia),_,Sub.refl _,r _ ⟨hfp,M1,kvs,?_,(t1.wr hp1).same wgp,?_⟩⟩⟩
  .rw[hold];exact m1
  .have:=congrArg Dv hold;rw[Aa,Aa]at this;rw[this];exact l1
 | none=>
  have hgw:wG q c=none:=by show(aI q c).map _=_;rw[hg];rfl
  rw[hgw];rw[hg]at wgp;refine bW (λ_=>⟨Bf _,λp hp=>?_⟩) λh=>nomatch (show true=false from h);have t2:=t1.add HY (ws:=[]) hgw hp;have hpo:A.o≠p:=λe=>by rw[<-e,hq.ob]at hp;cases hp
  have hll:((q.map (·.1)).map cW).length=q.length:=by rw[Aa,Aa]
  have hpl:=IA c (q.map (·.1));rw[Aa]at hpl;refine⟨_,rfl,A.o,A.d,qf A,_,rfl,by rw[aK hpo];exact hq.ob,oT,_,rfl,oJ (k:=cK c) (kvs:=kvs) (by rw[aK (λe=>by rw[<-e,t1.at_]at hp;cases hp)];exact t1.at_) (dW (by lia)) ?_⟩;refine⟨_,rfl,A.o,A.d,qf A,_,rfl,t2.sub _ _ m1.ob,oS,gO (t2.sub _ _ m1.co),?_⟩;have t3:=t2.lift (p:=A.c) (o:=.lst ((((q.map (·.1)).take (pos c (q.map (·.1)))++c::(q.map (·.1)).drop (pos c (q.map (·.1)))).map cW))) (.inr ⟨_,m1.co⟩);have m3:=m1.costs (cs':=(q.map (·.1)).take (pos c (q.map (·.1)))++c::(q.map (·.1)).drop (pos c (q.map (·.1))));refine⟨_,rfl,A.o,A.d,qf A,rfl,t2.sub _ _ m1.ob,Y4,_,rfl,A,q.map (·.1),c,rfl,t2.sub _ _ m1.ob,t2.sub _ _ m1.co,IG hf,by rw[Aa];lia,_,rfl,_,t2.sub _ _ m1.co,dW (by rw[hll];lia),by lia,by rw[hll];lia,?_⟩;have ew:((q.map (·.1)).map cW).take (Int.toNat (pos c (q.map (·.1)):Nat))++cW c::((q.map (·.1)).map cW).drop (Int.toNat (pos c (q.map (·.1)):Nat))=(((q.map (·.1)).take (pos c (q.map (·.1)))++c::(q.map (·.1)).drop (pos c (q.map (·.1)))).map cW):=by
   rw[Fj,Bk,Ay,Ng,List.map_drop]
  rw[ew];obtain⟨p',hp1,hp2⟩:=t3.has (k:=c) (ws:=[]) (by rw[if_pos rfl]);refine⟨_,rfl,A.o,A.d,qf A,_,rfl,t3.sub _ _ m3.ob,oT,_,rfl,oU t3.at_ hp1 ⟨gO hp2,_,rfl,_,hp2,dW (by simp),_,Sub.refl _,r _ ⟨hfp,_,_,?_,(t3.wr hp1).same (λj=>?_),?_⟩⟩⟩
  .rw[yJ c x hf (by rw[hg];rfl)];exact m3
  .rw[wgp j]
   by_cases hj:c=j
   .rw[if_pos hj,if_pos hj];rfl
   .rw[if_neg hj,if_neg hj,if_neg hj]
  .have h1:=congrArg Dv (yJ c x hf (by rw[hg];rfl));have h2:=yI kvs (cK c) (W.ref p);rw[Aa,Ar,Az,Ce,Fq,Aa]at h1;lia
theorem ZX{C:Cc}{ws:List W}{M:Mm}{R:K3}(h:IM C ws M R):ZS C (bQ R) (bY ZM ws) M:=by
 obtain⟨M0,A,q,c,x,q',rfl,hq,ht,r⟩:=h;have hf:=hq.fall;have ⟨_,_,_,e0,hf',_,_,_,_⟩:=nF hf (λe=>by rw[e]at ht;cases ht);rw[ht]at e0;cases e0;obtain⟨M1,kvs,m1,t1,l1⟩:=hq.ex;obtain⟨r0,ys,e1,e2⟩:=IE hf ht;have hnl:∀e∈r0,e.1≠c:=by rw[e1]at hf;exact IF hf
 have hgw:wG q c=some (ys.map j5++[j5 x]):=by
  show(aI q c).map _=_;rw[e1,tN hnl,if_pos rfl,Md,Bk];rfl
 obtain⟨p,hp1,hp2⟩:=t1.has hgw;have hc:M A.c=some (.lst (((r0.map (·.1)).map cW)++[cW c])):=by rw[hq.co,e1];simp
 refine⟨_,rfl,A.o,A.d,qf A,_,rfl,hq.ob,oS,.inl ⟨_,_,hc,ED _ _,_,rfl,A.o,A.d,qf A,_,rfl,hq.ob,oT,_,rfl,oU t1.at_ hp1 ⟨_,rfl,gO hp2,⟨_,_,hp2,_,rfl,.inl ⟨_,aS,_,rfl,?_⟩⟩⟩⟩⟩;have t2:=t1.wr (ws:=ys.map j5) hp1;cases ys with
 | nil=>
  refine bW (λ_=>?_) λh=>nomatch (show true=false from h);have hm1:M1 A.c=some (.lst (((r0.map (·.1)).map cW)++[cW c])):=by rw[m1.co,e1];simp
  have m2:=m1.costs (cs':=r0.map (·.1));have t3:=t2.lift (p:=A.c) (o:=.lst ((r0.map (·.1)).map cW)) (.inr ⟨_,hm1⟩);have t4:=t3.del (k:=c) HY;refine⟨_,rfl,A.o,A.d,qf A,_,rfl,t2.sub _ _ m1.ob,oS,gO (t2.sub _ _ hm1),_,_,t2.sub _ _ hm1,_,rfl,A.o,A.d,qf A,_,rfl,t3.sub _ _ m2.ob,oT,qU t3.at_,_,rfl,_,cK c,_,t3.at_,rfl,hp1,?_⟩;refine⟨_,rfl,_,rfl,z2,_,Sub.refl _,r _ ⟨hf',_,_,?_,t4.same (λj=>?_),?_⟩⟩
  .rw[e2];exact m2
  .show(aI q' j).map _=_;rw[e2,if_pos (by rfl:([]:List (Nat×List Int)).isEmpty=true)]
   by_cases hj:c=j
   .subst hj;rw[if_pos rfl,oR hnl];rfl
   .rw[if_neg hj,if_neg hj];show _=(aI q j).map _;rw[e1,tN hnl,if_neg hj]
  .have h1:=HX (kvs:=kvs) (k:=cK c) (by rw[hp1];rfl);rw[e1,Ar,Bz]at l1;rw[e2,if_pos (by rfl:([]:List (Nat×List Int)).isEmpty=true)];lia
 | cons y ys=>
  refine bW (λh=>?_) λ_=>?_
  .have h:=of_decide_eq_true (show decide (((Ja j5 (y::ys)).length:Int)=0)=true from h);rw[Ay,Az]at h;lia
  refine⟨_,rfl,_,rfl,z2,_,Sub.refl _,r _ ⟨hf',_,_,?_,t2.same (λj=>?_),?_⟩⟩
  .rw[e2,if_neg (by simp)];rw[e1]at m1;simpa using m1
  .show(aI q' j).map _=_;rw[e2,if_neg (by simp),tN hnl]
   by_cases hj:c=j
   .rw[if_pos hj,if_pos hj];rfl
   .rw[if_neg hj,if_neg hj];show _=(aI q j).map _;rw[e1,tN hnl,if_neg hj]
  .rw[e1]at l1;rw[e2,if_neg (by simp)];simpa using l1
def tP:bM:=λws M R=>∃rs:List aP,ws=[.rl (rs.map eX)]/\rs.length<=400/\aZ ((namesOf rs).map W.str) M R
abbrev ZY:List Str:=["grammar","found","rule"]
def ZZ:aH:=
   (bB 1 sP)
def Z0:aH:=
   (iL (vC (.bl true)) (hZ (aA 1) (aF aX (aA 2) (vC (.int 0)))))
def Z1:aH:=
   (c9 (cC d8 (aA 0)) (bC 2) Z0)
def Z2:aH:=
   (cL (bN w6 (aB (aA 1) aE)))
def Z3:aH:=(aM ZZ (aM Z1 Z2))
end Rg
namespace L3
open PySem Spec PyProof.Rows L2
theorem zgv{n:Bool}{i j:Str}{M:Mm}{R:K3}:L3.rIn n (.str i) (.str j) M R=R (.bl (if n then !occ i j else occ i j)) M:=rfl
theorem zgw{n:Bool}{i:Str}{ws:List W}{M:Mm}{R:K3}:L3.rIn n (.str i) (.rl ws) M R=(fJ (.str i)=true/\ws.all fJ=true/\R (.bl (if n then !inW (.str i) ws else inW (.str i) ws)) M):=rfl
end L3
namespace Rg
open PySem Spec PyProof.Rows L2 L3
theorem Z4{P Q:Prop}(h:P):if true=true then P else Q:=h
def bR(t:Str):aC×W:=(Sum.inr t,.bl true)
theorem qV(acc:List Str)(t:Str):bS (acc.map bR) (Sum.inr t:aC) (.bl true)=(cZ acc t).map bR:=by
 unfold bS cZ;have e:((acc.map bR).any λkv=>decide (kv.1=Sum.inr t))=decide (t∈acc):=by
  rw[Mj,Dk];simp[bR,Kv]
 rw[e]
 by_cases h:t∈acc
 .rw[if_pos (decide_eq_true h),if_pos h,Bd];refine Cy λu hu=>?_;simp[bR,Kv]
 .rw[if_neg (by simpa using h),if_neg h,Bk];rfl
theorem fU{ws:List W}{M:Mm}{R:List W->(Mm->Prop)->Mm->Prop}(h:R ws (λ_=>True) M):d8 (.rl ws) M R:=h
theorem Z5{ws:List W}{M:Mm}{R:K3}(h:tP ws M R):Z3 (bQ R) (bY ZY ws) M:=by
 obtain⟨rs,rfl,hl,r⟩:=h;refine λp hp=>⟨_,rfl,fU (nC (λi τ M'=>∃o,τ=[some (.rl (rs.map eX)),some (.ref p),o]/\M'=put M p (.dK ((namesOf (rs.take i)).map bR))) ⟨_,rfl,rfl⟩ (λ_ _ _ _ _=>trivial) ?_ ?_)⟩
 .rintro i w τ M' hw ⟨o,rfl,rfl⟩;rw[Ax]at hw;obtain⟨q,hq,rfl⟩:=Bb.mp hw;have hi:i<rs.length:=(Ak.mp hq).1;have e:namesOf (rs.take (i+1))=cZ (namesOf (rs.take i)) q.name:=by
   rw[Lm,hq];unfold namesOf nE;simp
  have hlen:(namesOf (rs.take i)).length<=i:=by
   have:=xO ((rs.take i).map aP.name) [];unfold namesOf nE;simp at this;simp;lia
  refine⟨_,rfl,_,rfl,_,rfl,sW aS (by rw[Aa];exact dW (by lia)) ⟨_,Sub.refl _,_,rfl,?_⟩⟩;rw[gK,qV,e]
 .rintro τ M' ⟨o,rfl,rfl⟩;rw[Aa,Cb];refine⟨_,rfl,.inr ⟨_,aS,λq hq=>?_⟩⟩;have hpq:q≠p:=λe=>by subst e;rw[aS]at hq;cases hq
  rw[aK hpq]at hq;refine⟨_,?_,r q hq⟩;rw[Bd];exact Sub.put (Sub.new hp)
theorem IP{t:Str}{ts:List Str}:inW (.str t) (ts.map W.str)=decide (t∈ts):=by
 unfold inW;rw[Mj,Dk,Mb,decide_eq_true_eq];exact⟨λ⟨x,h,e⟩=>eq_of_beq (show(x==t)=true from e)▸h,λh=>⟨t,h,beq_self_eq_true t⟩⟩
theorem IQ(ts:List Str):(ts.map W.str).all fJ=true:=by
 rw[Kl,Gb];intro t _;rfl
def eK(k:Str×Int):List aC:=[Sum.inr k.1,Sum.inl k.2]
def jF(z:Int×aJ):W:=.tup [.int z.1,cW z.2]
def jG(y:bT):W:=.tup [.int y.1,iC y.2.1,cW y.2.2]
def kK(k:K4):List aC:=[Sum.inl k.1,Sum.inl k.2.1,Sum.inl k.2.2.1,Sum.inl k.2.2.2]
def fK(f:cT):List aC:=[Sum.inr f.1,Sum.inl f.2.1,Sum.inl f.2.2]
def iX(e:aJ×Nat×List Int):W:=.tup [cW e.1,.int e.2.1,iC e.2.2]
theorem qW:∀a b:Str×Int,eK a=eK b->a=b:=λa b h=>by
 unfold eK at h;simp only[Dn,Ju,Sum.inr.injEq,and_true]at h;exact Iz h.1 h.2
theorem tQ:∀a b:K4,kK a=kK b->a=b:=λa b h=>by
 unfold kK at h;simp only[Dn,Ju,and_true,Int.natCast_inj]at h;obtain⟨a1,a2,a3,a4⟩:=a;obtain⟨b1,b2,b3,b4⟩:=b;simp only at h;obtain⟨h1,h2,h3,h4⟩:=h;rw[h1,h2,h3,h4]
theorem yN:∀a b:cT,fK a=fK b->a=b:=λa b h=>by
 unfold fK at h;simp only[Dn,Ju,Sum.inr.injEq,and_true]at h;obtain⟨a1,a2,a3⟩:=a;obtain⟨b1,b2,b3⟩:=b;simp only at h;obtain⟨h1,h2,h3⟩:=h;rw[h1,h2,h3]
section
variable {U J:Type}[DecidableEq U]{kk:U->List aC}{f:J->W}
abbrev eC(kk:U->List aC)(f:J->W)(t:List (U×J)):List (List aC×W):=t.map λe=>(kk e.1,f e.2)
theorem qX(hkk:∀a b,kk a=kk b->a=b)(t:List (U×J))(k:U):aV (eC kk f t) (kk k)=(aI t k).map f:=by
 induction t with
 | nil=>rfl
 | cons e t ih=>
  show aV ((kk e.1,f e.2)::eC kk f t) (kk k)=_;rw[lH,dG,ih]
  by_cases h:e.1=k
  .rw[if_pos (by rw[h]),if_pos h];rfl
  .rw[if_neg (λz=>h (hkk _ _ z)),if_neg h]
theorem IS(hkk:∀a b,kk a=kk b->a=b)(t:List (U×J))(k:U)(v:J):bS (eC kk f t) (kk k) (f v)=eC kk f (dA t k v):=by
 unfold bS dA;rw[show((eC kk f t).any λkv=>decide (kv.1=kk k))=(aV (eC kk f t) (kk k)).isSome from mC _ _,qX hkk,mC];cases aI t k with
 | none=>simp
 | some w=>
  simp only[Md,Option.isSome_some,if_true,Bd];apply Cy;intro e _;simp only[Kv]
  by_cases h:e.1=k
  .rw[if_pos (by rw[h]),if_pos h]
  .rw[if_neg (λz=>h (hkk _ _ z)),if_neg h]
end
structure Env where
 rs:List aP
 own:List (aC×W)
 stp:List (List aC×W)
structure Ad where
 s:Addr
 d:Addr
 Q:Aq
 r:Addr
 b:Addr
 e:Addr
 g:Addr
def sf(E:Env)(A:Ad):List (Str×W):=[("grammar",(bL E.rs)),("own",(.dk E.own)),("steps",(.dt E.stp)),("queue",(.ref A.Q.o)),("reached",(.ref A.r)),("best",(.ref A.b)),("ends",(.ref A.e)),("begun",(.ref A.g))]
theorem IT{E:Env}{A:Ad}:Bu ("grammar" : Str) (sf E A)=some (bL E.rs):=by kernel_rfl
theorem Z6{E:Env}{A:Ad}:Bu ("own" : Str) (sf E A)=some (W.dk E.own):=by kernel_rfl
theorem Z7{E:Env}{A:Ad}:Bu ("steps" : Str) (sf E A)=some (W.dt E.stp):=by kernel_rfl
theorem yO{E:Env}{A:Ad}:Bu ("queue" : Str) (sf E A)=some (W.ref A.Q.o):=by kernel_rfl
theorem tR{E:Env}{A:Ad}:Bu ("reached" : Str) (sf E A)=some (W.ref A.r):=by kernel_rfl
theorem yP{E:Env}{A:Ad}:Bu ("best" : Str) (sf E A)=some (W.ref A.b):=by kernel_rfl
theorem IU{E:Env}{A:Ad}:Bu ("ends" : Str) (sf E A)=some (W.ref A.e):=by kernel_rfl
theorem IV{E:Env}{A:Ad}:Bu ("begun" : Str) (sf E A)=some (W.ref A.g):=by kernel_rfl
theorem tS{E:Env}{A:Ad}:Bu ("reach" : Str) (sf E A)=none:=by kernel_rfl
theorem Z8{E:Env}{A:Ad}:Bu ("take_next" : Str) (sf E A)=none:=by kernel_rfl
theorem Z9{E:Env}{A:Ad}:Bu ("step_by_name" : Str) (sf E A)=none:=by kernel_rfl
theorem zaa{E:Env}{A:Ad}:Bu ("settle" : Str) (sf E A)=none:=by kernel_rfl
structure Mn(C:Cc)(E:Env)(M0 M:Mm)(A:Ad)(rc:List (K4×aJ))(bs:bZ):Prop where
 sub:L3.Sub M0 M
 ns:M0 A.s=none
 nr:M0 A.r=none
 nb:M0 A.b=none
 sr:A.s≠A.r
 sb:A.s≠A.b
 rb:A.r≠A.b
 os:M A.s=some (.ins C.s A.d (sf E A))
 or:M A.r=some (.dT (eC kK cW rc))
 ob:M A.b=some (.dT (eC fK iX bs))
abbrev eG(t:List ((Str×Int)×List (Int×aJ))):Str×Int->Option (List W):=λk=>(aI t k).map λxs=>xs.map jF
abbrev gG(t:List ((Str×Int)×List bT)):Str×Int->Option (List W):=λk=>(aI t k).map λxs=>xs.map jG
def Kept(M:Mm):Option (Addr×List W)->Prop
 | none=>True
 | some x=>M x.1=some (.lst x.2)
structure SK(C:Cc)(E:Env)(M0 M:Mm)(A:Ad)(st:SS)(kp:Option (Addr×List W)):Prop where
 ex:∃M1 M2 M3 e g,Mn C E M0 M1 A st.reached st.best/\d3 eK M1 M2 A.e e (eG st.ends)/\d3 eK M2 M3 A.g g (gG st.begun)/\QR C M3 M A.Q st.q/\e.length<=st.ends.length/\g.length<=st.begun.length/\Kept M3 kp
abbrev SR(C:Cc)(E:Env)(M0 M:Mm)(A:Ad)(st:SS):Prop:=SK C E M0 M A st none
section
variable {C:Cc}{E:Env}{M0 M:Mm}{A:Ad}{st:SS}{kp:Option (Addr×List W)}
theorem SK.os(h:SK C E M0 M A st kp):M A.s=some (.ins C.s A.d (sf E A)):=by
 obtain⟨M1,M2,M3,e,g,h1,h2,h3,h4,_⟩:=h.ex;exact h4.sub _ _ (h3.sub _ _ (h2.sub _ _ h1.os))
theorem SK.or(h:SK C E M0 M A st kp):M A.r=some (.dT (eC kK cW st.reached)):=by
 obtain⟨M1,M2,M3,e,g,h1,h2,h3,h4,_⟩:=h.ex;exact h4.sub _ _ (h3.sub _ _ (h2.sub _ _ h1.or))
theorem SK.ob(h:SK C E M0 M A st kp):M A.b=some (.dT (eC fK iX st.best)):=by
 obtain⟨M1,M2,M3,e,g,h1,h2,h3,h4,_⟩:=h.ex;exact h4.sub _ _ (h3.sub _ _ (h2.sub _ _ h1.ob))
theorem SK.fall(h:SK C E M0 M A st kp):gU st.q:=by
 obtain⟨M1,M2,M3,e,g,h1,h2,h3,h4,_⟩:=h.ex;exact h4.fall
theorem SK.free(h:SK C E M0 M A st kp):SR C E M0 M A st:=by
 obtain⟨M1,M2,M3,e,g,h1,h2,h3,h4,h5,h6,_⟩:=h.ex;exact⟨M1,M2,M3,e,g,h1,h2,h3,h4,h5,h6,trivial⟩
theorem SK.kept{p:Addr}{ws:List W}(h:SK C E M0 M A st (some (p,ws))):M p=some (.lst ws):=by
 obtain⟨M1,M2,M3,e,g,h1,h2,h3,h4,h5,h6,h7⟩:=h.ex;exact h4.sub _ _ h7
theorem Mn.rput{M1:Mm}{rc:List (K4×aJ)}{bs:bZ}(h:Mn C E M0 M1 A rc bs)(rc':List (K4×aJ)):Mn C E M0 (put M1 A.r (.dT (eC kK cW rc'))) A rc' bs:=
 ⟨iP h.sub h.nr,h.ns,h.nr,h.nb,h.sr,h.sb,h.rb,by rw[aK h.sr];exact h.os,aS,by rw[aK (Co h.rb)];exact h.ob⟩
theorem Mn.bput{M1:Mm}{rc:List (K4×aJ)}{bs:bZ}(h:Mn C E M0 M1 A rc bs)(bs':bZ):Mn C E M0 (put M1 A.b (.dT (eC fK iX bs'))) A rc bs':=
 ⟨iP h.sub h.nb,h.ns,h.nr,h.nb,h.sr,h.sb,h.rb,by rw[aK h.sb];exact h.os,by rw[aK h.rb];exact h.or,aS⟩
theorem SK.rput(h:SK C E M0 M A st kp)(rc':List (K4×aJ)):SK C E M0 (put M A.r (.dT (eC kK cW rc'))) A {st with reached:=rc'} kp:=by
 obtain⟨M1,M2,M3,e,g,h1,h2,h3,h4,h5,h6,h7⟩:=h.ex;have k2:=h2.sub _ _ h1.or;have k3:=h3.sub _ _ k2;refine⟨_,_,_,e,g,h1.rput rc',h2.lift (.inr ⟨_,h1.or⟩),h3.lift (.inr ⟨_,k2⟩),h4.lift (.inr ⟨_,k3⟩),h5,h6,?_⟩;cases kp with
 | none=>trivial
 | some x=>
  have h7:M3 x.1=some (.lst x.2):=h7;show put M3 A.r _ x.1=some (.lst x.2);rw[aK (λz=>by rw[z,k3]at h7;cases h7)];exact h7
theorem SK.bput(h:SR C E M0 M A st)(bs':bZ):SR C E M0 (put M A.b (.dT (eC fK iX bs'))) A {st with best:=bs'}:=by
 obtain⟨M1,M2,M3,e,g,h1,h2,h3,h4,h5,h6,h7⟩:=h.ex;have k2:=h2.sub _ _ h1.ob;have k3:=h3.sub _ _ k2;exact⟨_,_,_,e,g,h1.bput bs',h2.lift (.inr ⟨_,h1.ob⟩),h3.lift (.inr ⟨_,k2⟩),h4.lift (.inr ⟨_,k3⟩),h5,h6,trivial⟩
theorem SK.que(h:SK C E M0 M A st kp):∃M3,QR C M3 M A.Q st.q/\∀M' q',QR C M3 M' A.Q q'->SK C E M0 M' A {st with q:=q'} kp:=by
 obtain⟨M1,M2,M3,e,g,h1,h2,h3,h4,h5,h6,h7⟩:=h.ex;exact⟨M3,h4,λM' q' hq=>⟨M1,M2,M3,e,g,h1,h2,h3,hq,h5,h6,h7⟩⟩
theorem IW{U J:Type}[DecidableEq U]{t:List (U×J)}{k:U}{v:J}(h:(aI t k).isSome=true):(dA t k v).length=t.length:=by
 unfold dA;rw[mC,if_pos h,Aa]
theorem yQ{U J:Type}[DecidableEq U]{t:List (U×J)}{k:U}{v:J}(h:aI t k=none):dA t k v=t++[(k,v)]:=by
 unfold dA;rw[mC,h,if_neg (by simp)]
theorem tT{γ:Type}(f:γ->W)(t:List ((Str×Int)×List γ))(k:Str×Int)(z:γ)(j:Str×Int):((aI (eY t k z) j).map λxs=>xs.map f)=if k=j then some (((aI t k).getD []).map f++[f z]) else(aI t j).map λxs=>xs.map f:=by
 unfold eY;rw[kI]
 by_cases h:k=j
 .rw[if_pos h,if_pos h,Md,Bk];rfl
 .rw[if_neg h,if_neg h]
theorem SK.epush(h:SR C E M0 M A st){k:Str×Int}{z:Int×aJ}{R:K3}(hn:st.ends.length<10000000)(hl:((aI st.ends k).getD []).length<10000000)(r:∀M',SR C E M0 M' A {st with ends:=eY st.ends k z}->R .non M'):
  ∃kvs,M A.e=some (.dT kvs)/\kvs.length<Ap/\∀p,M p=none->put M p (.lst []) A.e=some (.dT kvs)/\(∀w,aV kvs (eK k)=some w->kG "list" w (put M p (.lst []))/\fQ w [jF z] (put M p (.lst [])) R)/\
   (aV kvs (eK k)=none->kG "list" (.ref p) (put (put M p (.lst [])) A.e (.dT (bS kvs (eK k) (.ref p))))/\fQ (.ref p) [jF z] (put (put M p (.lst [])) A.e (.dT (bS kvs (eK k) (.ref p)))) R):=by
 obtain⟨M1,M2,M3,e,g,h1,h2,h3,h4,h5,h6,h7⟩:=h.ex;have ha:M A.e=some (.dT e):=h4.sub _ _ (h3.sub _ _ h2.at_);refine⟨e,ha,dW (by lia),λp hp=>⟨by rw[aK (λz=>by rw[<-z,ha]at hp;cases hp)];exact ha,λw hw=>?_,λhw=>?_⟩⟩
 .obtain⟨xs,hx⟩:∃xs,aI st.ends k=some xs:=by
   cases q:aI st.ends k with
   | none=>have:=h2.non k (by show(aI _ _).map _=_;rw[q];rfl);rw[hw]at this;cases this
   | some xs=>exact⟨_,rfl⟩
  have hxw:eG st.ends k=some (xs.map jF):=by show(aI _ _).map _=_;rw[hx];rfl
  obtain⟨p',hp1,hp2⟩:=h2.has hxw;rw[hw]at hp1;cases hp1;have k3:=h3.sub _ _ hp2;have h4':=h4.more (o:=.lst []) hp;have k4:=h4'.sub _ _ k3;rw[hx]at hl;refine⟨gO k4,_,k4,dW (by rw[Aa];exact hl),r _ ⟨_,_,_,e,g,h1,(h2.wr (ws:=xs.map jF++[jF z]) hw).same λj=>?_,h3.lift (.inr ⟨_,hp2⟩),h4'.lift (.inr ⟨_,k3⟩),?_,h6,trivial⟩⟩
  .refine(tT _ _ k z j).trans ?_;rw[hx];rfl
  .show _<=(dA _ _ _).length;rw[IW (by rw[hx];rfl)];exact h5
 .have hx:aI st.ends k=none:=by
   cases q:aI st.ends k with
   | none=>rfl
   | some xs=>obtain⟨p',hp1,_⟩:=h2.has (k:=k) (ws:=xs.map jF) (by show(aI _ _).map _=_;rw[q];rfl);rw[hw]at hp1;cases hp1
  have hxw:eG st.ends k=none:=by show(aI _ _).map _=_;rw[hx];rfl
  have p3:=h4.sub.non hp;have p2:=h3.sub.non p3;have t2:=h2.add qW (ws:=[]) hxw p2;have hpa:p≠A.e:=λz=>by rw[z,ha]at hp;cases hp
  have t3:=(h3.lift (o:=.lst []) (.inl p3)).lift (p:=A.e) (o:=.dT (bS e (eK k) (.ref p))) (.inr ⟨.dT e,by rw[aK (Co hpa)];exact h2.at_⟩);have t4:=(h4.lift (o:=.lst []) (.inl hp)).lift (p:=A.e) (o:=.dT (bS e (eK k) (.ref p))) (.inr ⟨.dT e,by rw[aK (Co hpa)];exact h3.sub _ _ h2.at_⟩);have lp:aV (bS e (eK k) (.ref p)) (eK k)=some (.ref p):=by rw[oQ,if_pos rfl]
  have g2:put (put M2 p (.lst [])) A.e (.dT (bS e (eK k) (.ref p))) p=some (.lst []):=by rw[aK hpa,aS]
  have k3:=t3.sub _ _ g2;have k4:=t4.sub _ _ k3;refine⟨gO k4,_,k4,dW (by simp),r _ ⟨_,_,_,_,g,h1,(t2.wr (ws:=[jF z]) lp).same λj=>?_,t3.lift (.inr ⟨_,g2⟩),t4.lift (.inr ⟨_,k3⟩),?_,h6,trivial⟩⟩
  .refine(tT _ _ k z j).trans ?_;rw[hx]
   by_cases hj:k=j
   .rw[if_pos hj,if_pos hj];rfl
   .rw[if_neg hj,if_neg hj,if_neg hj]
  .show _<=(dA _ _ _).length;rw[yQ hx,Ar,Bz];have:=yI e (eK k) (W.ref p);lia
theorem SK.gpush(h:SR C E M0 M A st){k:Str×Int}{z:bT}{R:K3}(hn:st.begun.length<10000000)(hl:((aI st.begun k).getD []).length<10000000)(r:∀M',SR C E M0 M' A {st with begun:=eY st.begun k z}->R .non M'):
  ∃kvs,M A.g=some (.dT kvs)/\kvs.length<Ap/\∀p,M p=none->put M p (.lst []) A.g=some (.dT kvs)/\(∀w,aV kvs (eK k)=some w->kG "list" w (put M p (.lst []))/\fQ w [jG z] (put M p (.lst [])) R)/\
   (aV kvs (eK k)=none->kG "list" (.ref p) (put (put M p (.lst [])) A.g (.dT (bS kvs (eK k) (.ref p))))/\fQ (.ref p) [jG z] (put (put M p (.lst [])) A.g (.dT (bS kvs (eK k) (.ref p)))) R):=by
 obtain⟨M1,M2,M3,e,g,h1,h2,h3,h4,h5,h6,h7⟩:=h.ex;have ha:M A.g=some (.dT g):=h4.sub _ _ h3.at_;refine⟨g,ha,dW (by lia),λp hp=>⟨by rw[aK (λz=>by rw[<-z,ha]at hp;cases hp)];exact ha,λw hw=>?_,λhw=>?_⟩⟩
 .obtain⟨xs,hx⟩:∃xs,aI st.begun k=some xs:=by
   cases q:aI st.begun k with
   | none=>have:=h3.non k (by show(aI _ _).map _=_;rw[q];rfl);rw[hw]at this;cases this
   | some xs=>exact⟨_,rfl⟩
  have hxw:gG st.begun k=some (xs.map jG):=by show(aI _ _).map _=_;rw[hx];rfl
  obtain⟨p',hp1,hp2⟩:=h3.has hxw;rw[hw]at hp1;cases hp1;have h4':=h4.more (o:=.lst []) hp;have k4:=h4'.sub _ _ hp2;rw[hx]at hl;refine⟨gO k4,_,k4,dW (by rw[Aa];exact hl),r _ ⟨_,_,_,e,g,h1,h2,(h3.wr (ws:=xs.map jG++[jG z]) hw).same λj=>?_,h4'.lift (.inr ⟨_,hp2⟩),h5,?_,trivial⟩⟩
  .refine(tT _ _ k z j).trans ?_;rw[hx];rfl
  .show _<=(dA _ _ _).length;rw[IW (by rw[hx];rfl)];exact h6
 .have hx:aI st.begun k=none:=by
   cases q:aI st.begun k with
   | none=>rfl
   | some xs=>obtain⟨p',hp1,_⟩:=h3.has (k:=k) (ws:=xs.map jG) (by show(aI _ _).map _=_;rw[q];rfl);rw[hw]at hp1;cases hp1
  have hxw:gG st.begun k=none:=by show(aI _ _).map _=_;rw[hx];rfl
  have p3:=h4.sub.non hp;have t3:=h3.add qW (ws:=[]) hxw p3;have hpa:p≠A.g:=λz=>by rw[z,ha]at hp;cases hp
  have t4:=(h4.lift (o:=.lst []) (.inl hp)).lift (p:=A.g) (o:=.dT (bS g (eK k) (.ref p))) (.inr ⟨.dT g,by rw[aK (Co hpa)];exact h3.at_⟩);have lp:aV (bS g (eK k) (.ref p)) (eK k)=some (.ref p):=by rw[oQ,if_pos rfl]
  have g2:put (put M3 p (.lst [])) A.g (.dT (bS g (eK k) (.ref p))) p=some (.lst []):=by rw[aK hpa,aS]
  have k4:=t4.sub _ _ g2;refine⟨gO k4,_,k4,dW (by simp),r _ ⟨_,_,_,e,_,h1,h2,(t3.wr (ws:=[jG z]) lp).same λj=>?_,t4.lift (.inr ⟨_,g2⟩),h5,?_,trivial⟩⟩
  .refine(tT _ _ k z j).trans ?_;rw[hx]
   by_cases hj:k=j
   .rw[if_pos hj,if_pos hj];rfl
   .rw[if_neg hj,if_neg hj,if_neg hj]
  .show _<=(dA _ _ _).length;rw[yQ hx,Ar,Bz];have:=yI g (eK k) (W.ref p);lia
theorem SK.ends_at(h:SR C E M0 M A st)(k:Str×Int):∃kvs,M A.e=some (.dT kvs)/\((aV kvs (eK k)=none/\aI st.ends k=none)\/∃p xs,aV kvs (eK k)=some (.ref p)/\aI st.ends k=some xs/\SK C E M0 M A st (some (p,xs.map jF))):=by
 obtain⟨M1,M2,M3,e,g,h1,h2,h3,h4,h5,h6,h7⟩:=h.ex;refine⟨e,h4.sub _ _ (h3.sub _ _ h2.at_),?_⟩;cases q:aI st.ends k with
 | none=>exact .inl ⟨h2.non k (by show(aI _ _).map _=_;rw[q];rfl),rfl⟩
 | some xs=>
  obtain⟨p,hp1,hp2⟩:=h2.has (k:=k) (ws:=xs.map jF) (by show(aI _ _).map _=_;rw[q];rfl);exact .inr ⟨p,xs,hp1,rfl,M1,M2,M3,e,g,h1,h2,h3,h4,h5,h6,h3.sub _ _ hp2⟩
theorem SK.begun_at(h:SR C E M0 M A st)(k:Str×Int):∃kvs,M A.g=some (.dT kvs)/\((aV kvs (eK k)=none/\aI st.begun k=none)\/∃p xs,aV kvs (eK k)=some (.ref p)/\aI st.begun k=some xs/\SK C E M0 M A st (some (p,xs.map jG))):=by
 obtain⟨M1,M2,M3,e,g,h1,h2,h3,h4,h5,h6,h7⟩:=h.ex;refine⟨g,h4.sub _ _ h3.at_,?_⟩;cases q:aI st.begun k with
 | none=>exact .inl ⟨h3.non k (by show(aI _ _).map _=_;rw[q];rfl),rfl⟩
 | some xs=>
  obtain⟨p,hp1,hp2⟩:=h3.has (k:=k) (ws:=xs.map jG) (by show(aI _ _).map _=_;rw[q];rfl);exact .inr ⟨p,xs,hp1,rfl,M1,M2,M3,e,g,h1,h2,h3,h4,h5,h6,hp2⟩
theorem SK.eput(h:SR C E M0 M A st){nm:Str}{b:Int}{z:Int×aJ}{R:K3}{τ:S3}{tk:aY}{t:dP}(e0:τ[0]? = some (some (.ref A.s)))(ek:∀M1 Q,Q (W.tup [.str nm,.int b]) M1->tk τ M1 Q)(et:∀M1 Q,Q [jF z] M1->t τ M1 Q)(hn:st.ends.length<10000000)(hl:((aI st.ends (nm,b)).getD []).length<10000000)(r:∀M',SR C E M0 M' A {st with ends:=eY st.ends (nm,b) z}->R .non M'):
  dX "list" fQ (dX "dict" qT (bO C.s (aA 0) "ends") (aB tk (aB (g9 aE) aE))) t τ M R:=by
 obtain⟨kvs,h1,h2,h3⟩:=h.epush hn hl r;refine⟨_,e0,A.s,A.d,_,_,rfl,h.os,IU,qU h1,ek _ _ ⟨Bf _,λp hp=>?_⟩⟩;obtain⟨h4,h5,h6⟩:=h3 p hp;exact⟨kvs,eK (nm,b),h4,rfl,h2,λw hw=>⟨(h5 w hw).1,et _ _ (h5 w hw).2⟩,λhn=>⟨(h6 hn).1,et _ _ (h6 hn).2⟩⟩
theorem SK.gput(h:SR C E M0 M A st){nm:Str}{b:Int}{z:bT}{R:K3}{τ:S3}{tk:aY}{t:dP}(e0:τ[0]? = some (some (.ref A.s)))(ek:∀M1 Q,Q (W.tup [.str nm,.int b]) M1->tk τ M1 Q)(et:∀M1 Q,Q [jG z] M1->t τ M1 Q)(hn:st.begun.length<10000000)(hl:((aI st.begun (nm,b)).getD []).length<10000000)(r:∀M',SR C E M0 M' A {st with begun:=eY st.begun (nm,b) z}->R .non M'):
  dX "list" fQ (dX "dict" qT (bO C.s (aA 0) "begun") (aB tk (aB (g9 aE) aE))) t τ M R:=by
 obtain⟨kvs,h1,h2,h3⟩:=h.gpush hn hl r;refine⟨_,e0,A.s,A.d,_,_,rfl,h.os,IV,qU h1,ek _ _ ⟨Bf _,λp hp=>?_⟩⟩;obtain⟨h4,h5,h6⟩:=h3 p hp;exact⟨kvs,eK (nm,b),h4,rfl,h2,λw hw=>⟨(h5 w hw).1,et _ _ (h5 w hw).2⟩,λhn=>⟨(h6 hn).1,et _ _ (h6 hn).2⟩⟩
end
def yR:bM:=λws M R=>∃ts:List Str,ws=[.rl (ts.map W.str)]/\ts.length<=400/\R (.dk ((ts.foldl cZ []).map bR)) M
def ownOf(rs:List aP):List (aC×W):=((namesOf rs).foldl cZ []).map bR
def yS:bM:=λws M R=>∃a b:aJ,ws=[cW a,cW b]/\R (cW (dY a b)) M
structure Sm(st:SS)(k:Nat):Prop where
 q:(a5 st.q).length+k<10000000
 r:st.reached.length+k<10000000
def qY(C:Cc):bM:=λws M R=>∃(E:Env) (M0:Mm) (A:Ad) (st:SS) (n:Nat) (cut:List Int) (c:aJ) (kp:Option (Addr×List W)),ws=[.ref A.s,.int n,iC cut,cW c]/\SK C E M0 M A st kp/\cut≠[]/\Sm st 1/\∀M',SK C E M0 M' A (reach st n cut c) kp->R .non M'
def IX(C:Cc):bM:=λws M R=>∃(E:Env) (M0:Mm) (A:Ad) (st:SS) (n:Nat) (cut:List Int) (c:aJ) (part:Str),ws=[.ref A.s,.int n,iC cut,cW c,.tup [.str part,.int (cut.getLastD 0)]]/\SR C E M0 M A st/\cut≠[]/\cut.length<1000/\Sm st ((aI st.ends (part,cut.getLastD 0)).getD []).length/\st.begun.length<10000000/\((aI st.begun (part,cut.getLastD 0)).getD []).length<10000000/\∀M',SR C E M0 M' A (fT st n cut c part)->R .non M'
def IY(C:Cc):bM:=λws M R=>∃(G:Sr) (E:Env) (M0:Mm) (A:Ad) (st:SS) (n:Nat) (cut:List Int) (c:aJ),ws=[.ref A.s,.int n,iC cut,cW c]/\SR C E M0 M A st/\G.rs=E.rs/\n<E.rs.length/\cut≠[]/\(∀key,∀y∈(aI st.begun key).getD [],y.2.1.length<1000/\y.2.1≠[])/\Sm st ((aI st.begun (c0 G n,cut.headD 0)).getD []).length/\st.best.length<10000000/\st.ends.length<10000000/\((aI st.ends (c0 G n,cut.headD 0)).getD []).length<10000000/\∀M',SR C E M0 M' A (settle G st n cut c)->R .non M'
structure IZ(G:Sr)(E:Env):Prop where
 rs:G.rs=E.rs
 own:∀t,(aV E.own (Sum.inr t:aC)).isSome=G.own t
 stp:∀t p,(aV E.stp (eK (t,p))=none/\G.steps t p=[])\/aV E.stp (eK (t,p))=some (.rl ((G.steps t p).map λz=>.tup [.int z.1,.int z.2]))
structure Rm(G:Sr)(st:SS):Prop where
 item:∀c n cut q',iA st.q=some (c,(n,cut),q')->cut≠[]/\cut.length<1000/\n<G.rs.length/\∃d,aI st.reached (bK n cut)=some d
 bg:∀key,∀y∈(aI st.begun key).getD [],y.2.1.length<1000/\y.2.1≠[]
 b:st.best.length<10000000
 e:st.ends.length<10000000
 g:st.begun.length<10000000
 el:∀key,((aI st.ends key).getD []).length<10000000/\Sm st ((aI st.ends key).getD []).length
 gl:∀key,((aI st.begun key).getD []).length<10000000/\Sm st ((aI st.begun key).getD []).length
 sl:∀t p,Sm st (G.steps t p).length
def JA(C:Cc):bM:=λws M R=>∃(G:Sr) (E:Env) (M0:Mm) (A:Ad) (st:SS),ws=[.ref A.s]/\SR C E M0 M A st/\IZ G E/\st.q≠[]/\Rm G st/\∀M',SR C E M0 M' A (lG G st)->R .non M'
def JB(C:Cc):bM:=λws M R=>∃(M0:Mm) (s dx:Addr) (rs:List aP) (stp:List (List aC×W)),ws=[.ref s,bL rs,.dt stp]/\rs.length<=100/\M=put M0 s (.ins C.s dx [])/\M0 s=none/\∀M' (A:Ad),A.s=s->SR C ⟨rs,ownOf rs,stp⟩ M0 M' A gN->R .non M'
def yU(G:Sr):Nat->SS
 | 0=>kJ G
 | n+1=>lG G (yU G n)
def jH(G:Sr)(B:bZ):Prop:=∃(S I0:Nat) (st:SS) (P:List bT) (cur:aJ) (T:Nat),All G S I0 st P cur T/\st.q=[]/\st.best=B/\st=yU G T
def JC(C:Cc):bM:=λws M R=>∃(G:Sr) (E:Env) (V:List Int) (L S:Nat),ws=[bL E.rs,.rl (G.places.map W.int),.dt E.stp,.rl ((Bp G.rs.length).map λn=>.int (G.wt n))]/\E.rs.length<=100/\E.own=ownOf E.rs/\IZ G E/\qM G/\tE G V G.rs.length L/\L<1000/\G.places.length<=1000/\(∀t p,(G.steps t p).length<=S)/\
 (j3 G).length+G.rs.length*((L+1)*(V.length*V.length))*(S+V.length)+G.rs.length*((L+1)*(V.length*V.length))+V.length+S+1<10000000/\∀B,jH G B->jN (eC fK iX B) M R
abbrev JD:List Str:=["things"]
def zab:aH:=
   (cL (bN tJ (aB (cP (eW (cC d8 (aA 0)) (bC 0) fY (bP (aB (aA 0) (aB (vC (.bl true)) aE))) [none])) aE)))
abbrev zac:List Str:=["cost","other"]
def zad:aH:=
   (cL (bP (aB (aF dS (aF aX (aA 0) (vC (.int 0))) (aF aX (aA 1) (vC (.int 0)))) (aB (aF dS (aF aX (aA 0) (vC (.int 1))) (aF aX (aA 1) (vC (.int 1)))) aE))))
abbrev zae:List Str:=["self","grammar","steps"]
def zaf(C:Cc):aH:=
   (gV C.s (aA 0) "grammar" (aA 1))
def zag(C:Cc):aH:=
   (gV C.s (aA 0) "own" (b9 yR (aB (cP (b9 tP (aB (aA 1) aE))) aE)))
def zah(C:Cc):aH:=
   (gV C.s (aA 0) "steps" (aA 2))
def JE(C:Cc):aH:=
   (gV C.s (aA 0) "queue" (qR C.q (IJ C) aE))
def zai(C:Cc):aH:=
   (gV C.s (aA 0) "reached" lA)
def zaj(C:Cc):aH:=
   (gV C.s (aA 0) "best" lA)
def zak(C:Cc):aH:=
   (gV C.s (aA 0) "ends" lA)
def zal(C:Cc):aH:=
   (gV C.s (aA 0) "begun" lA)
def zam(C:Cc):aH:=(aM (zaf C) (aM (zag C) (aM (zah C) (aM (JE C) (aM (zai C) (aM (zaj C) (aM (zak C) (zal C))))))))
abbrev zan:List Str:=["self","number","cut","cost","key"]
def zao(C:Cc):aH:=
   (aM (bB 4 (bP (aB (aA 1) (aB (bN dQ (aB (aA 2) aE)) (aB (aF aX (aA 2) (vC (.int 0))) (aB (aF aX (aA 2) (i8 jA (vC (.int 1)))) aE))))))
   (dR (m8 (b5 (aF (rIn true) (aA 4) (bO C.s (aA 0) "reached"))) (b5 (aF yH (aA 3) (aF aX (bO C.s (aA 0) "reached") (aA 4)))))
    (aM (iL (aA 3) (hZ (bO C.s (aA 0) "reached") (aA 4)))
   (dE (fL C.q "put" (yL C) (bO C.s (aA 0) "queue") (aB (aA 3) (aB (bP (aB (aA 1) (aB (aA 2) aE))) aE)))))
    eU))
abbrev zap:List Str:=["self","taken","cost","number","cut","parts","end","price"]
def zaq(C:Cc):aH:=
   (bB 1 (fL C.q "take" (IM C) (bO C.s (aA 0) "queue") aE))
def zar(C:Cc):aH:=
   (bB 2 (aF aX (aA 1) (vC (.int 0))))
def zas(C:Cc):aH:=
   (bB 3 (aF aX (aF aX (aA 1) (vC (.int 1))) (vC (.int 0))))
def zat(C:Cc):aH:=
   (bB 4 (aF aX (aF aX (aA 1) (vC (.int 1))) (vC (.int 1))))
def zau(C:Cc):aH:=
   (dR (b5 (aF yH (aF aX (bO C.s (aA 0) "reached") (bP (aB (aA 3) (aB (bN dQ (aB (aA 4) aE)) (aB (aF aX (aA 4) (vC (.int 0))) (aB (aF aX (aA 4) (i8 jA (vC (.int 1)))) aE)))))) (aA 2)))
    xC
    eU)
def zav(C:Cc):aH:=
   (bB 5 (aF aX (aF aX (bO C.s (aA 0) "grammar") (aA 3)) (vC (.int 1))))
def zaw(C:Cc):aH:=
   (dR (b5 (aF wV (bN dQ (aB (aA 4) aE)) (bN dQ (aB (aA 5) aE))))
    (dE (fL C.s "settle" (IY C) (aA 0) (aB (aA 3) (aB (aA 4) (aB (aA 2) aE)))))
    (dR (b5 (aF (rIn false) (aF aX (aA 5) (aF lU (bN dQ (aB (aA 4) aE)) (vC (.int 1)))) (bO C.s (aA 0) "own")))
    (dE (fL C.s "step_by_name" (IX C) (aA 0) (aB (aA 3) (aB (aA 4) (aB (aA 2) (aB (bP (aB (aF aX (aA 5) (aF lU (bN dQ (aB (aA 4) aE)) (vC (.int 1)))) (aB (aF aX (aA 4) (i8 jA (vC (.int 1)))) aE))) aE))))))
    (c9 (cC l8 (dX "dict" oO (bO C.s (aA 0) "steps") (aB (bP (aB (aF aX (aA 5) (aF lU (bN dQ (aB (aA 4) aE)) (vC (.int 1)))) (aB (aF aX (aA 4) (i8 jA (vC (.int 1)))) aE))) (aB (jB aE) aE)))) (jV 2 (eS (bC 6) (eS (bC 7) jU)))
    (dE (fL C.s "reach" (qY C) (aA 0) (aB (aA 3) (aB (aF dS (aA 4) (bP (aB (aA 6) aE))) (aB (bP (aB (aF dS (aF aX (aA 2) (vC (.int 0))) (aA 7)) (aB (aF aX (aA 2) (vC (.int 1))) aE))) aE))))))))
def zax(C:Cc):aH:=(aM (zaq C) (aM (zar C) (aM (zas C) (aM (zat C) (aM (zau C) (aM (zav C) (zaw C)))))))
abbrev zay:List Str:=["self","number","cut","cost","key","end","more"]
def zaz(C:Cc):aH:=
   (aM (dE (dX "list" fQ (dX "dict" qT (bO C.s (aA 0) "begun") (aB (aA 4) (aB (g9 aE) aE))) (aB (bP (aB (aA 1) (aB (aA 2) (aB (aA 3) aE)))) aE)))
   (c9 (cC l8 (dX "dict" oO (bO C.s (aA 0) "ends") (aB (aA 4) (aB (jB aE) aE)))) (jV 2 (eS (bC 5) (eS (bC 6) jU)))
    (dE (fL C.s "reach" (qY C) (aA 0) (aB (aA 1) (aB (aF dS (aA 2) (bP (aB (aA 5) aE))) (aB (b9 yS (aB (aA 3) (aB (aA 6) aE))) aE)))))))
abbrev zaA:List Str:=["self","number","cut","cost","key","fact","other","before","paid"]
def zaB(C:Cc):aH:=
   (bB 4 (bP (aB (aF aX (aF aX (bO C.s (aA 0) "grammar") (aA 1)) (vC (.int 0))) (aB (aF aX (aA 2) (vC (.int 0))) aE))))
def zaC(C:Cc):aH:=
   (bB 5 (aF dS (aA 4) (bP (aB (aF aX (aA 2) (i8 jA (vC (.int 1)))) aE))))
def zaD(C:Cc):aH:=
   (dR (b5 (aF (rIn false) (aA 5) (bO C.s (aA 0) "best")))
    xC
    eU)
def zaE(C:Cc):aH:=
   (iL (bP (aB (aA 3) (aB (aA 1) (aB (aA 2) aE)))) (hZ (bO C.s (aA 0) "best") (aA 5)))
def zaF(C:Cc):aH:=
   (dE (dX "list" fQ (dX "dict" qT (bO C.s (aA 0) "ends") (aB (aA 4) (aB (g9 aE) aE))) (aB (bP (aB (aF aX (aA 2) (i8 jA (vC (.int 1)))) (aB (aA 3) aE))) aE)))
def zaG(C:Cc):aH:=
   (dE (fL C.s "reach" (qY C) (aA 0) (aB (aA 6) (aB (aF dS (aA 7) (bP (aB (aF aX (aA 2) (i8 jA (vC (.int 1)))) aE))) (aB (b9 yS (aB (aA 8) (aB (aA 3) aE))) aE)))))
def zaH(C:Cc):aH:=
   (c9 (cC l8 (dX "dict" oO (bO C.s (aA 0) "begun") (aB (aA 4) (aB (jB aE) aE)))) (jV 3 (eS (bC 6) (eS (bC 7) (eS (bC 8) jU)))) (zaG C))
def zaI(C:Cc):aH:=(aM (zaB C) (aM (zaC C) (aM (zaD C) (aM (zaE C) (aM (zaF C) (zaH C))))))
abbrev zaJ:List Str:=["grammar","places","steps","weights","search","number","place"]
def zaK(C:Cc):aH:=
   (bB 4 (qR C.s (JB C) (aB (aA 0) (aB (aA 2) aE))))
def zaL(C:Cc):aH:=
   (c9 (cC d8 (aA 1)) (bC 6)
    (dE (fL C.s "reach" (qY C) (aA 4) (aB (aA 5) (aB (bP (aB (aA 6) aE)) (aB (bP (aB (aF aX (aA 3) (aA 5)) (aB (vC (.int 1)) aE))) aE))))))
def zaM(C:Cc):aH:=
   (c9 (jX (aB (bN dQ (aB (aA 0) aE)) aE)) (bC 5) (zaL C))
def zaN(C:Cc):aH:=
   (dE (fL C.s "take_next" (JA C) (aA 4) aE))
def zaO(C:Cc):aH:=
   (oG (wL (lS (fL C.q "is_done" (IK C) (bO C.s (aA 4) "queue") aE))) (zaN C))
def zaP(C:Cc):aH:=
   (cL (bO C.s (aA 4) "best"))
def zaQ(C:Cc):aH:=(aM (zaK C) (aM (zaM C) (aM (zaO C) (zaP C))))
theorem yV:∀(ts acc:List Str),j4 (acc.map bR) (ts.map bR)=(ts.foldl cZ acc).map bR
 | [],acc=>rfl
 | t::r,acc=>by
  show j4 (bS (acc.map bR) (Sum.inr t) (.bl true)) (r.map bR)=_;rw[qV,yV,Ex]
theorem zaR{ws:List W}{M:Mm}{R:K3}(h:yR ws M R):zab (bQ R) (bY JD ws) M:=by
 obtain⟨ts,rfl,hl,r⟩:=h;have l:(ts.map W.str).length<=Ap:=small (by rw[Aa];exact Ah hl (by decide));refine⟨_,rfl,fU (jZ (rest:=[]) (λw=>.tup [w,.bl true]) l (λ_ _=>trivial) (λw hw M' C sb h1=>⟨_,rfl,z2,h1⟩) (aZ.frz ⟨ts.map bR,?_,by rw[Aa];exact l,_,Sub.refl _,?_⟩))⟩
 .unfold iN;rw[Bd,Bd];rfl
 .rw[show([]:List (aC×W))=([]:List Str).map bR from rfl,yV];exact r
theorem zaS{ws:List W}{M:Mm}{R:K3}(h:yS ws M R):zad (bQ R) (bY zac ws) M:=by
 obtain⟨a,b,rfl,r⟩:=h;exact⟨_,rfl,_,rfl,_,rfl,_,rfl,_,rfl,_,rfl,_,rfl,_,rfl,z2,_,Sub.refl _,r⟩
variable {O:Type}
theorem yW{cut:List Int}(h:cut≠[]):cX (cut.map W.int) 0=some (.int (cut.headD 0)):=by
 cases cut with
 | nil=>exact absurd rfl h
 | cons a t=>exact XE _ _
theorem nH{cut:List Int}(h:cut≠[]):cX (cut.map W.int) (-1)=some (.int (cut.getLastD 0)):=by
 rcases Gj cut with z|⟨a,b,z⟩
 .exact absurd z h
 .rw[z,Gk,Bk];refine(ED _ _).trans ?_;simp[Ip]
theorem JF{n:Nat}{cut:List Int}:W.tup [.int n,.int (cut.map W.int).length,.int (cut.headD 0),.int (cut.getLastD 0)]=.tup ((kK (bK n cut)).map wK):=by
 rw[Aa];rfl
theorem zaT{M:Mm}{a:Addr}{t:List (K4×aJ)}{n:Nat}{cut:List Int}{d:aJ}{R:K3}(h:M a=some (.dT (eC kK cW t)))(hd:aI t (bK n cut)=some d)(r:R (cW d) M):L3.aX (.ref a) (.tup [.int n,.int (cut.map W.int).length,.int (cut.headD 0),.int (cut.getLastD 0)]) M R:=by rw[JF];exact oU h (by rw[qX tQ,hd];rfl) r
theorem JG{C:Cc}{E:Env}{M0 M:Mm}{A:Ad}{st:SS}{n:Nat}{cut:List Int}{c:aJ}{R:K3}{kp:Option (Addr×List W)}(hs:SK C E M0 M A st kp)(sm:Sm st 1)(r:∀M',SK C E M0 M' A {st with reached:=dA st.reached (bK n cut) c,q:=dH c (n,cut) st.q} kp->R .non M'):
  aM (iL (aA 3) (hZ (bO C.s (aA 0) "reached") (aA 4))) (dE (fL C.q "put" (yL C) (bO C.s (aA 0) "queue") (aB (aA 3) (aB (bP (aB (aA 1) (aB (aA 2) aE))) aE)))) (bQ R) [some (W.ref A.s),some (W.int n),some (iC cut),some (cW c),some (W.tup (Ja wK (kK (bK n cut))))] M:=by
 have h1:=sm.q;have h2:=sm.r;refine⟨_,rfl,_,rfl,A.s,A.d,_,_,rfl,hs.os,tR,_,rfl,oJ hs.or (dW (by rw[Aa];lia)) ?_⟩;rw[IS tQ];have hs1:=hs.rput (dA st.reached (bK n cut) c);obtain⟨M3,hq,back⟩:=hs1.que;exact⟨_,rfl,A.s,A.d,_,_,rfl,hs1.os,yO,A.Q.o,A.Q.d,qf A.Q,rfl,hq.ob,Y5,_,rfl,_,rfl,_,rfl,z2,M3,A.Q,_,c,(n,cut),rfl,hq,(by rw[sZ];exact h1),λM' h'=>⟨M',Sub.refl _,r M' (back M' _ h')⟩⟩
theorem zaU{C:Cc}{ws:List W}{M:Mm}{R:K3}(h:qY C ws M R):zao C (bQ R) (bY zan ws) M:=by
 obtain⟨E,M0,A,st,n,cut,c,kp,rfl,hs,hcut,sm,r⟩:=h;refine xI rfl (xI rfl (xI rfl ⟨_,yW hcut,xI rfl ⟨_,nH hcut,z4,?_⟩⟩));rw[JF];refine xI rfl (xI rfl ⟨A.s,A.d,_,xI rfl ⟨hs.os,tR,.inr ⟨_,.inr ⟨_,_,hs.or,rfl,rfl⟩,xI rfl ?_⟩⟩⟩);rw[qX tQ];cases hr:aI st.reached (bK n cut) with
 | none=>
  refine bW (λ_=>Z4 (JG hs sm λM' h'=>r M' ?_)) λh=>nomatch (show true=false from h);unfold reach;rw[hr];exact h'
 | some d=>
  refine bW (λh=>nomatch (show false=true from h)) λ_=>xI rfl (xI rfl ⟨A.s,A.d,_,xI rfl ⟨hs.os,tR,xI rfl (oU hs.or (by rw[qX tQ,hr];rfl) ⟨c.1,c.2,d.1,d.2,rfl,rfl,xI rfl (bW (λhl=>JG hs sm λM' h'=>r M' ?_) λhl=>⟨M,Sub.refl _,r M ?_⟩)⟩)⟩⟩)
  .unfold reach;rw[hr];simp only;rw[if_pos (show cF c d=true from hl)];exact h'
  .unfold reach;rw[hr];simp only;rw[if_neg (ne_true_of_eq_false (show cF c d=false from hl))];exact hs
theorem Sm.reach{st:SS}{k:Nat}(h:Sm st (k+1))(n:Nat)(cut:List Int)(c:aJ):Sm (Rg.reach st n cut c) k:=by
 obtain⟨j,h1,h2,h3⟩:=HD st n cut c;have:=h.q;have:=h.r;exact⟨by lia,by lia⟩
theorem Sm.le{st:SS}{k j:Nat}(h:Sm st k)(hj:j<=k):Sm st j:=⟨by have:=h.q;lia,by have:=h.r;lia⟩
def eL(f:O->Nat×List Int×aJ)(xs:List O)(st:SS):SS:=xs.foldl (λst x=>reach st (f x).1 (f x).2.1 (f x).2.2) st
theorem tU{f:O->Nat×List Int×aJ}{xs:List O}{st:SS}{i:Nat}{x:O}(h:xs[i]? = some x):eL f (xs.take (i+1)) st=reach (eL f (xs.take i) st) (f x).1 (f x).2.1 (f x).2.2:=by
 unfold eL;rw[Lm,h,Jp];rfl
theorem oV{f:O->Nat×List Int×aJ}:∀{xs:List O} {st:SS} {k:Nat},Sm st (xs.length+k)->Sm (eL f xs st) k
 | [],st,k,h=>by simp at h;exact h
 | x::xs,st,k,h=>by
  show Sm (eL f xs (reach st (f x).1 (f x).2.1 (f x).2.2)) k;exact oV (Sm.reach (by rw[Az]at h;exact h.le (by lia)) _ _ _)
theorem qZ{f:O->Nat×List Int×aJ}:∀{xs:List O} {st:SS},(eL f xs st).ends=st.ends/\(eL f xs st).begun=st.begun/\(eL f xs st).best=st.best
 | [],st=>⟨rfl,rfl,rfl⟩
 | x::xs,st=>by
  have h1:=qZ (f:=f) (xs:=xs) (st:=reach st (f x).1 (f x).2.1 (f x).2.2);have h2:∀n cut c,(reach st n cut c).ends=st.ends/\(reach st n cut c).begun=st.begun/\(reach st n cut c).best=st.best:=by
   intro n cut c;unfold reach;split
   .split<;>exact⟨rfl,rfl,rfl⟩
   .exact⟨rfl,rfl,rfl⟩
  obtain⟨a1,a2,a3⟩:=h2 (f x).1 (f x).2.1 (f x).2.2;exact⟨h1.1.trans a1,h1.2.1.trans a2,h1.2.2.trans a3⟩
theorem zaV{C:Cc}{ws:List W}{M:Mm}{R:K3}(h:IX C ws M R):zaz C (bQ R) (bY zay ws) M:=by
 obtain⟨E,M0,A,st,n,cut,c,part,rfl,hs,hcut,hcl,sm,hb,hb2,r⟩:=h;refine SK.gput hs (z:=(n,cut,c)) rfl (λM1 Q h=>xI rfl h) (λM1 Q h=>xI rfl (xI rfl (xI rfl ⟨z3,h⟩))) hb hb2 λM1 hs1=>?_;have hf:=hs1.ends_at (part,cut.getLastD 0);obtain⟨kvs,he,hc⟩:=hf;refine xI rfl ⟨A.s,A.d,_,xI rfl ⟨hs1.os,IU,qU he,xI rfl ⟨Bf _,_,.inr ⟨kvs,eK (part,cut.getLastD 0),he,rfl,rfl⟩,?_⟩⟩⟩;rcases hc with⟨h1,h2⟩|⟨p,xs,h1,h2,hk⟩
 .rw[h1];refine yM rfl (nC (λi τ M'=>M'=M1) rfl (λ_ _ _ _ _=>trivial) (λi w τ M' hw=>nomatch hw) λτ M' e=>⟨_,Sub.refl _,r _ ?_⟩);rw[e];unfold fT;rw[show aI st.ends (part,cut.getLastD 0)=none from h2];exact hs1
 .rw[h1];obtain⟨f,hf⟩:∃f:Int×aJ->Nat×List Int×aJ,f=λz=>(n,cut++[z.1],dY c z.2):=⟨_,rfl⟩;obtain⟨st1,hst1⟩:∃st1,st1 = {st with begun:=eY st.begun (part,cut.getLastD 0) (n,cut,c)}:=⟨_,rfl⟩;rw[<-hst1]at hk;have sm1:Sm st1 xs.length:=by
   rw[show aI st.ends (part,cut.getLastD 0)=some xs from h2]at sm;rw[hst1];exact⟨sm.q,sm.r⟩
  refine⟨_,hk.kept,nC (λi τ M'=>∃o5 o6,τ=[some (.ref A.s),some (.int n),some (iC cut),some (cW c),some (.tup [.str part,.int (cut.getLastD 0)]),o5,o6]/\SK C E M0 M' A (eL f (xs.take i) st1) (some (p,xs.map jF))) ⟨_,xI rfl hk⟩ (λi τ M' _ ⟨_,_,_,h⟩=>h.kept) ?_ ?_⟩
  .rintro i w τ M' hw ⟨o5,o6,rfl,hk'⟩;rw[Ax]at hw;obtain⟨z,hz,rfl⟩:=Bb.mp hw;have hi:=(Ak.mp hz).1;have smi:Sm (eL f (xs.take i) st1) 1:=oV (sm1.le (by rw[Ce];lia));have e1:W.tup (Ja W.int cut++[W.int z.1])=iC (cut++[z.1]):=by unfold iC;rw[Bk];rfl
   refine⟨rfl,rfl,xI rfl ⟨A.s,A.d,xI rfl ⟨hk'.os,tS,xI rfl (xI rfl (xI rfl ⟨z1,by simpa using hcut,by rw[Aa];exact Ah hcl (small (by decide)),xI rfl (xI rfl ⟨c,z.2,rfl,E,M0,A,_,n,cut++[z.1],dY c z.2,_,by rw[e1],hk',by simp,smi,λM2 hk2=>⟨M2,Sub.refl _,_,xI rfl ?_⟩⟩)⟩))⟩⟩⟩;rw[tU hz,hf];rw[hf]at hk2;exact hk2
  .rintro τ M' ⟨o5,o6,rfl,hk'⟩;rw[Aa,Cb]at hk';refine⟨_,Sub.refl _,r _ ?_⟩;unfold fT;rw[show aI st.ends (part,cut.getLastD 0)=some xs from h2];rw[hst1,hf]at hk';exact hk'.free
theorem yX{rs:List aP}{n:Nat}(h:n<rs.length):∃r,rs[n]? = some r/\cX (rs.map eX) (n:Int)=some (eX r):=by
 refine⟨rs[n],Bc h,kA ?_⟩;rw[Ax,Bc h];rfl
theorem zaW{bs:bZ}{k:cT}{v:aJ×Nat×List Int}(h:aI bs k=none):bS (eC fK iX bs) (fK k) (iX v)=eC fK iX (bs++[(k,v)]):=by
 rw[IS yN,yQ h]
theorem zaX{C:Cc}{ws:List W}{M:Mm}{R:K3}(h:IY C ws M R):zaI C (bQ R) (bY zaA ws) M:=by
 obtain⟨G,E,M0,A,st,n,cut,c,rfl,hs,hG,hn,hcut,hbg,sm,hb,he,hel,r⟩:=h;obtain⟨ru,hr1,hr2⟩:=yX hn;have hfn:c0 G n=ru.name:=by unfold c0;rw[hG,hr1]
 have hfact:cQ G n cut=(ru.name,cut.headD 0,cut.getLastD 0):=by unfold cQ;rw[hfn]
 rw[hfn]at sm hel;refine xI rfl ⟨A.s,A.d,_,xI rfl ⟨hs.os,IT,xI rfl ⟨_,hr2,xI rfl (xI rfl ⟨_,yW hcut,z2,xI rfl (xI rfl ⟨_,nH hcut,z1,(λh=>nomatch h),z3,xI rfl (xI rfl ⟨A.s,A.d,_,xI rfl ⟨hs.os,yP,.inr ⟨_,.inr ⟨_,fK (ru.name,cut.headD 0,cut.getLastD 0),hs.ob,rfl,rfl⟩,xI rfl ?_⟩⟩⟩)⟩)⟩)⟩⟩⟩;rw[qX yN];cases hbst:aI st.best (ru.name,cut.headD 0,cut.getLastD 0) with
 | some v=>
  refine bW (λ_=>⟨M,Sub.refl _,r M ?_⟩) λh=>nomatch (show true=false from h);unfold settle;rw[hfact,hbst];exact hs
 | none=>
  refine bW (λh=>nomatch (show false=true from h)) λ_=>xI rfl (xI rfl (xI rfl ⟨z3,xI rfl ⟨A.s,A.d,_,xI rfl ⟨hs.os,yP,xI rfl (oJ (k:=fK (ru.name,cut.headD 0,cut.getLastD 0)) hs.ob (dW (by rw[Aa];exact hb)) ?_)⟩⟩⟩));rw[show bS (eC fK iX st.best) _ (W.tup [cW c,W.int n,iC cut])=_ from zaW (v:=(c,n,cut)) hbst];have hs1:=hs.bput (st.best++[((ru.name,cut.headD 0,cut.getLastD 0),c,n,cut)]);refine SK.eput hs1 (nm:=ru.name) (b:=cut.headD 0) (z:=(cut.getLastD 0,c)) rfl (λM1 Q h=>xI rfl h) (λM1 Q h=>xI rfl ⟨_,nH hcut,xI rfl ⟨z2,h⟩⟩) he hel λM1 hs2=>?_;obtain⟨st1,hst1⟩:∃st1:SS,st1 = {st with best:=st.best++[((ru.name,cut.headD 0,cut.getLastD 0),c,n,cut)],ends:=eY st.ends (ru.name,cut.headD 0) (cut.getLastD 0,c)}:=⟨_,rfl⟩;have hs2:SR C E M0 M1 A st1:=by rw[hst1];exact hs2
  have hset:∀xs,(aI st.begun (ru.name,cut.headD 0)).getD []=xs->settle G st n cut c=eL (λy:bT=>(y.1,y.2.1++[cut.getLastD 0],dY y.2.2 c)) xs st1:=λxs hx=>by
   unfold settle;rw[hfact,hbst,hfn,hx,hst1];rfl
  have hbeg:st1.begun=st.begun:=by rw[hst1]
  obtain⟨kvs,hg,hc⟩:=hs2.begun_at (ru.name,cut.headD 0);refine xI rfl ⟨A.s,A.d,_,xI rfl ⟨hs2.os,IV,qU hg,xI rfl ⟨Bf _,_,.inr ⟨kvs,eK (ru.name,cut.headD 0),hg,rfl,rfl⟩,?_⟩⟩⟩;rcases hc with⟨h1,h2⟩|⟨p,xs,h1,h2,hk⟩
  .rw[h1];refine yM rfl (nC (λi τ M'=>M'=M1) rfl (λ_ _ _ _ _=>trivial) (λi w τ M' hw=>nomatch hw) λτ M' e=>⟨_,Sub.refl _,r _ ?_⟩);rw[hset [] (by rw[hbeg]at h2;rw[h2];rfl),e];exact hs2
  .rw[h1];rw[hbeg]at h2;obtain⟨f,hf⟩:∃f:bT->Nat×List Int×aJ,f=λy=>(y.1,y.2.1++[cut.getLastD 0],dY y.2.2 c):=⟨_,rfl⟩;have sm1:Sm st1 xs.length:=by
    rw[h2]at sm;rw[hst1];exact⟨sm.q,sm.r⟩
   refine⟨_,hk.kept,nC (λi τ M'=>∃o6 o7 o8,τ=[some (.ref A.s),some (.int n),some (iC cut),some (cW c),some (.tup [.str ru.name,.int (cut.headD 0)]),some (.tup ([.str ru.name,.int (cut.headD 0)]++[.int (cut.getLastD 0)])),o6,o7,o8]/\SK C E M0 M' A (eL f (xs.take i) st1) (some (p,xs.map jG))) ⟨_,_,xI rfl hk⟩ (λi τ M' _ ⟨_,_,_,_,h⟩=>h.kept) ?_ ?_⟩
   .rintro i w τ M' hw ⟨o6,o7,o8,rfl,hk'⟩;rw[Ax]at hw;obtain⟨y,hy,rfl⟩:=Bb.mp hw;have hi:=(Ak.mp hy).1;obtain⟨hyl,hyn⟩:=hbg (ru.name,cut.headD 0) y (by rw[h2];exact Bl hy);refine⟨rfl,rfl,xI rfl ⟨A.s,A.d,xI rfl ⟨hk'.os,tS,xI rfl (xI rfl (xI rfl ⟨_,nH hcut,z1,by simpa using hyn,by rw[Aa];exact small (Ah hyl (by decide)),xI rfl (xI rfl ⟨y.2.2,c,rfl,E,M0,A,_,y.1,y.2.1++[cut.getLastD 0],dY y.2.2 c,_,by rw[iC,Bk];rfl,hk',by simp,oV (sm1.le (by rw[Ce];lia)),λM2 hk2=>⟨M2,Sub.refl _,_,_,xI rfl ?_⟩⟩)⟩))⟩⟩⟩;rw[tU hy,hf];rw[hf]at hk2;exact hk2
   .rintro τ M' ⟨o6,o7,o8,rfl,hk'⟩;rw[Aa,Cb]at hk';refine⟨_,Sub.refl _,r _ ?_⟩;rw[hset xs (by rw[h2];rfl),<-hf];exact hk'.free
theorem zaY{C:Cc}{ws:List W}{M:Mm}{R:K3}(h:JA C ws M R):zax C (bQ R) (bY zap ws) M:=by
 obtain⟨G,E,M0,A,st,rfl,hs,ev,hq,rm,r⟩:=h;obtain⟨c,x,q',e1,f1,m1,l1,_,_⟩:=nF hs.fall hq;obtain⟨n,cut⟩:=x;obtain⟨hcut,hcl,hn,d,hd⟩:=rm.item c n cut q' e1;obtain⟨M3,hQ,back⟩:=hs.que;refine xI rfl ⟨A.s,A.d,_,xI rfl ⟨hs.os,yO,A.Q.o,A.Q.d,xI rfl ⟨hQ.ob,Y6,M3,A.Q,_,c,(n,cut),q',rfl,hQ,e1,λM1 hQ1=>?_⟩⟩⟩;have hs1:=back M1 q' hQ1;have smq:∀k,Sm st k->Sm {st with q:=q'} k:=λk h=>⟨by have:=h.q;show(a5 q').length+k<_;lia,h.r⟩
 have ht:lG G st=if cF d c=true then {st with q:=q'} else process G {st with q:=q'} n cut c:=by
  unfold lG;simp only[e1,hd]
 obtain⟨st1,hst1⟩:∃st1:SS,st1 = {st with q:=q'}:=⟨_,rfl⟩;have b1:st1.begun=st.begun:=by rw[hst1]
 have b2:st1.ends=st.ends:=by rw[hst1]
 have b3:st1.best=st.best:=by rw[hst1]
 have b4:st1.reached=st.reached:=by rw[hst1]
 rw[<-hst1]at hs1 smq ht;clear hst1;refine xI rfl (xI rfl (xI rfl (xI rfl (xI rfl (xI rfl (xI rfl (xI rfl (xI rfl ⟨A.s,A.d,_,xI rfl ⟨hs1.os,tR,xI rfl (xI rfl (xI rfl ⟨_,yW hcut,xI rfl ⟨_,nH hcut,z4,zaT hs1.or (by rw[b4];exact hd) (xI rfl ⟨d.1,d.2,c.1,c.2,rfl,rfl,xI rfl (bW (λhl=>?_) λhl=>?_)⟩)⟩⟩))⟩⟩))))))))
 .rw[ht,if_pos (show cF d c=true from hl)]at r;exact⟨M1,Sub.refl _,r M1 hs1⟩
 rw[ht,if_neg (ne_true_of_eq_false (show cF d c=false from hl))]at r;rw[ev.rs]at hn;obtain⟨ru,hr1,hr2⟩:=yX hn;have hpart:dJ G n cut=ru.parts[cut.length-1]?:=by unfold dJ;rw[ev.rs,hr1]
 have hpos:=El.mpr hcut;have hlm:(Ja W.int cut).length=cut.length:=Aa _;have hlp:(Ja W.str ru.parts).length=ru.parts.length:=Aa _;refine xI rfl ⟨A.s,A.d,_,xI rfl ⟨hs1.os,IT,xI rfl ⟨_,hr2,xI rfl (xI rfl (xI rfl (xI rfl (bW (λhlen=>?_) λhlen=>?_))))⟩⟩⟩
 .have hlen:=of_decide_eq_true hlen;rw[hlm,hlp]at hlen;have hp:dJ G n cut=none:=by rw[hpart];exact Jw (by lia)
  refine xI rfl ⟨A.s,A.d,xI rfl ⟨hs1.os,zaa,xI rfl (xI rfl (xI rfl ⟨G,E,M0,A,st1,n,cut,c,rfl,hs1,ev.rs,hn,hcut,by rw[b1];exact rm.bg,by rw[b1];exact smq _ (rm.gl _).2,by rw[b3];exact rm.b,by rw[b2];exact rm.e,by rw[b2];exact(rm.el _).1,λM2 hs2=>⟨M2,Sub.refl _,r M2 ?_⟩⟩))⟩⟩;unfold process;rw[hp];exact hs2
 have hlen:=of_decide_eq_false hlen;rw[hlm,hlp]at hlen;obtain⟨part,hp⟩:∃part,ru.parts[cut.length-1]? = some part:=⟨_,Bc (by lia)⟩;rw[hp]at hpart;have hat:cX (ru.parts.map W.str) ((Ja W.int cut).length-1)=some (.str part):=by
  rw[hlm,show((cut.length:Int)-1)=((cut.length-1:Nat):Int) by lia];exact kA (by rw[Ax,hp];rfl)
 have hpr:process G st1 n cut c=if G.own part=true then fT st1 n cut c part else eL (λz:Int×Int=>(n,cut++[z.1],(c.1+z.2,c.2))) (G.steps part (cut.getLastD 0)) st1:=by
  unfold process;rw[hpart];rfl
 rw[hpr]at r;refine xI rfl (xI rfl ⟨_,hat,xI rfl ⟨A.s,A.d,_,xI rfl ⟨hs1.os,Z6,_,⟨Sum.inr part,rfl,rfl⟩,xI rfl (bW (λho=>?_) λho=>?_)⟩⟩⟩)
 .rw[if_pos ((ev.own part).symm.trans ho)]at r;exact xI rfl ⟨A.s,A.d,xI rfl ⟨hs1.os,Z9,xI rfl (xI rfl (xI rfl (xI rfl (xI rfl ⟨_,hat,xI rfl ⟨_,nH hcut,z2,E,M0,A,st1,n,cut,c,part,rfl,hs1,hcut,hcl,by rw[b2];exact smq _ (rm.el _).2,by rw[b1];exact rm.g,by rw[b1];exact(rm.gl _).1,λM2 hs2=>⟨M2,Sub.refl _,r M2 hs2⟩⟩⟩))))⟩⟩
 rw[if_neg (ne_true_of_eq_false ((ev.own part).symm.trans ho))]at r;obtain⟨xs,hxs⟩:∃xs,xs=G.steps part (cut.getLastD 0):=⟨_,rfl⟩;have sm1:Sm st1 xs.length:=by rw[hxs];exact smq _ (rm.sl _ _)
 have hval:(aV E.stp (eK (part,cut.getLastD 0))).getD (.rl [])=.rl (xs.map λz=>.tup [.int z.1,.int z.2]):=by
  rw[hxs];rcases ev.stp part (cut.getLastD 0) with⟨h1,h2⟩|h1
  .rw[h1,h2];rfl
  .rw[h1];rfl
 rw[<-hxs]at r;refine xI rfl ⟨A.s,A.d,_,xI rfl ⟨hs1.os,Z7,rfl,xI rfl (xI rfl ⟨_,hat,xI rfl ⟨_,nH hcut,z2,Bf _,_,⟨eK (part,cut.getLastD 0),rfl,rfl⟩,yM hval (d9 (λi τ M'=>∃o6 o7,τ=[some (.ref A.s),some (.tup [cW c,j5 (n,cut)]),some (cW c),some (.int n),some (iC cut),some (.tup (ru.parts.map W.str)),o6,o7]/\SR C E M0 M' A (eL (λz:Int×Int=>(n,cut++[z.1],(c.1+z.2,c.2))) (xs.take i) st1)) ⟨_,xI rfl hs1⟩ ?_ ?_)⟩⟩)⟩⟩
 .rintro i w τ M' hw ⟨o6,o7,rfl,hk⟩ D hD;rw[Ax]at hw;obtain⟨z,hz,rfl⟩:=Bb.mp hw;have hi:=(Ak.mp hz).1;exact⟨rfl,rfl,xI rfl ⟨A.s,A.d,xI rfl ⟨hk.os,tS,xI rfl (xI rfl (xI rfl ⟨z1,by simpa using hcut,by rw[hlm];exact Ah hcl (small (by decide)),xI rfl (xI rfl (xI rfl (xI rfl (xI rfl ⟨z2,E,M0,A,_,n,cut++[z.1],(c.1+z.2,c.2),_,by rw[iC,Bk];rfl,hk,by simp,oV (sm1.le (by rw[Ce];lia)),λM2 hk2=>hD _ _ ⟨_,xI rfl (by rw[tU hz];exact hk2)⟩⟩))))⟩))⟩⟩⟩
 .rintro τ M' ⟨o6,o7,rfl,hk⟩;rw[Aa,Cb]at hk;exact⟨_,Sub.refl _,r _ hk⟩
theorem zaZ{E:Env}{A:Ad}:bD "begun" (.ref A.g) (bD "ends" (.ref A.e) (bD "best" (.ref A.b) (bD "reached" (.ref A.r) (bD "queue" (.ref A.Q.o) ([("grammar",(bL E.rs)),("own",(W.dk E.own)),("steps",(W.dt E.stp))]:List (Str×W))))))=sf E A:=by kernel_rfl
theorem tV{C:Cc}{B Mt:Mm}{A:Aq}{q:Qu}{s dx p:Addr}{fs fs':List (Str×W)}(hQ:QR C B Mt A q)(hB:B s=some (.ins C.s dx fs))(hp:Mt p=none):p≠s/\B p=none/\put Mt p (.dT []) s=some (.ins C.s dx fs)/\QR C (put (put B p (.dT [])) s (.ins C.s dx fs')) (put (put Mt p (.dT [])) s (.ins C.s dx fs')) A q:=by
 have hs:=hQ.sub _ _ hB;have ne:p≠s:=λe=>by rw[e,hs]at hp;cases hp
 exact⟨ne,hQ.sub.non hp,by rw[aK (Co ne)];exact hs,(hQ.lift (.inl hp)).lift (.inr ⟨_,by rw[aK (Co ne)];exact hB⟩)⟩
theorem mE(f:Str)(w:W):∀fs:List (Str×W),(bD f w fs).length<=fs.length+1
 | []=>Ag _
 | (k,x)::r=>by
  rw[bD];split
  .simp
  .have:=mE f w r;simp only[Az];lia
theorem za0{C:Cc}{ws:List W}{M:Mm}{R:K3}(h:JB C ws M R):zam C (bQ R) (bY zae ws) M:=by
 obtain⟨M0,s,dx,rs,stp,rfl,hl,rfl,h0,r⟩:=h;refine xI rfl (xI rfl ⟨s,dx,xI rfl ⟨aS,by decide,?_⟩⟩);rw[gK];have e2:∀w:W,bD "own" w (bD "grammar" (bL rs) [])=([("grammar",bL rs),("own",w)]:List (Str×W)):=λw=>by kernel_rfl
 have e3:∀w:W,bD "steps" w ([("grammar",bL rs),("own",.dk (ownOf rs))]:List (Str×W))=([("grammar",bL rs),("own",.dk (ownOf rs)),("steps",w)]:List (Str×W)):=λw=>by kernel_rfl
 refine xI rfl ⟨rs,rfl,Ah hl (by decide),aZ.frz ⟨namesOf rs,rfl,?_,xI rfl ⟨s,dx,xI rfl ⟨aS,(show(1:Nat)<1000 by decide),xI rfl (xI rfl ⟨s,dx,xI rfl ⟨aS,?_,?_⟩⟩)⟩⟩⟩⟩
 .have:=xO (rs.map aP.name) [];rw[Aa]at this;unfold namesOf nE;simp at this;simp;lia
 .rw[e2];exact(show(2:Nat)<1000 by decide)
 rw[gK,gK,e2];show JE C _ _ (put M0 s (.ins C.s dx (bD "steps" (.dt stp) [("grammar",bL rs),("own",.dk (ownOf rs))])));rw[e3];refine λa da ha hda hne=>?_;have hsa:s≠a:=λe=>by rw[<-e,aS]at ha;cases ha
 obtain⟨F3,hF3⟩:∃F:List (Str×W),F=([("grammar",bL rs),("own",.dk (ownOf rs)),("steps",.dt stp)]:List (Str×W)):=⟨_,rfl⟩;rw[<-hF3]at ha hda⊢;refine⟨_,a,da,rfl,rfl,ha,λM1 Aq hAq hQ=>⟨rfl,xI rfl ⟨s,dx,F3,rfl,hQ.sub _ _ aS,by rw[hF3];exact(show(3:Nat)<1000 by decide),?_⟩⟩⟩;have hQ1:=hQ.lift (p:=s) (o:=.ins C.s dx (bD "queue" (.ref a) F3)) (.inr ⟨_,aS⟩);rw[gK]at hQ1;obtain⟨F4,hF4⟩:∃F:List (Str×W),F=bD "queue" (.ref a) F3:=⟨_,rfl⟩;have l4:F4.length<=4:=by rw[hF4];have:=mE "queue" (.ref a) F3;rw[hF3]at this⊢;exact this
 rw[<-hF4]at hQ1⊢;obtain⟨Mt,hMt⟩:∃m,m=put M1 s (.ins C.s dx F4):=⟨_,rfl⟩;rw[<-hMt]at hQ1⊢;refine λp1 hp1=>?_;obtain⟨n1,b1,o1,hQ2⟩:=tV (fs':=bD "reached" (.ref p1) F4) hQ1 aS hp1;refine xI rfl ⟨s,dx,F4,rfl,o1,by lia,λp2 hp2=>?_⟩;obtain⟨n2,b2,o2,hQ3⟩:=tV (fs':=bD "best" (.ref p2) (bD "reached" (.ref p1) F4)) hQ2 aS hp2;have l5:=mE "reached" (.ref p1) F4;refine xI rfl ⟨s,dx,xI rfl ⟨o2,by lia,λp3 hp3=>?_⟩⟩;obtain⟨n3,b3,o3,hQ4⟩:=tV (fs':=bD "ends" (.ref p3) (bD "best" (.ref p2) (bD "reached" (.ref p1) F4))) hQ3 aS hp3;have l6:=mE "best" (.ref p2) (bD "reached" (.ref p1) F4);refine xI rfl ⟨s,dx,xI rfl ⟨o3,by lia,λp4 hp4=>?_⟩⟩;obtain⟨n4,b4,o4,hQ5⟩:=tV (fs':=bD "begun" (.ref p4) (bD "ends" (.ref p3) (bD "best" (.ref p2) (bD "reached" (.ref p1) F4)))) hQ4 aS hp4;have l7:=mE "ends" (.ref p3) (bD "best" (.ref p2) (bD "reached" (.ref p1) F4));refine xI rfl ⟨s,dx,xI rfl ⟨o4,by lia,_,Sub.refl _,r _ ⟨s,dx,Aq,p1,p2,p3,p4⟩ rfl ?_⟩⟩;obtain⟨A,hA⟩:∃A:Ad,A=⟨s,dx,Aq,p1,p2,p3,p4⟩:=⟨_,rfl⟩;obtain⟨E,hE⟩:∃E:Env,E=⟨rs,ownOf rs,stp⟩:=⟨_,rfl⟩;have hsf:bD "begun" (.ref p4) (bD "ends" (.ref p3) (bD "best" (.ref p2) (bD "reached" (.ref p1) F4)))=sf E A:=by
  rw[<-zaZ,hF4,hF3,hA,hE,<-hAq]
 rw[hsf]at hQ5⊢;rw[<-hA,<-hE];have c21:p2≠p1:=λe=>by rw[e,aK n1,aS]at b2;cases b2
 have c31:p3≠p1:=λe=>by rw[e,aK n1,aK (Co c21),aK n1,aS]at b3;cases b3
 have c32:p3≠p2:=λe=>by rw[e,aK n2,aS]at b3;cases b3
 have c41:p4≠p1:=λe=>by rw[e,aK n1,aK (Co c31),aK n1,aK (Co c21),aK n1,aS]at b4;cases b4
 have c42:p4≠p2:=λe=>by rw[e,aK n2,aK (Co c32),aK n2,aS]at b4;cases b4
 have c43:p4≠p3:=λe=>by rw[e,aK n3,aS]at b4;cases b4
 have z1:M0 p1=none:=by rw[aK n1]at b1;exact b1
 have z2:M0 p2=none:=by rw[aK n2,aK c21,aK n2]at b2;exact b2
 have z3:M0 p3=none:=by rw[aK n3,aK c32,aK n3,aK c31,aK n3]at b3;exact b3
 have z4:M0 p4=none:=by rw[aK n4,aK c43,aK n4,aK c42,aK n4,aK c41,aK n4]at b4;exact b4
 obtain⟨N1,hN1⟩:∃m,m=put (put (put M0 s (.ins C.s dx (sf E A))) p1 (.dT [])) p2 (.dT []):=⟨_,rfl⟩;have hB:put (put (put (put (put (put (put (put (put M0 s (.ins C.s dx F4)) p1 (.dT [])) s (.ins C.s dx (bD "reached" (.ref p1) F4))) p2 (.dT [])) s (.ins C.s dx (bD "best" (.ref p2) (bD "reached" (.ref p1) F4)))) p3 (.dT [])) s (.ins C.s dx (bD "ends" (.ref p3) (bD "best" (.ref p2) (bD "reached" (.ref p1) F4))))) p4 (.dT [])) s (.ins C.s dx (sf E A))=put (put N1 p3 (.dT [])) p4 (.dT []):=by
  rw[hN1];funext b;unfold put
  by_cases g0:b=s
  .subst g0;simp[Co n1,Co n2,Co n3,Co n4]
  .simp only[if_neg g0]
 rw[hB]at hQ5;have mn:Mn C E M0 N1 A [] []:=by
  rw[hN1,hA];exact⟨iP (iP (iP (Sub.refl _) h0) z1) z2,h0,z1,z2,Co n1,Co n2,Co c21,by rw[aK (Co n2),aK (Co n1),aS],by rw[aK (Co c21),aS];rfl,by rw[aS];rfl⟩
 have y3:N1 p3=none:=by rw[hN1,aK c32,aK c31,aK n3];exact z3
 have y4:N1 p4=none:=by rw[hN1,aK c42,aK c41,aK n4];exact z4
 have t1:d3 eK N1 (put N1 p3 (.dT [])) A.e [] (eG []):=by rw[hA];exact⟨Sub.new y3,y3,aS,(λ_ _=>rfl),(λk ws e=>nomatch e),(λk j p e=>nomatch e)⟩
 have x4:put N1 p3 (.dT []) p4=none:=by rw[aK c43];exact y4
 have t2:d3 eK (put N1 p3 (.dT [])) (put (put N1 p3 (.dT [])) p4 (.dT [])) A.g [] (gG []):=by rw[hA];exact⟨Sub.new x4,x4,aS,(λ_ _=>rfl),(λk ws e=>nomatch e),(λk j p e=>nomatch e)⟩
 have hAQ:A.Q=Aq:=by rw[hA]
 rw[<-hAQ]at hQ5;exact⟨N1,_,_,[],[],mn,t1,t2,hQ5,Ag _,Ag _,trivial⟩
structure Ln(st:SS)(T:Nat):Prop where
 b:st.best.length<=T
 e:st.ends.length<=T
 g:st.begun.length<=T
theorem Ln.process{G:Sr}{st:SS}{T:Nat}(h:Ln st T)(n:Nat)(cut:List Int)(c:aJ):Ln (Rg.process G st n cut c) (T+1):=by
 have h1:=h.b;have h2:=h.e;have h3:=h.g;have keep:Ln st (T+1):=⟨by lia,by lia,by lia⟩;unfold Rg.process;split
 .unfold settle;split
  .exact keep
  .obtain⟨a1,a2,a3⟩:=qZ (f:=λy:bT=>(y.1,y.2.1++[cut.getLastD 0],dY y.2.2 c)) (xs:=(aI st.begun (c0 G n,cut.headD 0)).getD []) (st:={st with best:=st.best++[(cQ G n cut,c,n,cut)],ends:=eY st.ends (c0 G n,cut.headD 0) (cut.getLastD 0,c)});refine⟨?_,?_,?_⟩
   .refine Ah (Fv (congrArg Dv a3)) ?_;show(st.best++[_]).length<=_;rw[Ar,Bz];lia
   .refine Ah (Fv (congrArg Dv a1)) ?_;have:=mD st.ends (c0 G n,cut.headD 0) ((aI st.ends (c0 G n,cut.headD 0)).getD []++[(cut.getLastD 0,c)]);show(dA _ _ _).length<=_;lia
   .refine Ah (Fv (congrArg Dv a2)) ?_;exact keep.g
 .rename_i part _;split
  .unfold fT;obtain⟨a1,a2,a3⟩:=qZ (f:=λz:Int×aJ=>(n,cut++[z.1],dY c z.2)) (xs:=(aI st.ends (part,cut.getLastD 0)).getD []) (st:={st with begun:=eY st.begun (part,cut.getLastD 0) (n,cut,c)});refine⟨?_,?_,?_⟩
   .exact Ah (Fv (congrArg Dv a3)) keep.b
   .exact Ah (Fv (congrArg Dv a1)) keep.e
   .refine Ah (Fv (congrArg Dv a2)) ?_;have:=mD st.begun (part,cut.getLastD 0) ((aI st.begun (part,cut.getLastD 0)).getD []++[(n,cut,c)]);show(dA _ _ _).length<=_;lia
  .unfold fZ;obtain⟨a1,a2,a3⟩:=qZ (f:=λz:Int×Int=>(n,cut++[z.1],(c.1+z.2,c.2))) (xs:=G.steps part (cut.getLastD 0)) (st:=st);exact⟨Ah (Fv (congrArg Dv a3)) keep.b,Ah (Fv (congrArg Dv a1)) keep.e,Ah (Fv (congrArg Dv a2)) keep.g⟩
theorem Ln.next{G:Sr}{st:SS}{T:Nat}(h:Ln st T):Ln (lG G st) (T+1):=by
 have h1:=h.b;have h2:=h.e;have h3:=h.g;have keep:Ln st (T+1):=⟨by lia,by lia,by lia⟩;have hq:∀q',Ln {st with q:=q'} T:=λq'=>⟨h1,h2,h3⟩
 unfold lG;split
 .exact keep
 .split
  .split
   .exact⟨keep.b,keep.e,keep.g⟩
   .exact(hq _).process _ _ _
  .exact⟨keep.b,keep.e,keep.g⟩
theorem za1{G:Sr}{V:List Int}{L S I0 T:Nat}{st:SS}{P:List bT}{cur:aJ}(v:tE G V G.rs.length L)(hL:L<1000)(A:All G S I0 st P cur T)(hS:∀t p,(G.steps t p).length<=S)(ln:Ln st T)(hb:I0+G.rs.length*((L+1)*(V.length*V.length))*(S+V.length)+G.rs.length*((L+1)*(V.length*V.length))+V.length+S+1<10000000):Rm G st:=by
 obtain⟨f1,f2,f3⟩:=HF v A;have hin:∀{n cut c},GI G st.best n cut c->DI G n cut c:=λ{n cut c} g=>xU (B:=st.best) (λf m n' cut' h=>xV A.ob h) g;have hr:=A.cn.rch;generalize G.rs.length*((L+1)*(V.length*V.length))=X at *;generalize X*(S+V.length)=Y at *;have h1:=ln.b;have h2:=ln.e;have h3:=ln.g;have hg:∀key,((aI st.begun key).getD []).length<=X:=λkey=>by
  have:=len_sub (b:=P) (A.cn.bnd key) λy hy=>(A.ob.bgn key y hy).1;lia
 refine⟨λc n cut q' e=>?_,λkey y hy=>?_,by lia,by lia,by lia,λkey=>?_,λkey=>?_,λt p=>?_⟩
 .have hne:st.q≠[]:=λz=>by rw[z]at e;cases e
  obtain⟨_,_,_,e1,_,m1,_⟩:=nF A.inv.fall hne;rw[e]at e1;cases e1;have hm:(c,(n,cut))∈a5 st.q:=(m1 _).mpr (.inl rfl);have hd:=hin (A.inv.item _ hm);obtain⟨_,g2,g3⟩:=tG v hd;obtain⟨d,g4,_⟩:=A.inv.ge _ hm;exact⟨hd.ne,by have g3:cut.length<=L:=g3;lia,g2,d,g4⟩
 .have hd:=hin (A.inv.pr y (A.ob.bgn key y hy).1).2.2;obtain⟨_,g2,g3⟩:=tG v hd;exact⟨by lia,hd.ne⟩
 .have:=f2 key;exact⟨by lia,⟨by lia,by lia⟩⟩
 .have:=hg key;exact⟨by lia,⟨by lia,by lia⟩⟩
 .have:=hS t p;exact⟨by lia,by lia⟩
def kL(G:Sr)(i:Nat):List (Nat×Int):=(Bp i).flatMap λn=>G.places.map λp=>(n,p)
theorem za2(G:Sr)(i:Nat):kL G (i+1)=kL G i++G.places.map λp=>(i,p):=by
 unfold kL;rw[Gs,List.flatMap_append];simp
theorem yY(G:Sr)(i:Nat):(kL G i).length=i*G.places.length:=by
 unfold kL;rw[flat_len (k:=G.places.length) λn _=>by rw[Aa],Cm]
abbrev nJ(G:Sr):Nat×Int->Nat×List Int×aJ:=λx=>(x.1,[x.2],(G.wt x.1,1))
theorem za3{O:Type}{f:O->Nat×List Int×aJ}{xs ys:List O}{st:SS}:eL f (xs++ys) st=eL f ys (eL f xs st):=by
 unfold eL;rw[Jp]
theorem SK.told{C:Cc}{E:Env}{M0 M:Mm}{A:Ad}{st:SS}{kp:Option (Addr×List W)}(h:SK C E M0 M A st kp):M0 A.b=none/\L3.Sub (put M0 A.b (.dT (eC fK iX st.best))) M:=by
 obtain⟨M1,M2,M3,e,g,h1,h2,h3,h4,h5,h6,h7⟩:=h.ex;refine⟨h1.nb,λb u e=>?_⟩
 by_cases hb:b=A.b
 .subst hb;rw[aS]at e;cases e;exact h.ob
 .rw[aK hb]at e;exact h4.sub _ _ (h3.sub _ _ (h2.sub _ _ (h1.sub _ _ e)))
theorem za4{n i:Nat}{w:W}(h:(eV 0 n)[i]? = some w):i<n/\w=.int (i:Nat):=by
 unfold eV at h;rw[Ax]at h;obtain⟨j,hj,rfl⟩:=Bb.mp h;obtain⟨h1,h2⟩:=Ak.mp hj;rw[List.getElem_range]at h2;rw[Cm]at h1;exact⟨h1,by rw[<-h2,Iq]⟩
theorem za5{lo:Int}{n:Nat}:(eV lo n).length=n:=by unfold eV;simp
theorem za6{C:Cc}{ws:List W}{M:Mm}{R:K3}(h:JC C ws M R):zaQ C (bQ R) (bY zaJ ws) M:=by
 obtain⟨G,E,V,L,S,rfl,hrs,hown,ev,ok,v,hL,hpl,hS,hb,r⟩:=h;refine xI rfl (xI rfl (λa dx ha hdx hne=>⟨M,a,dx,E.rs,E.stp,rfl,hrs,rfl,ha,λM1 A hA hs=>⟨rfl,?_⟩⟩));rw[<-hown]at hs;have hs:SR C E M M1 A gN:=hs;subst hA;have hil:(j3 G).length=G.rs.length*G.places.length:=yY G G.rs.length;obtain⟨N,hN⟩:∃N,N=G.rs.length:=⟨_,rfl⟩;have hNE:E.rs.length=N:=by rw[hN,ev.rs]
 refine xI rfl ⟨(N:Int),by rw[Aa,hNE],by lia,by lia,?_⟩;rw[Fj];have sm0:Sm gN ((j3 G).length+1):=⟨by show 0+_<_;lia,by show 0+_<_;lia⟩;refine d9 (λi τ M'=>∃o5 o6,τ=[some (bL E.rs),some (.rl (G.places.map W.int)),some (.dt E.stp),some (.rl ((Bp G.rs.length).map λn=>.int (G.wt n))),some (.ref A.s),o5,o6]/\SR C E M M' A (eL (nJ G) (kL G i) gN)) ⟨_,xI rfl hs⟩ ?_ ?_
 .rintro i w τ M2 hw ⟨o5,o6,rfl,hs2⟩ D1 hD1;obtain⟨hi,rfl⟩:=za4 hw;have hmul:(i+1)*G.places.length<=N*G.places.length:=Gy _ hi;rw[<-hN]at hil;refine xI rfl (fU (d9 (λj τ M'=>∃o6,τ=[some (bL E.rs),some (.rl (G.places.map W.int)),some (.dt E.stp),some (.rl ((Bp G.rs.length).map λn=>.int (G.wt n))),some (.ref A.s),some (.int i),o6]/\SR C E M M' A (eL (nJ G) ((G.places.map λp=>(i,p)).take j) (eL (nJ G) (kL G i) gN))) (xI rfl hs2) ?_ ?_))
  .rintro j w τ M3 hw ⟨o6,rfl,hs3⟩ D2 hD2;rw[Ax]at hw;obtain⟨pl,hpl',rfl⟩:=Bb.mp hw;have hj:=(Ak.mp hpl').1;have hx:(G.places.map λp=>(i,p))[j]? = some (i,pl):=by rw[Ax,hpl'];rfl
   have hwt:cX ((Bp G.rs.length).map λn=>W.int (G.wt n)) (i:Int)=some (.int (G.wt i)):=kA (by rw[Ax,List.getElem?_range (by lia)];rfl);have smj:Sm (eL (nJ G) ((G.places.map λp=>(i,p)).take j) (eL (nJ G) (kL G i) gN)) 1:=by
    refine oV (oV (sm0.le ?_));rw[yY,Ce,Aa,hil,Im]at *;lia
   refine xI rfl ⟨A.s,A.d,xI rfl ⟨hs3.os,tS,xI rfl (xI rfl ⟨z1,xI rfl (xI rfl ⟨_,hwt,z2,E,M,A,_,i,[pl],(G.wt i,1),none,rfl,hs3,by simp,smj,λM4 hs4=>hD2 _ _ (xI rfl ?_)⟩)⟩)⟩⟩;rw[tU hx];exact hs4
  .rintro τ M3 ⟨o6,rfl,hs3⟩;refine hD1 _ _ ⟨_,xI rfl ?_⟩;rw[za2,za3];rw[Aa,Hh (by rw[Aa];exact Ag _)]at hs3;exact hs3
 .rintro τ M2 ⟨o5,o6,rfl,hs2⟩;rw[za5]at hs2;have hst:eL (nJ G) (kL G N) gN=kJ G:=by rw[hN];rfl
  rw[hst]at hs2;have ln0:Ln (kJ G) 0:=by
   obtain⟨a1,a2,a3⟩:=qZ (f:=nJ G) (xs:=kL G N) (st:=gN);rw[hst]at a1 a2 a3;exact⟨by rw[a3];exact Ag _,by rw[a1];exact Ag _,by rw[a2];exact Ag _⟩
  obtain⟨Bm,hBm⟩:∃Bm,Bm=(j3 G).length+G.rs.length*((L+1)*(V.length*V.length))*(S+V.length):=⟨_,rfl⟩;refine xZ (λm τ M'=>∃st P cur T o5 o6,τ=[some (bL E.rs),some (.rl (G.places.map W.int)),some (.dt E.stp),some (.rl ((Bp G.rs.length).map λn=>.int (G.wt n))),some (.ref A.s),o5,o6]/\SR C E M M' A st/\All G S (j3 G).length st P cur T/\Ln st T/\m=Bm-T/\st=yU G T) ⟨_,_,_,_,_,_,xI rfl ⟨hs2,YC ok S,ln0,rfl,rfl⟩⟩ ?_;rintro m τ M3 ⟨st,P,cur,T,o5,o6,rfl,hs3,A3,ln3,rfl,hst3⟩ D3 hD3;obtain⟨M4,hQ,back⟩:=hs3.que;refine xI rfl ⟨A.s,A.d,_,xI rfl ⟨hs3.os,yO,A.Q.o,A.Q.d,xI rfl ⟨hQ.ob,Y7,M4,A.Q,st.q,rfl,hQ,bW (b:=!decide (st.q=[])) (λh=>?_) λh=>?_⟩⟩⟩
  .have hq:¬st.q=[]:=of_decide_eq_false (by rw[<-Jr (decide _),h];rfl);have rm:=za1 v hL A3 hS ln3 hb;obtain⟨_,_,f3⟩:=HF v A3;rw[<-hBm]at f3;have hpos:=El.mpr hq;have hql:=yK hs3.fall;obtain⟨P',cur',A4⟩:=YB ok A3 hS hq;exact xI rfl ⟨A.s,A.d,xI rfl ⟨hs3.os,Z8,G,E,M,A,st,rfl,hs3,ev,hq,rm,λM5 hs5=>hD3 _ _ _ (by lia:Bm-(T+1)<Bm-T) ⟨_,P',cur',T+1,_,xI rfl ⟨hs5,A4,ln3.next,rfl,congrArg (lG G) hst3⟩⟩⟩⟩
  .have hq:st.q=[]:=of_decide_eq_true (by rw[<-Jr (decide _),h];rfl);obtain⟨y1,y2⟩:=hs3.told;exact xI rfl ⟨A.s,A.d,_,xI rfl ⟨hs3.os,yP,_,y2,r st.best ⟨S,_,st,P,cur,T,A3,hq,rfl,hst3⟩ A.b y1⟩⟩
end Rg
namespace L2
open PySem Spec PyProof.Rows
section
variable {X:Cx}{pins:List (Addr×Obj)}{Z:St}{H:Hp}{s:Aj}{a:Addr}{u:HO}
def IsDict(u:HO):Prop:=(∃ks,u=.dK ks)\/∃ks,u=.dT ks
theorem Inv.frzD(I:Inv X pins Z H s)(e:H a=some u)(hd:IsDict u):∃o,Inv X pins Z (aQ H a (.frz o u)) s:=by
 obtain⟨o,ho⟩:∃o,s.heap.get? a=some o:=by
  have:=I.hok a u e;rcases hd with⟨ks,rfl⟩|⟨ks,rfl⟩
  .obtain⟨_,_,_,_,o,_,_,e,_⟩:=this;exact⟨o,e⟩
  .obtain⟨_,_,_,_,o,_,_,e,_⟩:=this;exact⟨o,e⟩
 refine⟨o,?_⟩;have ne:∀{b:Addr} {v:HO},H b=some v->v≠u->b≠a:=λ{b v} e1 h z=>by subst z;rw[e]at e1;exact h (Cj e1).symm
 have nn:∀{b:Addr},H b=none->b≠a:=λ{b} e1 z=>by subst z;rw[e]at e1;cases e1
 have kt:∀b xs,H b=some (.tup xs)->aQ H a (.frz o u) b=some (.tup xs):=λb xs eb=>by
  rw[bI (ne eb (λz=>by rcases hd with⟨ks,rfl⟩|⟨ks,rfl⟩<;>cases z))];exact eb
 have ko:∀b y,H b=some (.own y)->aQ H a (.frz o u) b=some (.own y):=λb y eb=>by
  rw[bI (ne eb (λz=>by rcases hd with⟨ks,rfl⟩|⟨ks,rfl⟩<;>cases z))];exact eb
 refine I.step (h':=s.heap) (g':=s.gens) (d':=s.drawn) (t':=s.toks) (ch:=[]) (λ_ z=>nomatch z) (λb o _ _ _ e1 _=>e1) (λb o _ _ _ e1 _=>⟨o.slots,e1⟩) (λb o _ _ n=>by rw[bI (nn n)];exact n) (λb o _ e1=>⟨o,e1⟩) kt
  (λb ob v eb=>?_) (λb ps eb=>⟨#[],?_⟩) (λm hm=>hm) (λb v eb=>?_) I.bare
 .rw[bI (ne eb (λz=>by rcases hd with⟨ks,rfl⟩|⟨ks,rfl⟩<;>cases z))];exact eb
 .rw[bI (ne eb (λz=>by rcases hd with⟨ks,rfl⟩|⟨ks,rfl⟩<;>cases z)),eb];simp
 .by_cases hb:b=a
  .subst hb;rw[cU]at eb;cases eb;exact⟨ho,(I.hok b u e).stay (λ_ _ _ q=>q) (λc q=>ko c b q) kt⟩
  .rw[bI hb]at eb;exact(I.hok b v eb).stay (λ_ _ _ q=>q) (λc q=>ko c b q) kt
def za7(Q:VK):VK:=λv H=>∃a u,v=.ref a/\H a=some u/\IsDict u/\∀o,Q v (aQ H a (.frz o u))
theorem JH{e:Expr}{t:TE}(h:PE X e t):PE X e (λZ H Q=>t Z H (za7 Q)):=λpins s Z H Q I q=>
 a8 (h pins s Z H _ I q) λv s1 ⟨x,H1,I1,r1,a,u,e1,e2,e3,q1⟩=>by
  obtain⟨o,I2⟩:=I1.frzD e2 e3;exact⟨x,_,I2,r1,q1 o⟩
def tW(a:Addr)(o:Obj)(u:HO)(xs:List V):It:=
 ⟨λi H=>H a=some (.frz o u)/\i<xs.length,λi H x H'=>H'=H/\xs[i]? = some x,λi H=>H a=some (.frz o u)/\xs.length<=i⟩
theorem JI{P:Ca}{w:Ct}{K:Ab}{tg:Expr}(a it:Addr)(o:Obj)(u:HO)(xs:List V)(es:Array Fn)(ep:Nat)(hd:o.data=.dict es ep)(hn:es.size=xs.length)(hx:∀(i:Nat) (e:Fn),es[i]? = some e->∃x,xs[i]? = some x/\RelV x e.key):
  jL P w K tg (tW a o u xs) [it] it (λi h=>h.IsKeyIter it a i es.size ep) where
 mem:=by simp
 obj:=λi h st b hb=>by
  have e:b=it:=by simpa using hb
  subst e;obtain⟨o,e,c,d⟩:=st;exact⟨o,e,λv z=>by rw[d]at z;cases z⟩
 keep:=λi h h' st k=>st.at λo e=>k it (by simp) o e
 item:=by
  intro X hP hw hK hc i pins s Z H E I hf st hg;subst hP hw hK;obtain⟨e1,hi⟩:=hg;have ho:s.heap.get? a=some o:=(show b8 X.prog X.w H s.heap a (.frz o u) from I.hok a _ e1).1;have hi2:i<es.size:=by lia
  obtain⟨x,hx1,rx⟩:=hx i es[i] (by simp[hi2]);obtain⟨f0,f1,f2,f3,f4,f5⟩:=hf it (by simp);refine E6 st ho hd hi2 λh' st' sb=>?_;have I1:Inv X pins Z H {s with heap:=h'}:=I.turned (t':=s.toks) (λb o hb e=>(sb.2 b hb).trans e) f0 f1 f3 f4 f5;obtain⟨o',e,c,d⟩:=id st';exact⟨_,rfl,pK (s:={s with heap:=h'}) e c d (by decide) ⟨x,H,I1,rx,⟨rfl,hx1⟩,st',λb hb=>(hf b hb).1⟩⟩
 done:=by
  intro X hP hw hK hc i pins s Z H E I hf st hg;subst hP hw hK;obtain⟨e1,hi⟩:=hg;have ho:s.heap.get? a=some o:=(show b8 X.prog X.w H s.heap a (.frz o u) from I.hok a _ e1).1;refine E7 (I.ok.hd hc) st ho hd (by lia) λh' hk=>⟨rfl,?_⟩
  exact I.turnedT (tk:=s.toks) hf λq o hq eq=>hk q o (λz=>hq (by simp[z])) eq
 self:=λ_ _ _ _ _ st h=>wpAny_pyIter_keyiter st h
end
end L2
namespace L3
open PySem Spec PyProof.Rows L2
section
variable {X:Cx}{e:Expr}{te:aY}
def rA(t:aY):aY:=λτ M R=>t τ M λw M'=>∃p,w=.ref p/\((∃kvs,M' p=some (.dK kvs)/\R (.fk kvs) (del M' p))\/∃kvs,M' p=some (.dT kvs)/\R (.ft kvs) (del M' p))
theorem tX{K:Ab}{H:Hp}{M:Mm}{p:Addr}{o:Obj}{u:HO}{x:MO}(am:AM K H M)(e:M p=some x)(hd:IsDict u)(hu:H p=some u):Go H M (aQ H p (.frz o u)) (del M p)/\AM K (aQ H p (.frz o u)) (del M p)/\Kp H M (aQ H p (.frz o u)) (del M p):=by
 have nn:∀{b:Addr},M b=none->b≠p:=λ{b} h z=>by subst z;rw[e]at h;cases h
 have go:Go H M (aQ H p (.frz o u)) (del M p):=by
  refine⟨λb xs eb=>?_,λb ob v eb=>?_,λb v n eb=>?_⟩
  .rw[bI (nn (am.noTup eb))];exact eb
  .rw[bI (nn (am.noFrz eb))];exact eb
  .rw[bI (nn n),iU (nn n)];exact⟨eb,n⟩
 refine⟨go,λa o2 ea=>?_,λa v n ea=>?_,λa v ea=>?_⟩
 .have ne:a≠p:=λz=>by rw[z,mW]at ea;cases ea
  rw[iU ne]at ea;exact(am a o2 ea).go go (bI ne)
 .rw[bI (nn n),iU (nn n)];exact⟨ea,n⟩
 .by_cases ha:a=p
  .subst ha;exact⟨_,cU⟩
  .obtain⟨y,q⟩:=(am a v ea).has;exact⟨y,by rw[bI ha];exact q⟩
theorem tY(h:E3 X e te):E3 X e (rA te):=
 (JH h).weak λZ H Q z0=>z0.el λτ M R as am h k=>⟨τ,M,_,as,am,h,λv H' w M' k' am' av ⟨p,hw,r⟩=>by
  subst hw;obtain rfl:=av.inv;rcases r with⟨kvs,e,r⟩|⟨kvs,e,r⟩
  .obtain⟨ks,f,q⟩:=am' _ _ e;refine⟨p,.dK ks,rfl,f,.inl ⟨_,rfl⟩,λo=>?_⟩;obtain⟨g,am2,k2⟩:=tX (o:=o) am' e (.inl ⟨_,rfl⟩) f;exact k _ _ _ _ (k'.trans k2) am2 (.fk cU q.keys (q.vals.go g)) r
  .obtain⟨ks,f,q⟩:=am' _ _ e;refine⟨p,.dT ks,rfl,f,.inr ⟨_,rfl⟩,λo=>?_⟩;obtain⟨g,am2,k2⟩:=tX (o:=o) am' e (.inr ⟨_,rfl⟩) f;exact k _ _ _ _ (k'.trans k2) am2 (.ft cU q.keys (q.vals.go g)) r⟩
def jI:W->Mm->(List W->(Mm->Prop)->Mm->Prop)->Prop
 | .fk kvs,M1,R=>R (kvs.map λp=>wK p.1) (λ_=>True) M1
 | .ft kvs,M1,R=>R (kvs.map λp=>.tup (p.1.map wK)) (λ_=>True) M1
 | _,_,_=>False
theorem JJ{K:Ab}{H0:Hp}{M0:Mm}{a:Addr}{o:Obj}{u:HO}{xs:List V}{ws:List W}(am0:AM K H0 M0)(e:H0 a=some (.frz o u))(q0:aL K H0 M0 xs ws):iM K H0 M0 (tW a o u xs) ws λ_=>True:=by
 have st:∀H M,Kp H0 M0 H M->H a=some (.frz o u):=λH M k=>(k.fr _ _ (am0.noFrz e) e).1;refine⟨λi H M k am _ hi=>⟨st H M k,by rw[q0.length];exact hi⟩,λH M k am _=>⟨st H M k,by rw[q0.length];exact Ag _⟩,λi H M x H' k am _ hi y=>?_⟩;obtain⟨rfl,y⟩:=y;obtain⟨w,hw,av⟩:=(q0.kp am0 k).getV y;exact⟨w,hw,Kp.refl am,am,av⟩
theorem JK{K:Ab}{H:Hp}{M:Mm}:∀k:aC,AV K H M (kV k) (wK k)
 | .inl i=>.int i
 | .inr x=>.str x
theorem za8{P:Ca}{w:Ct}{H:Hp}{h:Heap}{a:Addr}{ks:List (aC×V)}{o:Obj}(ok:cI P w H h)(e:H a=some (.frz o (.dK ks))):
  ∃es ep,i5 h a es ep/\o.data=.dict es ep/\(a==Fg)=false/\es.size=ks.length/\∀(i:Nat) (en:Fn),es[i]? = some en->∃p,ks[i]? = some p/\RelV (kV p.1) en.key/\RelV p.2 en.val:=by
 obtain⟨ho,hz,hne,vs,rkv,o2,es,ep,h1,h2,h3,h4,h5,h6⟩:=(show b8 P w H h a (.frz o (.dK ks)) from ok a _ e);rw[ho]at h1;cases h1;have l1:=rkv.length;have l2:=h5.length;rw[Fx]at l2;refine⟨es,ep,⟨o,ho,h2,h3⟩,h3,hne,by lia,λi en hen=>?_⟩;have hi:=(Array.getElem?_eq_some_iff.mp hen).1;obtain⟨⟨k,x⟩,hv⟩:∃v,vs[i]? = some v:=⟨_,Bc (by lia)⟩;obtain⟨z1,z2⟩:=h5.get? (by rw[Em];exact hen) hv;have:∀{ks:List (aC×V)} {vs:List (aC×Ae)} {i:Nat},KV ks vs->vs[i]? = some (k,x)->∃v,ks[i]? = some (k,v)/\RelV v x:=by
  intro ks vs i r
  induction r generalizing i with
  | nil=>intro h;simp at h
  | @cons p q ps qs hq t ih=>
   intro h;cases i with
   | zero=>simp at h;subst h;obtain⟨p1,p2⟩:=p;cases hq.1;exact⟨p2,rfl,hq.2⟩
   | succ i=>rw[De]at h⊢;exact ih h
 obtain⟨v,q1,q2⟩:=this rkv hv;exact⟨(k,v),q1,sE z1,by rw[z2];exact q2⟩
theorem za9{P:Ca}{w:Ct}{H:Hp}{h:Heap}{a:Addr}{ks:List (List aC×V)}{o:Obj}(ok:cI P w H h)(e:H a=some (.frz o (.dT ks))):
  ∃es ep,i5 h a es ep/\o.data=.dict es ep/\(a==Fg)=false/\es.size=ks.length/\∃as:List Addr,as.length=ks.length/\(∀(i:Nat) (p:List aC×V) (b:Addr),ks[i]? = some p->as[i]? = some b->H b=some (.tup (p.1.map kV)))/\
   ∀(i:Nat) (en:Fn),es[i]? = some en->∃p b,ks[i]? = some p/\as[i]? = some b/\en.key=.ref b/\RelV p.2 en.val:=by
 obtain⟨ho,hz,hne,xs,rel,o2,es,ep,h1,h2,h3,h4,h5⟩:=(show b8 P w H h a (.frz o (.dT ks)) from ok a _ e);rw[ho]at h1;cases h1;have l1:=Kw h4;have l2:=Dr rel;refine⟨es,ep,⟨o,ho,h2,h3⟩,h3,hne,by lia,xs.map λx=>x.2.1,by rw[Aa];lia,λi p b hp hb=>?_,λi en hen=>?_⟩
 .rw[Ax]at hb;obtain⟨x,hx,rfl⟩:=Bb.mp hb;have:∀{ks:List (List aC×V)} {xs:List (List aC×Addr×Ae)} {i:Nat},Iv (λ(p:List aC×V) (q:List aC×Addr×Ae)=>p.1=q.1/\H q.2.1=some (.tup (p.1.map kV))/\RelV p.2 q.2.2) ks xs->ks[i]? = some p->xs[i]? = some x->H x.2.1=some (.tup (p.1.map kV)):=by
   intro ks xs i r
   induction r generalizing i with
   | nil=>intro h;simp at h
   | @cons p q ps qs hq t ih=>
    intro h g;cases i with
    | zero=>simp at h g;subst h;subst g;exact hq.2.1
    | succ i=>rw[De]at h g;exact ih h g
  exact this rel hp hx
 .rw[entry_at h4 i]at hen;obtain⟨x,hx,rfl⟩:=Bb.mp hen;have:∀{ks:List (List aC×V)} {xs:List (List aC×Addr×Ae)} {i:Nat},Iv (λ(p:List aC×V) (q:List aC×Addr×Ae)=>p.1=q.1/\H q.2.1=some (.tup (p.1.map kV))/\RelV p.2 q.2.2) ks xs->xs[i]? = some x->∃p,ks[i]? = some p/\RelV p.2 x.2.2:=by
   intro ks xs i r
   induction r generalizing i with
   | nil=>intro h;simp at h
   | @cons p q ps qs hq t ih=>
    intro h;cases i with
    | zero=>simp at h;subst h;exact⟨p,rfl,hq.2.2⟩
    | succ i=>rw[De]at h⊢;exact ih h
  obtain⟨p,q1,q2⟩:=this rel hx;exact⟨p,x.2.1,q1,by rw[Ax,hx];rfl,rfl,q2⟩
theorem zba{tg:Expr}:l0 X tg (sR X.K jI):=by
 rintro pins s Z H x u R' I r1 ⟨wx,M,R,ax,am,h,k⟩;cases ax<;>first|exact(show False from h).elim|skip
 case fk a o ks kvs e ke q=>
  cases (show u=Value.ref a from r1);obtain⟨es,ep,hr,hd,hne,hsz,hen⟩:=za8 I.hok e;have fp:∀b∈[s.heap.objs.size],gZ X pins H b:=λb hb=>by
   have e:b=s.heap.objs.size:=by simpa using hb
   subst e;exact I.fpOk (Ag _) (I.hok.fresh (Ag _))
  refine wJ hne hr ⟨s.heap.objs.size,[s.heap.objs.size],_,tW a o (.dK ks) (ks.map λp=>kV p.1),H,rfl,I.kept (t':=s.toks) λb o e=>Am _ e,JI a _ o _ _ es ep hd (by rw[Aa];exact hsz) (λi en he=>?_),⟨_,Be _ rfl,rfl,rfl⟩,fp,k _ _ _ _ _ (Kp.refl am) am (JJ am e ?_) h⟩
  .obtain⟨p,h1,h2,_⟩:=hen i en he;exact⟨kV p.1,by rw[Ax,h1];rfl,h2⟩
  .have hk:(ks.map λp=>kV p.1)=(ks.map Cu).map kV:=by rw[Bd];rfl
   have hw:(kvs.map λp=>wK p.1)=(kvs.map Cu).map wK:=by rw[Bd];rfl
   rw[hk,hw,ke];generalize kvs.map Cu=l
   induction l with
   | nil=>exact .nil
   | cons z l ih=>exact .cons (JK z) ih
 case ft a o ks kvs e ke q=>
  cases (show u=Value.ref a from r1);obtain⟨es,ep,hr,hd,hne,hsz,as,hl,hat,hen⟩:=za9 I.hok e;have fp:∀b∈[s.heap.objs.size],gZ X pins H b:=λb hb=>by
   have e:b=s.heap.objs.size:=by simpa using hb
   subst e;exact I.fpOk (Ag _) (I.hok.fresh (Ag _))
  refine wJ hne hr ⟨s.heap.objs.size,[s.heap.objs.size],_,tW a o (.dT ks) (as.map V.ref),H,rfl,I.kept (t':=s.toks) λb o e=>Am _ e,JI a _ o _ _ es ep hd (by rw[Aa];lia) (λi en he=>?_),⟨_,Be _ rfl,rfl,rfl⟩,fp,k _ _ _ _ _ (Kp.refl am) am (JJ am e ?_) h⟩
  .obtain⟨p,b,h1,h2,h3,_⟩:=hen i en he;exact⟨.ref b,by rw[Ax,h2];rfl,by rw[h3];rfl⟩
  .have hw:(kvs.map λp=>W.tup (p.1.map wK))=(ks.map Cu).map λz=>W.tup (z.map wK):=by rw[ke,Bd];rfl
   rw[hw];have:∀(ks:List (List aC×V)) (as:List Addr),as.length=ks.length->(∀(i:Nat) (p:List aC×V) (b:Addr),ks[i]? = some p->as[i]? = some b->H b=some (.tup (p.1.map kV)))->aL X.K H M (as.map V.ref) ((ks.map Cu).map λz=>W.tup (z.map wK)):=by
    intro ks
    induction ks with
    | nil=>intro as hl _;cases as with
     | nil=>exact .nil
     | cons b r=>simp at hl
    | cons p ks ih=>
     intro as hl hat;cases as with
     | nil=>simp at hl
     | cons b r=>
      refine .cons (.tup (hat 0 p b rfl rfl) (yF p.1)) (ih r (by simpa using hl) λi p b h1 h2=>hat (i+1) p b (by simpa using h1) (by simpa using h2))
   exact this ks as hl hat
theorem mF{tg l:Expr}{tl:aY}(hl:E3 X l tl):PI X tg l (gS X.K (cC jI tl)):=xE hl zba
end
end L3
namespace PySem
namespace Dt
open PyProof.Rows L2 PySem.Spec
open Zd (TK allH HQ yG)
section
variable {prog:Ca}{w:Ct}{A:Dg}{E:Ae->Aj->Prop}{s:Aj}
theorem call_pairs{l:Addr}{items:Array Ae}{c:Nat}{ps:List (List aC×Addr×Ae)}{Q:Ae->Aj->Prop}(hh:A.handled=none)(hu:A.units+2<Fo)(hx:s.heap.get? l=some {cls:=.type "list",data:=.seq items c})(hn:ps.length=items.size)(hz:items.size<=Ap)(hkeys:∀p∈ps,(TK prog w).is s.heap p.1 p.2.1)(hp:∀(j:Nat) (p:List aC×Addr×Ae),ps[j]? = some p->∃(a:Addr),items[j]? = some (.ref a)/\s.heap.IsTuple a #[.ref p.2.1,p.2.2])(h:∀h' tk,(∀b o,s.heap.get? b=some o->h'.get? b=some o)->h'.DictOfH (TK prog w) s.heap.objs.size (allH [] ps)->Q (.ref s.heap.objs.size) {s with heap:=h',toks:=tk}):
  Bo (Bw prog w) A (call (.type "dict") [.ref l]) Q E s:=by
 have lk:∀p∈ps,@LT.lt Nat _ p.2.1 s.heap.objs.size:=λp hp=>by
  obtain⟨o,items,n,e,_⟩:=hkeys p hp;exact Bi e
 refine Dp.callG (Dd:=λi h=>∃es,es=allH [] (ps.take i)/\h.DictOfH (TK prog w) s.heap.objs.size es/\es.length<=i/\∀e∈es,@LT.lt Nat _ e.2.1 s.heap.objs.size) hh hx ⟨[],rfl,Heap.DictOfH.new s.heap,Ag _,λ_ h=>nomatch h⟩ ?_ (λ{i t} hi hd ext=>?_) λh' tk e ⟨es,d1,d2,_⟩=>h h' tk e (by rw[<-hn,Cb]at d1;rw[<-d1];exact d2)
 .rintro i h h' ⟨es,he,⟨o,en,ep,ho,hc,hdd,hee,his,hnn⟩,hl,hes⟩ hm;exact⟨es,he,⟨o,en,ep,hm _ o (Ag _) ho,hc,hdd,hee,λx hx'=>yG (his x hx') λo' e=>hm _ o' (Gz (hes x hx')) e,hnn⟩,hl,hes⟩
 obtain⟨es,he,hd,hl,hes⟩:=hd;obtain⟨p,hpi⟩:∃p,ps[i]? = some p:=⟨_,Bc (by lia)⟩;have hpm:p∈ps:=Bl hpi;obtain⟨a,g1,g2⟩:=hp i p hpi;refine⟨a,_,p.2.2,g1,g2,λk=>wpAny_dictSet_heap (knd:=TK prog w) (Ff (A:=A.in1) (show(A.units+1)+1<Fo from hu)) (yG (hkeys p hpm) (ext _)) hd (λh2 d2 s2=>k h2 _ ⟨_,?_,d2,?_,λe he=>?_⟩ s2) (by lia)⟩
 .rw[he,Dp.take_at hpi];unfold allH;rw[Jp];rfl
 .have:=HQ es p.1 p.2.1 p.2.2;lia
 unfold Nk at he;split at he
 .obtain⟨e0,he0,rfl⟩:=Au.mp he;rw[show(putAt p.1 p.2.2 e0).2.1=e0.2.1 by unfold putAt;split<;>rfl];exact hes e0 he0
 .rcases Aw.mp he with q|q
  .exact hes e q
  .rw[An.mp q];exact lk p hpm
end
end Dt
end PySem
namespace L3
open PySem Spec PyProof.Rows L2
section
variable {X:Cx}
def oW(ps:List (List aC×W)):List W:=ps.map λp=>.tup [.tup (p.1.map wK),p.2]
theorem JL{pins:List (Addr×Obj)}{Z:L2.St}{H:Hp}{M:Mm}{s:Aj}(I:L2.Inv X pins Z H s):∀{ps:List (List aC×W)} {vs:List V} {its:List Ae},aL X.K H M vs (oW ps)->aW vs its->
  ∃(qs:List (List aC×Addr×V)) (rs:List (List aC×Addr×Ae)),bJ X.K H M (List aC) (qs.map λq=>(q.1,q.2.2)) ps/\(∀q∈qs,H q.2.1=some (.tup (q.1.map kV)))/\Iv (λ(q:List aC×Addr×V) (p:List aC×Addr×Ae)=>q.1=p.1/\q.2.1=p.2.1/\RelV q.2.2 p.2.2) qs rs/\rs.length=its.length/\
   (∀z∈rs,H z.2.1=some (.tup (z.1.map kV)))/\∀(j:Nat) (p:List aC×Addr×Ae),rs[j]? = some p->∃(a:Addr),its[j]? = some (.ref a)/\s.heap.IsTuple a #[.ref p.2.1,p.2.2]
 | [],_,_,.nil,.nil=>⟨[],[],.nil,(λq hq=>nomatch hq),.nil,rfl,(λq hq=>nomatch hq),λj p h=>by simp at h⟩
 | (k,w)::ps,_,_,.cons av avs,.cons rv rvs=>by
  obtain⟨qs,rs,h1,h2,h3,h4,h5,h6⟩:=JL I avs rvs;obtain⟨a,xs,ev,e,q⟩:=av.inv;rw[ev]at rv;obtain⟨u1,u2,ex,a1,a2⟩:=q.two;obtain⟨b,zs,eu,eb,qb⟩:=a1.inv;rw[qb.keys]at eb;obtain⟨its2,r2,pl,_⟩:=I.tuple (bU.of e);rw[ex,eu]at r2;obtain⟨y1,y2,ey,x1,x2⟩:=vals2 r2;rw[ey,show y1=.ref b from x1]at pl;refine⟨(k,b,u2)::qs,(k,b,y2)::rs,.cons ⟨rfl,a2⟩ h1,Ic.mpr ⟨eb,h2⟩,.cons ⟨rfl,rfl,x2⟩ h3,congrArg (· + 1) h4,Ic.mpr ⟨eb,h5⟩,λj p hj=>?_⟩;cases j with
  | zero=>rw[<-Cj hj];exact⟨a,congrArg some rv,pl⟩
  | succ j=>exact h6 j p hj
def JM:List W->Mm->K3->Prop
 | [.rl ws],M,R=>∃ps:List (List aC×W),ws=oW ps/\ws.length<=Ap/\jN (oP [] ps) M R
 | _,_,_=>False
theorem zbb(hc:X.calm=true)(hu:X.A.units+2<Fo):b7 X (.type "dict") (e8 X.K JM):=by
 rintro pins s Z H xs us Q I rs ⟨ws,M,R,am,axs,h,k⟩
 match ws,h with
 | [.rl ws],h=>
  obtain⟨v,rfl,av⟩:=axs.one;obtain⟨ps,rfl,hz,r⟩:=h;obtain⟨u,rfl,ru⟩:=vals1 rs;cases av with
  | rl f n q=>
   cases ru;obtain⟨z,its,c,rv,hl,e⟩:=I.lstM f;obtain⟨qs,rs',h1,h2,h3,h4,h5,h6⟩:=JL I q rv;have hz2:ps.length<=Ap:=by simpa [oW] using hz
   have hql:qs.length=ps.length:=by have:=Dr h1;rwa [Aa]at this
   refine Dt.call_pairs (items:=its.toArray) (ps:=rs') (I.ok.hd hc) hu e (by simpa using h4) (by rw[Bg];lia) (λp hp=>kD I.hok (h5 p hp)) (λj p hj=>by simpa using h6 j p hj) λh' tk hk dd=>?_;have hfr:=I.hok.fresh (Ag _);have len:=HR (qs.map λq=>(q.1,q.2.2)) [];rw[Aa]at len;have puts:∀{ps:List (List aC×W)} {qs:List (List aC×V)} {ks:List (List aC×V)} {kvs:List (List aC×W)},bJ X.K H M (List aC) qs ps->bJ X.K H M (List aC) ks kvs->bJ X.K H M (List aC) (nG ks qs) (oP kvs ps):=by
    intro ps qs ks kvs h
    induction h generalizing ks kvs with
    | nil=>intro h;exact h
    | @cons q p qs ps r t ih=>
     intro h;obtain⟨q1,q2⟩:=q;obtain⟨p1,p2⟩:=p;obtain⟨rfl,r2⟩:=r;exact ih (p6 h q1 r2)
   have g:=puts (ks:=[]) (kvs:=[]) h1 .nil;refine⟨.ref s.heap.objs.size,aQ H s.heap.objs.size (.dT (nG [] (qs.map λq=>(q.1,q.2.2)))),I.laid (o:=.dT (nG [] (qs.map λq=>(q.1,q.2.2)))) (t':=tk) hk (Ag _) ⟨by simp at len;lia,beq_eq_false_iff_ne.mpr (Co (Bs I.big)),_,(YW h3 h2 .nil).keeps λc ys ec=>?_,?_⟩,rfl,?_⟩
   .rw[bI (e7 ec hfr)];exact ec
   .obtain⟨o,en,ep,r1,r2,r3,r4,_,r5⟩:=dd;exact⟨o,en,ep,r1,r2,r3,r4,r5⟩
   .obtain⟨am2,k2⟩:=am.laid (o:=.dT (oP [] ps)) (u:=.dT (nG [] (qs.map λq=>(q.1,q.2.2)))) hfr ⟨_,cU,mX g.keys (g.vals.newL hfr)⟩;exact k _ _ _ _ k2 am2 (.ref _) (r _ (am.nonM hfr))
end
end L3
namespace L2
open PySem Spec PyProof.Rows PySem.W
def isStr:aC->Bool
 | .inl _=>false
 | .inr _=>true
theorem zbc{O J:Type}{f:O->J}{out m:List J}(h:out.Perm m):∀l:List O,m=l.map f->∃l':List O,l'.Perm l/\out=l'.map f:=by
 induction h with
 | nil=>intro l e;cases l with
  | nil=>exact⟨[],.nil,rfl⟩
  | cons _ _=>cases e
 | cons x _ ih=>intro l e;cases l with
  | nil=>cases e
  | cons y l=>
   obtain⟨e1,e2⟩:=Ms e;obtain⟨l',h1,h2⟩:=ih l e2;exact⟨y::l',h1.cons y,by rw[Ay,<-h2,<-e1]⟩
 | swap x y r=>
  intro l e
  match l,e with
  | a::b::l,e=>
   simp only[Ay,Dn]at e;obtain⟨e1,e2,e3⟩:=e;exact⟨b::a::l,List.Perm.swap a b l,by simp only[Ay,e1,e2,e3]⟩
 | trans _ _ ih1 ih2=>
  intro l e;obtain⟨l1,h1,h2⟩:=ih2 l e;obtain⟨l2,h3,h4⟩:=ih1 l1 h2;exact⟨l2,h3.trans h1,h4⟩
section
variable {X:Cx}
theorem zbd{P:Ca}{w:Ct}{H:Hp}{h:Heap}{a:Addr}{ks:List (List aC×V)}(ok:cI P w H h)(e:Rd H a (.dT ks)):
  ∃es ep,∃L:List (List aC×Addr),i5 h a es ep/\(a==Fg)=false/\es.size=L.length/\L.length<=Ap/\L.map Cu=ks.map Cu/\(∀(i:Nat) (en:Fn),es[i]? = some en->∃q,L[i]? = some q/\en.key=.ref q.2)/\∀q∈L,H q.2=some (.tup (q.1.map kV)):=by
 obtain⟨hz,hne,xs,rel,o,es,ep,h1,h2,h3,h4,h5⟩:=(show b8 P w H h a (.dT ks) from vX ok e);have l1:=Kw h4;have l2:=Dr rel;refine⟨es,ep,xs.map λx=>(x.1,x.2.1),⟨o,h1,h2,h3⟩,hne,by rw[Aa];lia,by rw[Aa];lia,?_,λi en hen=>?_,?_⟩
 .clear h4 h5 l1 l2 hz e
  induction rel with
  | nil=>rfl
  | cons hq t ih=>simp only[Ay]at ih⊢;rw[hq.1,ih]
 .rw[entry_at h4 i]at hen;obtain⟨x,hx,rfl⟩:=Bb.mp hen;exact⟨(x.1,x.2.1),by rw[Ax,hx];rfl,rfl⟩
 .clear h4 h5 l1 l2 hz e
  induction rel with
  | nil=>exact λq z=>nomatch z
  | cons hq t ih=>
   intro q hm;rw[Ay]at hm;rcases Bj.mp hm with rfl|hm
   .rw[<-hq.1];exact hq.2.1
   .exact ih q hm
end
end L2
namespace L3
open PySem Spec PyProof.Rows L2
section
variable {X:Cx}
def zbe(kvs:List (List aC×W)):W->Mm->Prop
 | .ref a,M=>M a=some (.dT kvs)
 | .dt k,_=>k=kvs
 | .ft k,_=>k=kvs
 | _,_=>False
end
end L3
namespace L2
open PySem Spec PyProof.Rows
section
variable {X:Cx}{a:Expr}{ta:TA}{p p2 pos pos2:Pos}
def zbf(ta:TA):TE:=λZ H Q=>ta Z H λvs H1=>∃n:Nat,vs=[.int n]/\n<=1000/\∀q,H1 q=none->Q (.ref q) (aQ H1 q (.lst ((Bp n).map λ(i:Nat)=>V.int i)))
theorem zbg(hc:X.calm=true)(hg:Gl X "list")(hm:X.mg "list" = none)(hg2:Gl X "range")(hm2:X.mg "range" = none)(ha:PA X [a] ta)(hs1:Br [.Call (.Name "range" p2) [a] [] pos2] X.env=[(false,eval (.Call (.Name "range" p2) [a] [] pos2) X.env)]:=by rfl)(hs2:Br [a] X.env=[(false,eval a X.env)]:=by rfl):
  PE X (.Call (.Name "list" p) [.Call (.Name "range" p2) [a] [] pos2] [] pos) (zbf ta):=by
 intro pins s Z H Q I h;refine Gq (kW I hg hm (by decide +kernel:Dc "list" = some (.type "list")) (Eb ?_ hs1 rfl));rw[hs1];refine Calls.spliced_cons (Gq (kW I hg2 hm2 (by decide +kernel:Dc "range" = some (.type "range")) (Eb (a8 (ha pos2 pins s Z H _ I h) λus s1 ⟨vs,H1,I1,r1,q1⟩=>?_) hs2 rfl)));obtain⟨n,rfl,hn,q⟩:=q1;obtain⟨u,rfl,ru⟩:=vals1 r1;obtain⟨t,rfl⟩:=ru;refine call_range_1 (Calls.spliced_nil ?_);have sz:Ie 0 (n:Int) 1=(n:Nat):=by rw[rangeSize_one];split<;>lia
 refine call_list_range (n:=n) (b:=(n:Int)) (I1.ok.hd hc) (IsRange.new _ _ _ _ _ _ _) (PySem.small_one (by decide) (by decide) (by lia) (by lia)) sz (by lia) λh' tk acc c hk hS hacc=>?_;have up:∀b o,s1.heap.get? b=some o->h'.get? b=some o:=λb o e=>hk b o (Am _ e);have ez:(s1.heap.push {cls:=.type "range",data:=.fields #[.int 0 0,.int (n:Int) t,.int 1 0]}).objs.size=s1.heap.objs.size+1:=Er _ _;refine⟨.ref _,_,I1.laid (o:=.lst ((Bp n).map λ(i:Nat)=>V.int i)) (t':=tk) up ?_ ⟨by simp[Mg];lia,acc.toList,c,?_,by rw[Kd];exact hS⟩,rfl,q _ (I1.hok.fresh ?_)⟩
 .first|exact Gz (Nat.lt_of_lt_of_eq (Hd _) (Er _ _).symm)|(rw[Er];exact Nat.le_succ _)
 .refine wF (by simp[hacc.1]) λj v hv=>?_;have hv':acc[j]? = some v:=by simpa using hv
  obtain⟨t',rfl⟩:=hacc.2 j v hv';have hj:j<n:=by have:=(Array.getElem?_eq_some_iff.mp hv').1;rw[hacc.1]at this;exact this
  refine⟨.int j,?_,t',by simp⟩;simp[hj]
 .first|exact Gz (Nat.lt_of_lt_of_eq (Hd _) (Er _ _).symm)|(rw[Er];exact Nat.le_succ _)
end
end L2
namespace L3
open PySem Spec PyProof.Rows L2
section
variable {X:Cx}{a:Expr}{ta:aY}
def JN(ta:aY):aY:=λτ M R=>ta τ M λw M1=>∃n:Nat,w=.int n/\n<=1000/\aZ ((Bp n).map λ(i:Nat)=>W.int i) M1 R
theorem zbh{p p2 pos pos2:Pos}(hg:Gl X "list")(hm:X.mg "list" = none)(hg2:Gl X "range")(hm2:X.mg "range" = none)(ha:E3 X a ta)(hc:X.calm=true:=by rfl)(hs1:Br [.Call (.Name "range" p2) [a] [] pos2] X.env=[(false,eval (.Call (.Name "range" p2) [a] [] pos2) X.env)]:=by rfl)(hs2:Br [a] X.env=[(false,eval a X.env)]:=by rfl):
  E3 X (.Call (.Name "list" p) [.Call (.Name "range" p2) [a] [] pos2] [] pos) (JN ta):=
 (zbg hc hg hm hg2 hm2 (aD ha aG (by rw[hs2];rfl)) hs1 hs2).weak λZ H Q z0=>z0.el λτ M R as am h k=>⟨τ,M,λws M1=>∃n:Nat,ws=[.int n]/\n<=1000/\aZ ((Bp n).map λ(i:Nat)=>W.int i) M1 R,as,am,(show aB ta aE τ M _ from(show ta τ M _ from by
  refine(id h:ta τ M _) |> λz=>?_
  exact Eq.mp (congrArg (ta τ M) (funext λw=>funext λM1=>propext ⟨λ⟨n,e,r⟩=>⟨n,by rw[e],r⟩,λ⟨n,e,r⟩=>⟨n,(Ms e).1,r⟩⟩)) z)),λvs H1 ws M1 k1 am1 ax ⟨n,e,hn,r⟩=>by
  subst e;obtain⟨v,rfl,av⟩:=ax.one;obtain rfl:=av.inv;refine⟨n,rfl,hn,λq hq=>iJ am1 (k.kp k1) hq ?_ r⟩;have:∀l:List Nat,aL X.K H1 M1 (l.map λ(i:Nat)=>V.int i) (l.map λ(i:Nat)=>W.int i):=by
   intro l
   induction l with
   | nil=>exact .nil
   | cons i r ih=>exact .cons (.int _) ih
  exact this _⟩
end
end L3
namespace Rg
open PySem Spec PyProof.Rows L2 L3
def mG(row:List Str)(t:Str)(p:Int):List (Int×Int):=if 0<=p/\row[p.toNat]? = some t then [(p+1,0)] else []
def iQ(rs:List aP)(row:List Str):Sr:=⟨rs,a7 rs,(Bp (row.length+1)).map λ(i:Nat)=>(i:Int),mG row,λ_=>0⟩
theorem tZ{row:List Str}{t:Str}{p e c:Int}:(e,c)∈mG row t p↔0<=p/\row[p.toNat]? = some t/\e=p+1/\c=0:=by
 unfold mG;split
 .rename_i h;simp[h]
 .rename_i h;simp only[List.not_mem_nil,false_iff];exact λz=>h ⟨z.1,z.2.1⟩
theorem yZ{n:Nat}{p:Int}:p∈((Bp (n+1)).map λ(i:Nat)=>(i:Int))↔0<=p/\p<=n:=by
 rw[Au];constructor
 .rintro⟨i,hi,rfl⟩;have:=Cv.mp hi;lia
 .intro h;exact⟨p.toNat,Cv.mpr (by lia),by lia⟩
theorem zbi{G:Sr}{B:bZ}(h:jH G B):(B.map (·.1)).Nodup:=by
 obtain⟨S,I0,st,P,cur,T,A,hq,rfl,_⟩:=h;have o:=A.ob.ord;generalize st.best=B at o;rw[Cz,Hu];refine Lf.mpr λi j hi hj hij e=>?_;have sp:B=B.take j++B[j]::B.drop (j+1):=by rw[<-Gn hj,Gi]
 have hn:=(o _ _ _ sp).2;have hm:B[i]∈B.take j:=by
  rw[List.mem_iff_getElem];exact⟨i,by rw[Ce];lia,by rw[List.getElem_take]⟩
 unfold aI at hn;rw[Option.map_eq_none_iff,List.find?_eq_none]at hn;have:=hn _ hm;rw[decide_eq_true_eq]at this;exact this e
theorem lI{l:List Int}{e:Int}{k:Nat}(h:k<l.length):(l++[e]).getD k 0=l.getD k 0:=by
 rw[Gg,Gg,Lh h]
theorem t5{l:List Int}{e:Int}:(l++[e]).getD l.length 0=e:=by
 rw[Gg,List.getElem?_concat_length];rfl
theorem getD_last{l:List Int}:l.getD (l.length-1) 0=l.getLastD 0:=by
 rw[Gg,Ip,List.getLast?_eq_getElem?]
abbrev En:=cT×aJ×Nat×List Int
structure t6(G:Sr)(pre:bZ)(e:En)(r:aP):Prop where
 no:aI pre e.1=none
 ru:G.rs[e.2.2.1]? = some r
 fa:e.1=(r.name,e.2.2.2.headD 0,e.2.2.2.getLastD 0)
 ln:r.parts.length+1<=e.2.2.2.length
 pn:∀k t,r.parts[k]? = some t->G.own t=true->(aI pre (t,e.2.2.2.getD k 0,e.2.2.2.getD (k+1) 0)).isSome=true
 pw:∀k t,r.parts[k]? = some t->G.own t=false->∃pr,(e.2.2.2.getD (k+1) 0,pr)∈G.steps t (e.2.2.2.getD k 0)
def zbj(G:Sr)(B:bZ):Prop:=∀pre e post,B=pre++e::post->∃r,t6 G pre e r
theorem zbk{G:Sr}{B:bZ}{n:Nat}{cut:List Int}{c:aJ}(g:GI G B n cut c):∀r,G.rs[n]? = some r->cut.length<=r.parts.length+1/\0<cut.length/\
  ∀k t,k+1<cut.length->r.parts[k]? = some t->(G.own t=true->(aI B (t,cut.getD k 0,cut.getD (k+1) 0)).isSome=true)/\(G.own t=false->∃pr,(cut.getD (k+1) 0,pr)∈G.steps t (cut.getD k 0)):=by
 induction g with
 | start h1 h2=>exact λr _=>⟨Nat.le_add_left _ _,Nat.zero_lt_one,λk t h=>by simp at h⟩
 | @word r' cut c part e pr g h1 h2 h3 h4 ih=>
  intro r hr;rw[h1]at hr;cases hr;obtain⟨i1,i2,i3⟩:=ih r' h1;have hl:=(Ak.mp h2).1;refine⟨by simp;lia,by simp,λk t hk ht=>?_⟩;rw[Ar,Bz]at hk
  by_cases z:k+1<cut.length
  .rw[lI (by lia),lI z];exact i3 k t z ht
  .obtain rfl:k=cut.length-1:=by lia
   rw[h2]at ht;cases ht;rw[lI (by lia),getD_last,show cut.length-1+1=cut.length by lia,t5];exact⟨λz=>(by rw[h3]at z;cases z),λ_=>⟨_,h4⟩⟩
 | @name r' cut c m part e k' g h1 h2 h3 h4 ih=>
  intro r hr;rw[h1]at hr;cases hr;obtain⟨i1,i2,i3⟩:=ih r' h1;have hl:=(Ak.mp h2).1;refine⟨by simp;lia,by simp,λk t hk ht=>?_⟩;rw[Ar,Bz]at hk
  by_cases z:k+1<cut.length
  .rw[lI (by lia),lI z];exact i3 k t z ht
  .obtain rfl:k=cut.length-1:=by lia
   rw[h2]at ht;cases ht;rw[lI (by lia),getD_last,show cut.length-1+1=cut.length by lia,t5];exact⟨λ_=>(by rw[h4];rfl),λz=>(by rw[h3]at z;cases z)⟩
theorem t7{U J:Type}[DecidableEq U](a b:List (U×J))(k:U):aI (a++b) k=(aI a k).or (aI b k):=by
 unfold aI;rw[List.find?_append,Option.map_or]
theorem zbl{G:Sr}{B:bZ}(h:jH G B):∀pre e post,B=pre++e::post->∃r,t6 G pre e r/\e.2.2.2.length=r.parts.length+1:=by
 obtain⟨S,I0,st,P,cur,T,A,hq,rfl,_⟩:=h;intro pre e post hb;obtain⟨g,hn⟩:=A.ob.ord pre e post hb;have hat:aI st.best e.1=some e.2:=by rw[hb,t7,hn,dG,if_pos rfl];rfl
 obtain⟨p1,p2,_⟩:=A.ob.bst e.1 e.2.1 e.2.2.1 e.2.2.2 hat;obtain⟨r,hr⟩:=g.rule;obtain⟨i1,i2,i3⟩:=zbk g r hr;rw[part_of hr]at p1;have p1:=List.getElem?_eq_none_iff.mp p1;have hl:e.2.2.2.length=r.parts.length+1:=by lia
 refine⟨r,⟨hn,hr,?_,Fv hl.symm,λk t ht=>(i3 k t ?_ ht).1,λk t ht=>(i3 k t ?_ ht).2⟩,hl⟩
 .rw[p2];unfold cQ c0;rw[hr]
 all_goals have:=(Ak.mp ht).1;lia
theorem zbm{G:Sr}{B:bZ}(h:jH G B):zbj G B:=λpre e post hb=>let ⟨r,E,_⟩:=zbl h pre e post hb;⟨r,E⟩
section
variable (G:Sr)(fw:Str->Int->Int->W)(fr:Nat->List W->W)
def t8(T:cT->W)(cut:List Int)(ps:List Str):List W:=ps.zipIdx.map λx=>if G.own x.1=true then T (x.1,cut.getD x.2 0,cut.getD (x.2+1) 0) else fw x.1 (cut.getD x.2 0) (cut.getD (x.2+1) 0)
def t9(n:Nat):List Str:=((G.rs[n]?).map aP.parts).getD []
def uA(T:List (cT×W))(e:En):cT×W:=(e.1,fr e.2.2.1 (t8 G fw (λf=>(aI T f).getD .non) e.2.2.2 (t9 G e.2.2.1)))
def stepT(T:List (cT×W))(e:En):List (cT×W):=T++[uA G fw fr T e]
def kM(B:bZ):List (cT×W):=B.foldl (stepT G fw fr) []
def uB(B:bZ)(f:cT):W:=(aI (kM G fw fr B) f).getD .non
end
section
variable {G:Sr}{fw:Str->Int->Int->W}{fr:Nat->List W->W}
theorem JO(B:bZ)(T:List (cT×W)):∃m,B.foldl (stepT G fw fr) T=T++m/\m.map Cu=B.map (·.1):=by
 induction B generalizing T with
 | nil=>exact⟨[],by simp,rfl⟩
 | cons e B ih=>
  obtain⟨m,h1,h2⟩:=ih (stepT G fw fr T e);refine⟨uA G fw fr T e::m,?_,congrArg (e.1::·) h2⟩;rw[Ex,h1,stepT,Dj];rfl
theorem nK{U J:Type}[DecidableEq U]{t:List (U×J)}{k:U}:(aI t k).isSome=true↔k∈t.map (·.1):=by
 rw[<-mC,Mb,Au];exact⟨λ⟨x,h,e⟩=>⟨x,h,of_decide_eq_true e⟩,λ⟨x,h,e⟩=>⟨x,h,decide_eq_true e⟩⟩
theorem zbn{B pre post:bZ}{e:En}{r:aP}(hb:B=pre++e::post)(E:t6 G pre e r):uB G fw fr B e.1=fr e.2.2.1 (t8 G fw (uB G fw fr B) e.2.2.2 r.parts):=by
 obtain⟨m0,a1,a2⟩:=JO (G:=G) (fw:=fw) (fr:=fr) pre [];rw[Ci]at a1;obtain⟨m,h1,h2⟩:=JO (G:=G) (fw:=fw) (fr:=fr) post (stepT G fw fr (kM G fw fr pre) e);have ht:kM G fw fr B=kM G fw fr pre++(uA G fw fr (kM G fw fr pre) e::m):=by
  unfold kM at h1⊢;rw[hb,Jp,Ex,h1,stepT,Dj];rfl
 have hk:(kM G fw fr pre).map Cu=pre.map (·.1):=by unfold kM;rw[a1];exact a2
 have hn:aI (kM G fw fr pre) e.1=none:=by
  rw[<-Option.not_isSome_iff_eq_none,nK,hk,<-nK,E.no];exact Av
 have hp:t9 G e.2.2.1=r.parts:=by unfold t9;rw[E.ru];rfl
 unfold uB;rw[ht,t7,hn,dG,if_pos (show(uA G fw fr (kM G fw fr pre) e).1=e.1 from rfl)];show fr e.2.2.1 (t8 G fw _ e.2.2.2 (t9 G e.2.2.1))=_;rw[hp];refine congrArg _ (Cy λx hx=>?_);obtain⟨t,k⟩:=x;have hx:=Kh.mp hx
 by_cases ho:G.own t=true
 .rw[if_pos ho,if_pos ho];dsimp only;rw[t7];have hs:=E.pn k t hx ho;rw[nK,<-hk,<-nK]at hs;obtain⟨v,hv⟩:=Gv.mp hs;rw[hv];rfl
 .rw[if_neg ho,if_neg ho]
end
end Rg
namespace M47
open PySem Spec PyProof.Rows L2 L3 Rg
abbrev SI:=Str×Int×Int
inductive PP(S:Str->Int->Int->Int->List SI->Prop):List Str->Int->Int->Int->List SI->Prop
 | nil {b:Int}:PP S [] b b 0 []
 | cons {t:Str} {ts:List Str} {b m e u v:Int} {x y:List SI}:S t b m u x->PP S ts m e v y->PP S (t::ts) b e (u+v) (x++y)
theorem PP.snoc{S:Str->Int->Int->Int->List SI->Prop}{t:Str}{m e u:Int}{x:List SI}(h:S t m e u x):∀{ts:List Str} {b v:Int} {y:List SI},PP S ts b m v y->PP S (ts++[t]) b e (v+u) (y++x)
 | _,_,_,_,.nil=>by
  have:=PP.cons h (.nil (S:=S));rw[Int.add_zero,Cf]at this;rw[Iq];exact this
 | _,_,_,_,.cons h1 h2=>by
  rw[Int.add_assoc,Dj];exact .cons h1 (h2.snoc h)
theorem PP.imp{S S':Str->Int->Int->Int->List SI->Prop}(h:∀t b e v x,S t b e v x->S' t b e v x){ts:List Str}{b e v:Int}{y:List SI}(p:PP S ts b e v y):PP S' ts b e v y:=by
 induction p with
 | nil=>exact .nil
 | cons a _ ih=>exact .cons (h _ _ _ _ _ a) ih
def PS(G:Sr)(N:cT->Int->List SI->Prop)(t:Str)(b e v:Int)(x:List SI):Prop:=(G.own t=false/\(e,v)∈G.steps t b/\x=[(t,b,e)])\/(G.own t=true/\N (t,b,e) v x)
theorem PS.imp{G:Sr}{N N':cT->Int->List SI->Prop}(h:∀f v x,N f v x->N' f v x)(t:Str)(b e v:Int)(x:List SI)(p:PS G N t b e v x):PS G N' t b e v x:=Or.imp id (λq=>⟨q.1,h _ _ _ q.2⟩) p
def Cs(G:Sr)(f:cT)(v:Int):Prop:=∃n cut k,DI G n cut (v,k)/\dJ G n cut=none/\f=cQ G n cut
theorem uC{cut:List Int}{z:Int}(h:cut≠[]):(cut++[z]).headD 0=cut.headD 0/\(cut++[z]).getLastD 0=z/\(cut++[z]).length-1=(cut.length-1)+1:=by
 cases cut with
 | nil=>exact absurd rfl h
 | cons x cut=>exact⟨rfl,by rw[<-getD_last,Ar,Bz,Ld,t5],by simp⟩
theorem zbo{G:Sr}{n:Nat}{r:aP}(hr:G.rs[n]? = some r){ts:List Str}{b e v:Int}{y:List SI}(h:PP (PS G λf v _=>Cs G f v) ts b e v y):∀{cut:List Int} {c k:Int},DI G n cut (c,k)->cut.getLastD 0=b->r.parts.drop (cut.length-1)=ts->
  ∃cut' k',DI G n cut' (c+v,k')/\cut'.getLastD 0=e/\cut'.headD 0=cut.headD 0/\r.parts[cut'.length-1]? = none:=by
 induction h with
 | nil=>
  intro cut c k d hl hd;refine⟨cut,k,by rw[Int.add_zero];exact d,hl,rfl,?_⟩;rw[List.getElem?_eq_none_iff];exact List.drop_eq_nil_iff.mp hd
 | @cons t ts b m e u v x y hs _ ih=>
  intro cut c k d hl hd;have hp:r.parts[cut.length-1]? = some t:=by rw[<-Nat.add_zero (cut.length-1),<-List.getElem?_drop,hd];rfl
  have hd':r.parts.drop (cut.length-1+1)=ts:=by rw[<-List.drop_drop,hd];rfl
  rcases hs with⟨ho,hs,_⟩|⟨ho,n',cut',k',d',p',f'⟩
  .obtain⟨s1,s2,s3⟩:=uC (z:=m) d.ne;obtain⟨c2,k2,h1,h2,h3,h4⟩:=ih (cut:=cut++[m]) (c:=c+u) (k:=k) (DI.word d hr hp ho (by rw[hl];exact hs)) s2 (by rw[s3];exact hd');exact⟨c2,k2,by rw[<-Int.add_assoc];exact h1,h2,h3.trans s1,h4⟩
  .unfold cQ at f';simp only[Dx]at f';obtain⟨f1,f2,f3⟩:=f';obtain⟨s1,s2,s3⟩:=uC (z:=cut'.getLastD 0) d.ne;obtain⟨c2,k2,h1,h2,h3,h4⟩:=ih (cut:=cut++[cut'.getLastD 0]) (c:=c+u) (k:=k+k') (DI.name d hr hp ho d' p' f1.symm (by rw[hl,f2])) (by rw[s2,f3]) (by rw[s3];exact hd');exact⟨c2,k2,by rw[<-Int.add_assoc];exact h1,h2,h3.trans s1,h4⟩
theorem zbp{G:Sr}(hw:∀n,G.wt n=0){r:aP}(hr:r∈G.rs){b e v:Int}{y:List SI}(hb:b∈G.places)(h:PP (PS G λf v _=>Cs G f v) r.parts b e v y):Cs G (r.name,b,e) v:=by
 obtain⟨n,hn⟩:=List.getElem?_of_mem hr;obtain⟨cut,k,h1,h2,h3,h4⟩:=zbo hn h (DI.start hn hb) rfl rfl;rw[hw,Iq]at h1;refine⟨n,cut,k,h1,(part_of hn).trans h4,?_⟩;unfold cQ c0;rw[hn,h2,h3];rfl
theorem zbq{G:Sr}{B:bZ}(h:jH G B){f:cT}{v:Int}(c:Cs G f v):∃x,aI B f=some x/\x.1.1<=v:=by
 obtain⟨n,cut,k,d,p,rfl⟩:=c;obtain⟨_,_,st,_,_,_,A,hq,rfl,_⟩:=h;obtain⟨m,k',e,l⟩:=X4 A.inv A.ob A.ini hq d p;refine⟨_,e,?_⟩;unfold Le at l;simp only at l⊢;lia
def oX(yl:cT->List SI)(own:Str->Bool)(cut:List Int)(ps:List Str):List SI:=(ps.zipIdx.map λx=>if own x.1=true then yl (x.1,cut.getD x.2 0,cut.getD (x.2+1) 0) else [(x.1,cut.getD x.2 0,cut.getD (x.2+1) 0)]).flatten
theorem JP{yl:cT->List SI}{own:Str->Bool}{cut:List Int}{e:Int}{ps:List Str}{t:Str}(h:ps.length+1=cut.length):oX yl own (cut++[e]) (ps++[t])=oX yl own cut ps++if own t=true then yl (t,cut.getLastD 0,e) else [(t,cut.getLastD 0,e)]:=by
 unfold oX;rw[List.zipIdx_append,Bk,List.flatten_append];congr 1
 .congr 1;refine Cy λx hx=>?_;have:=(List.mem_zipIdx hx).2.1;rw[lI (by lia),lI (by lia)]
 .simp only[Ij,List.zipIdx_nil,Ay,Gw,Gx,List.flatten_nil,Cf,Il];rw[lI (by lia),show ps.length=cut.length-1 by lia,getD_last,show cut.length-1+1=cut.length by lia,t5]
theorem zbr{G:Sr}(hw:∀n,G.wt n=0){pre:bZ}(yl:cT->List SI){n:Nat}{cut:List Int}{c:aJ}(g:GI G pre n cut c):∃r,G.rs[n]? = some r/\cut.headD 0∈G.places/\cut.length<=r.parts.length+1/\
  PP (PS G λf v x=>(∃z,aI pre f=some z/\z.1.1=v)/\x=yl f) (r.parts.take (cut.length-1)) (cut.headD 0) (cut.getLastD 0) c.1 (oX yl G.own cut (r.parts.take (cut.length-1))):=by
 induction g with
 | @start r p hr hp=>exact⟨r,hr,hp,by simp,by rw[hw];exact .nil⟩
 | @word r cut c part e pr g hr hp ho hs ih=>
  obtain⟨r',hr',h1,h2,h3⟩:=ih;rw[hr']at hr;cases hr;obtain⟨s1,s2,s3⟩:=uC (z:=e) g.ne;have hl:=(Ak.mp hp).1;have hne:=El.mpr g.ne;refine⟨r,hr',by rw[s1];exact h1,by simp;lia,?_⟩;rw[s1,s2,s3,gE hp,JP (by rw[Ce];lia),if_neg (by rw[ho];exact Av)];exact h3.snoc (.inl ⟨ho,hs,rfl⟩)
 | @name r cut c m part e k g hr hp ho hb ih=>
  obtain⟨r',hr',h1,h2,h3⟩:=ih;rw[hr']at hr;cases hr;obtain⟨s1,s2,s3⟩:=uC (z:=e) g.ne;have hl:=(Ak.mp hp).1;have hne:=El.mpr g.ne;refine⟨r,hr',by rw[s1];exact h1,by simp;lia,?_⟩;rw[s1,s2,s3,gE hp,JP (by rw[Ce];lia),if_pos ho];exact h3.snoc (.inr ⟨ho,⟨_,hb,rfl⟩,rfl⟩)
def uD(x:SI):W:=.tup [.str x.1,.int x.2.1,.int x.2.2]
def y0:W->List SI
 | .rl l=>l.filterMap λw=>match w with|.tup [.str t,.int b,.int e]=>some (t,b,e)|_=>none
 | _=>[]
theorem JQ(l:List SI):y0 (.rl (l.map uD))=l:=by
 show(l.map uD).filterMap _=l;rw[Ku];exact List.filterMap_some
def yT(G:Sr)(B:bZ)(f:cT):List SI:=y0 (uB G (λt b e=>.rl [uD (t,b,e)]) (λ_ vs=>.rl ((vs.flatMap y0).map uD)) B f)
theorem zbs{G:Sr}{B pre post:bZ}{e:En}{r:aP}(hb:B=pre++e::post)(E:t6 G pre e r):yT G B e.1=oX (yT G B) G.own e.2.2.2 r.parts:=by
 unfold yT;rw[zbn hb E,JQ];unfold oX t8;rw[List.flatMap_def,Bd];congr 1;refine Cy λx _=>?_;simp only[Kv]
 by_cases h:G.own x.1=true
 .rw[if_pos h,if_pos h]
 .rw[if_neg h,if_neg h];exact JQ [(x.1,e.2.2.2.getD x.2 0,e.2.2.2.getD (x.2+1) 0)]
theorem zbt{G:Sr}(hw:∀n,G.wt n=0){B:bZ}(h:jH G B){pre:bZ}{e:En}{post:bZ}(hb:B=pre++e::post):∃r,G.rs[e.2.2.1]? = some r/\e.1.1=r.name/\e.1.2.1∈G.places/\
  PP (PS G λf v x=>(∃z,aI pre f=some z/\z.1.1=v)/\x=yT G B f) r.parts e.1.2.1 e.1.2.2 e.2.1.1 (yT G B e.1):=by
 obtain⟨r0,E⟩:=zbm h pre e post hb;obtain⟨S,I0,st,P,cur,T,A,hq,rfl,_⟩:=h;obtain⟨g,hn⟩:=A.ob.ord pre e post hb;obtain⟨r,hr,h1,h2,h3⟩:=zbr hw (yT G st.best) g;have:=E.ru;rw[hr]at this;cases this;have hl:=E.ln;rw[Hh (by lia),<-zbs hb E]at h3;have hf:=E.fa;refine⟨_,hr,by rw[hf],by rw[hf];exact h1,?_⟩;rw[<-show e.1.2.1=e.2.2.2.headD 0 by rw[hf],<-show e.1.2.2=e.2.2.2.getLastD 0 by rw[hf]]at h3;exact h3
theorem zbu{B pre post:bZ}{e:En}(hb:B=pre++e::post){f:cT}{z:aJ×Nat×List Int}(h:aI pre f=some z):∃p q,pre=p++(f,z)::q/\B=p++(f,z)::(q++e::post):=by
 obtain⟨a,b,e1⟩:=qO h;exact⟨a,b,e1,by rw[hb,e1,Dj];rfl⟩
theorem JR{G:Sr}(hw:∀n,G.wt n=0){B:bZ}(h:jH G B)(Q:cT->Int->List SI->Prop)(hq:∀r∈G.rs,∀b∈G.places,∀e v y,PP (PS G Q) r.parts b e v y->Q (r.name,b,e) v y):∀(k:Nat) (pre:bZ) (e:En) (post:bZ),pre.length=k->B=pre++e::post->Q e.1 e.2.1.1 (yT G B e.1):=by
 intro k
 induction k using Kk with
 | ind k ih=>
  intro pre e post hk hb;obtain⟨r,hr,h1,h2,h3⟩:=zbt hw h hb;have:=hq r (Bl hr) _ h2 _ _ _ (h3.imp (PS.imp λf v x ⟨⟨z,z1,z2⟩,zx⟩=>by
   obtain⟨p,q,e1,e2⟩:=zbu hb z1;have:=ih p.length (by rw[<-hk,e1];simp) p (f,z) _ rfl e2;rw[z2]at this;rw[zx];exact this))
  rwa [<-h1]at this
end M47
namespace Rg
open PySem Spec PyProof.Rows L2 L3
section
variable {rs:List aP}{ws:List Str}
def JS(rs:List aP)(ws:List Str):Prop:=∀r∈rs,∀t∈r.parts,a7 rs t=false->t∈ws
variable {S I0 T:Nat}{st:SS}{P:List bT}{cur:aJ}
theorem zbv(rs:List aP):(namesOf rs).length<=rs.length:=by
 have:∀(qs:List aP) (acc:List Str),(nE acc qs).length<=acc.length+qs.length:=by
  intro qs
  induction qs with
  | nil=>intro acc;exact Ag _
  | cons r qs ih=>
   intro acc;have h1:=ih (cZ acc r.name);have h2:(cZ acc r.name).length<=acc.length+1:=by unfold cZ;split<;>simp
   show(nE (cZ acc r.name) qs).length<=_;rw[Az];lia
 have:=this rs [];rw[Mr,Il]at this;exact this
end
def mH(n:Nat):List Int:=(Bp (n+1)).map λ(i:Nat)=>(i:Int)
theorem zbw{n:Nat}{p:Int}:p∈mH n↔0<=p/\p<=n:=yZ
end Rg
namespace M47
open PySem Spec PyProof.Rows L2 L3 Rg
def f6:List Str:=["S","S_1","S_12","V","W","X","Y","Z"]
def gF:List Str:=["a","ab","b"]
def kN(t:Str):Bool:=decide (t∈f6)
structure oY(rs:List aP):Prop where
 ne:rs≠[]
 few:rs.length<=9
 nm:∀r∈rs,r.name∈f6
 pt:∀r∈rs,∀t∈r.parts,t∈f6\/t∈gF
 fp:∀r∈rs,r.parts.length<=3
 ow:∀r∈rs,∀t∈r.parts,a7 rs t=kN t
theorem y6{t:Str}(h:t∈f6\/t∈gF):lE t:=by
 have h1:∀t∈f6,lE t:=by unfold f6 lE;decide +kernel
 have h2:∀t∈gF,lE t:=by unfold gF lE;decide +kernel
 exact h.elim (h1 t) (h2 t)
end M47
namespace M74
open PySem Spec PyProof.Rows L2 L3 Rg
abbrev Nd:=Str×Nat
def pr(v:Nd->Nat):List Nd->Nat
 | []=>1
 | p::e=>v p*pr v e
def sm(v:Nd->Nat):List (List Nd)->Nat
 | []=>0
 | e::P=>pr v e+sm v P
def vk(P:Nd->List (List Nd)):Nat->Nd->Nat
 | 0,_=>0
 | k+1,x=>sm (vk P k) (P x)
section
variable {v w:Nd->Nat}
theorem rB{a b:List Nd}:pr v (a++b)=pr v a*pr v b:=by
 induction a with
 | nil=>exact(Nat.one_mul _).symm
 | cons p a ih=>show v p*pr v (a++b)=v p*pr v a*pr v b;rw[ih,Nat.mul_assoc]
theorem uE{e:List Nd}(h:∀p∈e,v p<=w p):pr v e<=pr w e:=by
 induction e with
 | nil=>exact Ag _
 | cons p e ih=>exact Eu (h p Ai) (ih λq hq=>h q (Af _ hq))
theorem iD{e:List Nd}:0<pr v e↔∀p∈e,0<v p:=by
 induction e with
 | nil=>
  constructor
  .intro _ p h;cases h
  .intro _;exact Nat.one_pos
 | cons p e ih=>
  show 0<v p*pr v e↔_;rw[Ic,<-ih];constructor
  .intro h;refine⟨?_,?_⟩
   .rcases Lc (v p) with z|z
    .rw[z,Js]at h;exact absurd h (Dz _)
    .exact z
   .rcases Lc (pr v e) with z|z
    .rw[z,Ko]at h;exact absurd h (Dz _)
    .exact z
  .exact λh=>Nat.mul_pos h.1 h.2
theorem uF{a b:List (List Nd)}:sm v (a++b)=sm v a+sm v b:=by
 induction a with
 | nil=>exact(Il _).symm
 | cons p a ih=>show pr v p+sm v (a++b)=pr v p+sm v a+sm v b;rw[ih,Nh]
theorem y7{P:List (List Nd)}(h:∀e∈P,∀p∈e,v p<=w p):sm v P<=sm w P:=by
 induction P with
 | nil=>exact Ag _
 | cons e P ih=>exact Nat.add_le_add (uE (h e Ai)) (ih λq hq=>h q (Af _ hq))
theorem uG{P:List (List Nd)}{e:List Nd}(h:e∈P):pr v e<=sm v P:=by
 obtain⟨a,b,rfl⟩:=Fc h;rw[uF];show _<=sm v a+(pr v e+sm v b);lia
theorem JT{a b:List (List Nd)}{e:List Nd}:sm v (a++e::b)=pr v e+sm v (a++b):=by
 rw[uF,uF];show sm v a+(pr v e+sm v b)=_;lia
theorem uH{P:List (List Nd)}(h:0<sm v P):∃e∈P,0<pr v e:=by
 induction P with
 | nil=>exact absurd h (Dz _)
 | cons e P ih=>
  by_cases z:0<pr v e
  .exact⟨e,Ai,z⟩
  .have h:0<pr v e+sm v P:=h;obtain⟨e',h1,h2⟩:=ih (by lia);exact⟨e',Af _ h1,h2⟩
theorem zbx{P:List (List Nd)}(h:sm v P≠sm w P):∃e∈P,pr v e≠pr w e:=by
 induction P with
 | nil=>exact absurd rfl h
 | cons e P ih=>
  by_cases z:pr v e=pr w e
  .have h:pr v e+sm v P≠pr w e+sm w P:=h;obtain⟨e',h1,h2⟩:=ih (by lia);exact⟨e',Af _ h1,h2⟩
  .exact⟨e,Ai,z⟩
theorem zby{e:List Nd}(h:pr v e≠pr w e):∃p∈e,v p≠w p:=by
 induction e with
 | nil=>exact absurd rfl h
 | cons p e ih=>
  by_cases z:v p=w p
  .have h:v p*pr v e≠w p*pr w e:=h;rw[z]at h;obtain⟨q,h1,h2⟩:=ih λe=>h (by rw[e]);exact⟨q,Af _ h1,h2⟩
  .exact⟨p,Ai,z⟩
end
section
variable {P:Nd->List (List Nd)}
theorem kO:∀k x,vk P k x<=vk P (k+1) x
 | 0,_=>Bf _
 | k+1,_=>y7 λ_ _ p _=>kO k p
theorem iE{k l:Nat}(h:k<=l)(x:Nd):vk P k x<=vk P l x:=by
 induction h with
 | refl=>exact Ag _
 | step _ ih=>exact Ah ih (kO _ _)
def pos(P:Nd->List (List Nd))(x:Nd):Prop:=∃k,0<vk P k x
def Ed(P:Nd->List (List Nd))(x y:Nd):Prop:=∃a b,a++y::b∈P x/\∀z∈a++b,pos P z
def Ub(P:Nd->List (List Nd))(x:Nd):Prop:=∀B,∃k,B<=vk P k x
theorem rC:∀{l:List Nd},(∀z∈l,pos P z)->∃K,∀k,K<=k->∀z∈l,0<vk P k z
 | [],_=>⟨0,λ_ _ _ h=>nomatch h⟩
 | z::l,h=>by
  obtain⟨K,hK⟩:=rC (l:=l) λy hy=>h y (Af _ hy);obtain⟨j,hj⟩:=h z Ai;refine⟨max K j,λk hk y hy=>?_⟩;rcases Bj.mp hy with rfl|hy
  .exact Bq hj (iE (by lia) _)
  .exact hK k (by lia) y hy
theorem y8{x y:Nd}(h:Ed P x y):∃K,∀k,K<=k->vk P k y<=vk P (k+1) x:=by
 obtain⟨a,b,hm,hp⟩:=h;obtain⟨K,hK⟩:=rC hp;refine⟨K,λk hk=>?_⟩;have h1:=uG (v:=vk P k) hm;rw[rB]at h1;have ha:0<pr (vk P k) a:=iD.mpr λz hz=>hK k hk z (Bh _ hz);have hb:0<pr (vk P k) b:=iD.mpr λz hz=>hK k hk z (Ba _ hz);refine Ah ?_ h1;show _<=pr (vk P k) a*(vk P k y*pr (vk P k) b);exact Ah (He _ hb) (Hn _ ha)
theorem JU{x y:Nd}(h:Ed P x y)(hy:pos P y):pos P x:=by
 obtain⟨K,hK⟩:=y8 h;obtain⟨j,hj⟩:=hy;exact⟨max K j+1,Bq hj (Ah (iE (by lia) _) (hK (max K j) (by lia)))⟩
theorem JV{x y:Nd}(h:Ed P x y)(hy:Ub P y):Ub P x:=λB=>by
 obtain⟨K,hK⟩:=y8 h;obtain⟨j,hj⟩:=hy B;exact⟨max K j+1,Ah hj (Ah (iE (by lia) _) (hK (max K j) (by lia)))⟩
def uI(P:Nd->List (List Nd))(x:Nd)(a:Nat):Prop:=∃K,∀k,K<=k->vk P k x=a
theorem JW{x:Nd}{B:Nat}(h:∀k,vk P k x<B):∃a,uI P x a:=by
 induction B with
 | zero=>exact absurd (h 0) (Nat.not_lt_zero _)
 | succ B ih=>
  by_cases z:∀k,vk P k x<B
  .exact ih z
  .obtain⟨K,hK⟩:=Hq.mp z;refine⟨B,K,λk hk=>?_⟩;have h1:=h k;have h2:=iE hk x (P:=P);lia
theorem JX(x:Nd):Ub P x\/∃a,uI P x a:=by
 by_cases z:Ub P x
 .exact .inl z
 .obtain⟨B,hB⟩:=Hq.mp z;refine .inr (JW (B:=B) λk=>?_);exact Nat.lt_of_not_le λhk=>hB ⟨k,hk⟩
theorem zbz{Q:Nat->Prop}:∀n,Q n->∃m,Q m/\∀j,Q j->m<=j:=λn=>by
 induction n using Kk with
 | ind n ih=>
  intro h
  by_cases z:∃j,Q j/\j<n
  .obtain⟨j,h1,h2⟩:=z;exact ih j h2 h1
  .exact⟨n,h,λj hj=>Nat.le_of_not_lt λl=>z ⟨j,hj,l⟩⟩
theorem JY{W:Nd->Prop}(hW:∀x,W x->pos P x/\∃y,W y/\Ed P x y){x:Nd}(hx:W x):Ub P x:=by
 rcases JX (P:=P) x with h|⟨a0,ha0⟩
 .exact h
 exfalso;obtain⟨a,⟨x1,w1,l1⟩,hmin⟩:=zbz (Q:=λa=>∃x,W x/\uI P x a) a0 ⟨x,hx,ha0⟩;have key:∀k,∀x,W x->uI P x a->vk P k x=0:=by
  intro k
  induction k with
  | zero=>exact λ_ _ _=>rfl
  | succ k ih=>
   intro x hx lx;obtain⟨px,y,hy,e⟩:=hW x hx;have lx0:=lx;obtain⟨K1,hK1⟩:=lx;obtain⟨K2,hK2⟩:=y8 e;have bd:∀k,vk P k y<a+1:=λk=>by
    have h1:=iE (P:=P) (show k<=max k (max K1 K2) by lia) y;have h2:=hK2 (max k (max K1 K2)) (by lia);have h3:=hK1 (max k (max K1 K2)+1) (by lia);lia
   obtain⟨b,lb⟩:=JW bd;have hab:=hmin b ⟨y,hy,lb⟩;have lb0:=lb;obtain⟨K3,hK3⟩:=lb;have hba:=bd K3;have e1:=hK3 K3 (Ag _);have eb:b=a:=by lia
   subst eb;obtain⟨p,q,hm,hp⟩:=e;obtain⟨K4,hK4⟩:=rC hp;obtain⟨m,hm'⟩:∃m,m=max (max k K1) (max K3 K4):=⟨_,rfl⟩;obtain⟨A,Bt,eP⟩:=Fc hm;have big:=hK1 (m+1) (by lia);have hv:∀j,vk P (j+1) x=pr (vk P j) p*(vk P j y*pr (vk P j) q)+sm (vk P j) (A++Bt):=λj=>by
    show sm (vk P j) (P x)=_;rw[eP,JT,rB];rfl
   rw[hv m,hK3 m (by lia)]at big;have ha:0<pr (vk P m) p:=iD.mpr λz hz=>hK4 m (by lia) z (Bh _ hz);have hb:0<pr (vk P m) q:=iD.mpr λz hz=>hK4 m (by lia) z (Ba _ hz);have g1:b<=pr (vk P m) p*(b*pr (vk P m) q):=Ah (He _ hb) (Hn _ ha);have hr:sm (vk P m) (A++Bt)=0:=by lia
   have hr2:=y7 (v:=vk P k) (w:=vk P m) (P:=A++Bt) λ_ _ z _=>iE (by lia) z;rw[hv k,ih y hy lb0,Js,Ko];lia
 obtain⟨⟨k,hk⟩,_⟩:=hW x1 w1;rw[key k x1 w1 l1]at hk;exact absurd hk (Dz _)
def Cl(P:Nd->List (List Nd))(L:List Nd):Prop:=∀x∈L,∀e∈P x,∀p∈e,p∈L
theorem y9{p q:Nd->Bool}:∀{L:List Nd},(∀x∈L,p x=true->q x=true)->(∃x∈L,q x=true/\p x=false)->(L.filter p).length+1<=(L.filter q).length
 | [],_,⟨_,h,_⟩=>nomatch h
 | y::L,h,hx=>by
  have hle:∀{L:List Nd},(∀x∈L,p x=true->q x=true)->(L.filter p).length<=(L.filter q).length:=λ{L} h=>by
   induction L with
   | nil=>exact Ag _
   | cons y L ih=>
    have:=ih λx hx=>h x (Af _ hx);rw[Bx,Bx]
    by_cases z:p y=true
    .rw[if_pos z,if_pos (h y Ai z),Az,Az];lia
    .rw[if_neg z];split
     .rw[Az];lia
     .exact this
  have h':∀x∈L,p x=true->q x=true:=λx hx=>h x (Af _ hx);rw[Bx,Bx];obtain⟨x,hx,h1,h2⟩:=hx;rcases Bj.mp hx with rfl|hx
  .rw[if_neg (by rw[h2];exact Av),if_pos h1,Az];exact Jy (hle h')
  .have:=y9 h' ⟨x,hx,h1,h2⟩
   by_cases z:p y=true
   .rw[if_pos z,if_pos (h y Ai z),Az,Az];lia
   .rw[if_neg z];split
    .rw[Az];lia
    .exact this
theorem JZ{L:List Nd}(cl:Cl P L){x:Nd}(hx:x∈L)(h:pos P x){k:Nat}(hk:L.length<=k):0<vk P k x:=by
 let stab:Nat->Prop:=λk=>∀x∈L,0<vk P (k+1) x->0<vk P k x
 have next:∀k,stab k->stab (k+1):=λk hs x hx h=>by
  obtain⟨e,he,h1⟩:=uH (show 0<sm (vk P (k+1)) (P x) from h);refine Bq ?_ (uG (v:=vk P k) he);exact iD.mpr λp hp=>hs p (cl x hx e he p hp) (iD.mp h1 p hp)
 have gr:∀k,stab k\/k<=(L.filter λx=>decide (0<vk P k x)).length:=by
  intro k
  induction k with
  | zero=>exact .inr (Bf _)
  | succ k ih=>
   rcases ih with h|h
   .exact .inl (next k h)
   .by_cases z:stab k
    .exact .inl (next k z)
    .right;obtain⟨x,z⟩:=Hq.mp z;obtain⟨hx,z⟩:=Je.mp z;obtain⟨z1,z2⟩:=Je.mp z;have:=y9 (L:=L) (p:=λx=>decide (0<vk P k x)) (q:=λx=>decide (0<vk P (k+1) x)) (λx _ h=>decide_eq_true (Bq (of_decide_eq_true h) (kO k x))) ⟨x,hx,decide_eq_true z1,decide_eq_false z2⟩;lia
 have s0:stab L.length:=by
  rcases gr L.length with h|h
  .exact h
  .intro x hx h1;refine Cr λh2=>?_;have:=y9 (L:=L) (p:=λx=>decide (0<vk P L.length x)) (q:=λx=>decide (0<vk P (L.length+1) x)) (λx _ h=>decide_eq_true (Bq (of_decide_eq_true h) (kO _ x))) ⟨x,hx,decide_eq_true h1,decide_eq_false h2⟩;have:=Ef (λx=>decide (0<vk P (L.length+1) x)) L;lia
 have sk:∀j,stab (L.length+j):=λj=>by
  induction j with
  | zero=>exact s0
  | succ j ih=>exact next _ ih
 obtain⟨j,hj⟩:=h;have down:∀i,0<vk P (L.length+i) x->0<vk P L.length x:=λi=>by
  induction i with
  | zero=>exact id
  | succ i ih=>exact λh=>ih (sk i x hx h)
 exact Bq (down j (Bq hj (iE (by lia) x))) (iE hk x)
def fE(E:Nd->Nd->Prop):Nat->Nd->Nd->Prop
 | 0,x,y=>x=y
 | j+1,x,y=>∃z,E x z/\fE E j z y
theorem zA{E:Nd->Nd->Prop}:∀{i j:Nat} {x y z:Nd},fE E i x y->fE E j y z->fE E (i+j) x z
 | 0,j,x,y,z,h,h'=>by cases h;rw[Il];exact h'
 | i+1,j,x,y,z,⟨u,h1,h2⟩,h'=>by
  rw[show i+1+j=(i+j)+1 by lia];exact⟨u,h1,zA h2 h'⟩
theorem zB{E:Nd->Nd->Prop}:∀{j:Nat} {x y:Nd},fE E j x y->∃vs:List Nd,vs.length=j+1/\vs[0]? = some x/\vs[j]? = some y/\∀i i' z w,i<=i'->vs[i]? = some z->vs[i']? = some w->fE E (i'-i) z w
 | 0,x,y,h=>by
  cases h;refine⟨[x],rfl,rfl,rfl,λi i' z w hi e1 e2=>?_⟩;have l1:=(Ak.mp e1).1;have l2:=(Ak.mp e2).1;have:i=0:=by simpa using l1
  have:i'=0:=by simpa using l2
  subst i;subst i';cases e1;cases e2;rfl
 | j+1,x,y,⟨u,h1,h2⟩=>by
  obtain⟨vs,l,e0,ej,hs⟩:=zB h2;refine⟨x::vs,by rw[Az,l],rfl,by rw[De];exact ej,λi i' z w hi e1 e2=>?_⟩;cases i with
  | zero=>
   cases e1;cases i' with
   | zero=>cases e2;rfl
   | succ i'=>
    rw[De]at e2;have:=hs 0 i' u w (Bf _) e0 e2;exact⟨u,h1,this⟩
  | succ i=>
   cases i' with
   | zero=>exact absurd hi (by lia)
   | succ i'=>
    rw[De]at e1 e2;rw[Nat.add_sub_add_right];exact hs i i' z w (by lia) e1 e2
theorem twice{vs L:List Nd}(hl:L.length<vs.length)(hs:∀z∈vs,z∈L):∃i i' z,i<i'/\i'<vs.length/\vs[i]? = some z/\vs[i']? = some z:=by
 refine Cr λh=>?_;have nd:vs.Nodup:=by
  rw[Cz];refine Lf.mpr λi j hi hj hij e=>h ⟨i,j,vs[j],hij,hj,?_,Bc hj⟩;rw[<-e];exact Bc hi
 have:=len_sub nd hs;lia
theorem J0{L:List Nd}(cl:Cl P L){x y:Nd}(hx:x∈L)(h:Ed P x y):y∈L:=by
 obtain⟨a,b,h1,_⟩:=h;exact cl x hx _ h1 y (Ba _ Ai)
theorem J1{L:List Nd}(cl:Cl P L):∀{j:Nat} {x y:Nd},x∈L->fE (Ed P) j x y->y∈L
 | 0,_,_,hx,h=>by cases h;exact hx
 | _+1,_,_,hx,⟨_,h1,h2⟩=>J1 cl (J0 cl hx h1) h2
theorem zC{j:Nat}{x y:Nd}(h:fE (Ed P) j x y)(hy:pos P y):pos P x:=by
 induction j generalizing x with
 | zero=>cases h;exact hy
 | succ j ih=>obtain⟨z,h1,h2⟩:=h;exact JU h1 (ih h2)
theorem J2{j:Nat}{x y:Nd}(h:fE (Ed P) j x y)(hy:Ub P y):Ub P x:=by
 induction j generalizing x with
 | zero=>cases h;exact hy
 | succ j ih=>obtain⟨z,h1,h2⟩:=h;exact JV h1 (ih h2)
theorem J3{c:Nat}{z:Nd}(h:fE (Ed P) (c+1) z z)(hp:pos P z):Ub P z:=by
 refine JY (W:=λw=>∃s,fE (Ed P) (s+1) w z) (λx ⟨s,hs⟩=>?_) ⟨c,h⟩;refine⟨zC hs hp,?_⟩;obtain⟨u,h1,h2⟩:=hs;exact⟨u,⟨s+c,by have:=zA h2 h;rw[<-Nh]at this;exact this⟩,h1⟩
theorem zbA{k:Nat}{x:Nd}(h:vk P (k+1) x≠vk P (k+2) x):∃y,Ed P x y/\vk P k y≠vk P (k+1) y:=by
 obtain⟨e,he,h1⟩:=zbx (show sm (vk P k) (P x)≠sm (vk P (k+1)) (P x) from h);obtain⟨y,hy,h2⟩:=zby h1;obtain⟨a,b,rfl⟩:=Fc hy;refine⟨y,⟨a,b,he,λz hz=>⟨k+1,?_⟩⟩,h2⟩;have h3:=uE (v:=vk P k) (w:=vk P (k+1)) (e:=a++y::b) λp _=>kO k p;have h4:0<pr (vk P (k+1)) (a++y::b):=by lia
 refine iD.mp h4 z ?_;rcases Aw.mp hz with hz|hz
 .exact Bh _ hz
 .exact Ba _ (Af _ hz)
theorem zE{k:Nat}:∀{j:Nat} {x:Nd},vk P (k+j) x≠vk P (k+j+1) x->∃y,fE (Ed P) j x y/\vk P k y≠vk P (k+1) y
 | 0,x,h=>⟨x,rfl,h⟩
 | j+1,x,h=>by
  obtain⟨z,h1,h2⟩:=zbA (k:=k+j) h;obtain⟨y,h3,h4⟩:=zE h2;exact⟨y,⟨z,h1,h3⟩,h4⟩
theorem zbB{L:List Nd}(cl:Cl P L){k:Nat}(hk:L.length<=k+1){x y:Nd}(hx:x∈L)(h:Ed P x y)(hg:vk P k y≠vk P (k+1) y):vk P (k+1) x≠vk P (k+2) x:=by
 obtain⟨a,b,hm,hp⟩:=h;obtain⟨A,Bt,eP⟩:=Fc hm;have hv:∀j,vk P (j+1) x=pr (vk P j) a*(vk P j y*pr (vk P j) b)+sm (vk P j) (A++Bt):=λj=>by
  show sm (vk P j) (P x)=_;rw[eP,JT,rB];rfl
 have inL:∀z∈a++b,z∈L:=λz hz=>cl x hx _ hm z ((Aw.mp hz).elim (Bh _) λq=>Ba _ (Af _ q));have ha:0<pr (vk P (k+1)) a:=iD.mpr λz hz=>JZ cl (inL z (Bh _ hz)) (hp z (Bh _ hz)) hk;have hb:0<pr (vk P (k+1)) b:=iD.mpr λz hz=>JZ cl (inL z (Ba _ hz)) (hp z (Ba _ hz)) hk;have ma:=uE (v:=vk P k) (w:=vk P (k+1)) (e:=a) λp _=>kO k p;have mb:=uE (v:=vk P k) (w:=vk P (k+1)) (e:=b) λp _=>kO k p;have ms:=y7 (v:=vk P k) (w:=vk P (k+1)) (P:=A++Bt) λ_ _ p _=>kO k p;have hy:vk P k y<vk P (k+1) y:=Lb (kO k y) hg;rw[hv k,hv (k+1)];have h1:pr (vk P k) a*(vk P k y*pr (vk P k) b)<=pr (vk P (k+1)) a*(vk P k y*pr (vk P (k+1)) b):=Eu ma (Nat.mul_le_mul_left _ mb);have h2:pr (vk P (k+1)) a*(vk P k y*pr (vk P (k+1)) b)<pr (vk P (k+1)) a*(vk P (k+1) y*pr (vk P (k+1)) b):=Nat.mul_lt_mul_of_pos_left (Nat.mul_lt_mul_of_pos_right hy hb) ha;lia
theorem J4{L:List Nd}(cl:Cl P L){k:Nat}(hk:L.length<=k+1):∀{j:Nat} {x y:Nd},x∈L->fE (Ed P) j x y->vk P k y≠vk P (k+1) y->vk P (k+j) x≠vk P (k+j+1) x
 | 0,x,y,hx,h,hg=>by cases h;exact hg
 | j+1,x,y,hx,⟨z,h1,h2⟩,hg=>zbB cl (k:=k+j) (by lia) hx h1 (J4 cl hk (J0 cl hx h1) h2 hg)
theorem J5{L:List Nd}(cl:Cl P L){j:Nat}{x y:Nd}(hx:x∈L)(h:fE (Ed P) j x y)(hj:L.length<j+1):∃i c z,fE (Ed P) i x z/\fE (Ed P) (c+1) z z/\i+c+1<=L.length/\fE (Ed P) (j-(i+c+1)) z y:=by
 obtain⟨vs,l,e0,ej,hs⟩:=zB h;have hin:∀z∈vs,z∈L:=λz hz=>by
  obtain⟨i,hi⟩:=List.mem_iff_getElem?.mp hz;have:=hs 0 i x z (Bf _) e0 hi;exact J1 cl hx this
 obtain⟨i,i',z,h1,h2,h3,h4⟩:=twice (vs:=vs.take (L.length+1)) (L:=L) (by rw[Ce];lia) λz hz=>hin z (Ke hz);rw[Ce]at h2;rw[List.getElem?_take_of_lt (by lia)]at h3 h4;refine⟨i,i'-i-1,z,hs 0 i x z (Bf _) e0 h3,?_,by lia,?_⟩
 .have:=hs i i' z z (by lia) h3 h4;rwa [show i'-i-1+1=i'-i by lia]
 .have:=hs i' j z y (by lia) h4 ej;rwa [show i+(i'-i-1)+1=i' by lia]
theorem zbC{L:List Nd}(cl:Cl P L){x:Nd}(hx:x∈L)(h:¬Ub P x){k:Nat}(hk:L.length<=k):vk P k x=vk P (k+1) x:=by
 refine Cr λhg=>h ?_;obtain⟨y,h1,h2⟩:=zE (k:=0) (j:=k) (x:=x) (by rw[Il];exact hg);have py:pos P y:=⟨1,by have h2:(0:Nat)≠vk P 1 y:=h2;lia⟩;obtain⟨i,c,z,h3,h4,_,h5⟩:=J5 cl hx h1 (by lia);exact J2 h3 (J3 h4 (zC h5 py))
theorem zbD{L:List Nd}(cl:Cl P L){x:Nd}(hx:x∈L)(h:¬Ub P x){k l:Nat}(hk:L.length<=k)(hl:k<=l):vk P l x=vk P k x:=by
 induction hl with
 | refl=>rfl
 | step hl ih=>rw[<-ih];exact(zbC cl hx h (Ah hk hl)).symm
theorem zbE{L:List Nd}(cl:Cl P L){x:Nd}(hx:x∈L)(h:Ub P x):vk P (L.length+1) x<vk P (L.length+1+(L.length+1)) x:=by
 refine Lb (iE (by lia) x) λhe=>?_;have no:∀j,1<=j->j<=L.length+1->vk P (L.length+j) x=vk P (L.length+j+1) x:=λj h1 h2=>by
  have a1:=iE (P:=P) (show L.length+1<=L.length+j by lia) x;have a2:=kO (P:=P) (L.length+j) x;have a3:=iE (P:=P) (show L.length+j+1<=L.length+1+(L.length+1) by lia) x;lia
 have nog:∀j,1<=j->∀y,fE (Ed P) j x y->vk P L.length y=vk P (L.length+1) y:=λj=>by
  induction j using Kk with
  | ind j ih=>
   intro h1 y hy
   by_cases hj:j<=L.length+1
   .refine Cr λhg=>?_;exact J4 cl (k:=L.length) (by lia) hx hy hg (no j h1 hj)
   .obtain⟨i,c,z,h3,_,h5,h6⟩:=J5 cl hx hy (by lia);exact ih (i+(j-(i+c+1))) (by lia) (by lia) y (zA h3 h6)
 have stay:∀j,vk P (L.length+1+j) x=vk P (L.length+1) x:=λj=>by
  induction j with
  | zero=>rfl
  | succ j ih=>
   rw[<-ih];refine Cr λhg=>?_;obtain⟨y,h1,h2⟩:=zE (k:=L.length) (j:=1+j) (x:=x) (by rw[<-Nh];exact λe=>hg e.symm);exact h2 (nog _ (by lia) y h1)
 obtain⟨k,hk⟩:=h (vk P (L.length+1) x+1);have:=iE (P:=P) (show k<=L.length+1+k by lia) x;rw[stay k]at this;lia
end
abbrev On:=Option Nat
def tO(a b:On):On:=if a=some 0\/b=some 0 then some 0 else match a,b with
 | some x,some y=>some (x*y)
 | _,_=>none
def aO:On->On->On
 | some x,some y=>some (x+y)
 | _,_=>none
def sO:List On->On
 | []=>some 0
 | a::l=>aO a (sO l)
def gP(c:Nd->On):List Nd->On
 | []=>some 1
 | p::e=>tO (c p) (gP c e)
def fF(c:Nd->On):List (List Nd)->On
 | []=>some 0
 | e::P=>aO (gP c e) (fF c P)
theorem uJ{a b:On}:tO a b=some 0↔a=some 0\/b=some 0:=by
 unfold tO
 by_cases h:a=some 0\/b=some 0
 .rw[if_pos h];exact⟨λ_=>h,λ_=>rfl⟩
 .rw[if_neg h];refine⟨λe=>?_,λz=>absurd z h⟩;cases a with
  | none=>cases e
  | some x=>
   cases b with
   | none=>cases e
   | some y=>
    have e:=Cj e;rcases Nat.mul_eq_zero.mp e with z|z
    .exact .inl (by rw[z])
    .exact .inr (by rw[z])
theorem mI(x y:Nat):tO (some x) (some y)=some (x*y):=by
 unfold tO
 by_cases h:some x=some 0\/some y=some 0
 .rw[if_pos h];rcases h with h|h
  .rw[Cj h,Js]
  .rw[Cj h,Ko]
 .rw[if_neg h]
theorem nL(b:On):tO (some 0) b=some 0:=uJ.mpr (.inl rfl)
theorem rD(a:On):tO a (some 0)=some 0:=uJ.mpr (.inr rfl)
theorem oZ{b:On}(h:b≠some 0):tO none b=none:=by
 unfold tO;rw[if_neg (λz=>z.elim (λe=>nomatch e) h)]
theorem o9{a:On}(h:a≠some 0):tO a none=none:=by
 unfold tO;rw[if_neg (λz=>z.elim h λe=>nomatch e)];cases a<;>rfl
theorem J6(b:On):tO (some 1) b=b:=by
 cases b with
 | none=>exact o9 (by decide)
 | some y=>rw[mI,Nat.one_mul]
theorem pA(a:On):aO a (some 0)=a:=by cases a<;>rfl
theorem rE(a:On):aO (some 0) a=a:=by
 cases a with
 | none=>rfl
 | some x=>exact congrArg some (Il x)
theorem J7(a b c:On):aO (aO a b) c=aO a (aO b c):=by
 cases a<;>cases b<;>cases c<;>first|rfl|exact congrArg some (Nh _ _ _)
theorem J8{a b:On}:aO a b=some 0↔a=some 0/\b=some 0:=by
 cases a with
 | none=>exact⟨(λh=>nomatch h),λh=>nomatch h.1⟩
 | some x=>
  cases b with
  | none=>exact⟨(λh=>nomatch h),λh=>nomatch h.2⟩
  | some y=>
   show some (x+y)=some 0↔_;simp
theorem zbF(a b c:On):tO a (aO b c)=aO (tO a b) (tO a c):=by
 by_cases ha:a=some 0
 .rw[ha,nL,nL,nL];rfl
 by_cases hb:b=some 0
 .rw[hb,rE,rD,rE]
 by_cases hc:c=some 0
 .rw[hc,pA,rD,pA]
 cases a with
 | none=>
  rw[oZ hb,oZ hc,oZ λz=>hb (J8.mp z).1];rfl
 | some x=>
  cases b with
  | none=>rw[show aO none c=none from rfl,o9 ha];rfl
  | some y=>
   cases c with
   | none=>rw[show aO (some y) none=none from rfl,o9 ha,show tO (some x) (some y)=_ from mI x y];rfl
   | some z=>rw[show aO (some y) (some z)=some (y+z) from rfl,mI,mI,mI,Nat.mul_add];rfl
theorem zF{a b:List On}:sO (a++b)=aO (sO a) (sO b):=by
 induction a with
 | nil=>exact(rE _).symm
 | cons x a ih=>show aO x (sO (a++b))=aO (aO x (sO a)) (sO b);rw[ih,J7]
theorem zbG{c:Nd->On}{a b:List (List Nd)}:fF c (a++b)=aO (fF c a) (fF c b):=by
 induction a with
 | nil=>exact(rE _).symm
 | cons x a ih=>show aO (gP c x) (fF c (a++b))=aO (aO (gP c x) (fF c a)) (fF c b);rw[ih,J7]
theorem J9{O:Type}{c:Nd->On}{f:O->List (List Nd)}(l:List O):fF c (l.flatMap f)=sO (l.map λx=>fF c (f x)):=by
 induction l with
 | nil=>rfl
 | cons x l ih=>rw[Jq,zbG,ih];rfl
theorem KA{O:Type}{v:Nd->Nat}{f:O->List (List Nd)}(l:List O):sm v (l.flatMap f)=(l.map λx=>sm v (f x)).sum:=by
 induction l with
 | nil=>rfl
 | cons x l ih=>rw[Jq,uF,ih];rfl
theorem zbH{c:Nd->On}{p:Nd}(l:List (List Nd)):fF c (l.map (p::·))=tO (c p) (fF c l):=by
 induction l with
 | nil=>exact(rD _).symm
 | cons e l ih=>
  show aO (tO (c p) (gP c e)) (fF c (l.map (p::·)))=tO (c p) (aO (gP c e) (fF c l));rw[ih,zbF]
theorem zbI{v:Nd->Nat}{p:Nd}(l:List (List Nd)):sm v (l.map (p::·))=v p*sm v l:=by
 induction l with
 | nil=>rfl
 | cons e l ih=>
  show v p*pr v e+sm v (l.map (p::·))=v p*(pr v e+sm v l);rw[ih,Nat.mul_add]
theorem uK{c:Nd->On}{e:List Nd}:gP c e=some 0↔∃p∈e,c p=some 0:=by
 induction e with
 | nil=>exact⟨(λh=>nomatch h),λ⟨_,h,_⟩=>nomatch h⟩
 | cons p e ih=>
  show tO (c p) (gP c e)=some 0↔_;rw[uJ,ih];constructor
  .rintro(h|⟨q,h1,h2⟩)
   .exact⟨p,Ai,h⟩
   .exact⟨q,Af _ h1,h2⟩
  .rintro⟨q,h1,h2⟩;rcases Bj.mp h1 with rfl|h1
   .exact .inl h2
   .exact .inr ⟨q,h1,h2⟩
theorem KC{c:Nd->On}{P:List (List Nd)}:fF c P=some 0↔∀e∈P,gP c e=some 0:=by
 induction P with
 | nil=>exact⟨(λ_ _ h=>nomatch h),λ_=>rfl⟩
 | cons e P ih=>
  show aO (gP c e) (fF c P)=some 0↔_;rw[J8,ih,Ic]
theorem zbJ{c d:Nd->On}{e:List Nd}(h:∀p∈e,c p=d p):gP c e=gP d e:=by
 induction e with
 | nil=>rfl
 | cons p e ih=>show tO (c p) _=tO (d p) _;rw[h p Ai,ih λq hq=>h q (Af _ hq)]
theorem zbK{c d:Nd->On}{P:List (List Nd)}(h:∀e∈P,gP c e=gP d e):fF c P=fF d P:=by
 induction P with
 | nil=>rfl
 | cons e P ih=>show aO (gP c e) _=aO (gP d e) _;rw[h e Ai,ih λq hq=>h q (Af _ hq)]
def Lq(f:Nat->Nat):On->Prop
 | some a=>∃K,∀k,K<=k->f k=a
 | none=>∀B,∃K,∀k,K<=k->B<=f k
theorem Lq.uniq{f:Nat->Nat}:∀{o o':On},Lq f o->Lq f o'->o=o'
 | some a,some b,⟨K,h⟩,⟨K',h'⟩=>by rw[<-h (max K K') (by lia),h' (max K K') (by lia)]
 | some a,none,⟨K,h⟩,h'=>by
  obtain⟨K',h'⟩:=h' (a+1);have h1:=h (max K K') (by lia);have h2:=h' (max K K') (by lia);lia
 | none,some b,h,⟨K',h'⟩=>by
  obtain⟨K,h⟩:=h (b+1);have h1:=h (max K K') (by lia);have h2:=h' (max K K') (by lia);lia
 | none,none,_,_=>rfl
theorem Lq.next{f:Nat->Nat}:∀{o:On},Lq f o->Lq (λk=>f (k+1)) o
 | some a,⟨K,h⟩=>⟨K,λk hk=>h (k+1) (by lia)⟩
 | none,h=>λB=>by
  obtain⟨K,h⟩:=h B;exact⟨K,λk hk=>h (k+1) (by lia)⟩
theorem Lq.pos{f:Nat->Nat}:∀{o:On},Lq f o->o≠some 0->∃K,∀k,K<=k->0<f k
 | some 0,_,hn=>absurd rfl hn
 | some (a+1),⟨K,h⟩,_=>⟨K,λk hk=>by rw[h k hk];exact Nat.succ_pos _⟩
 | none,h,_=>h 1
theorem Lq.mul{f g:Nat->Nat}{a b:On}(h1:Lq f a)(h2:Lq g b):Lq (λk=>f k*g k) (tO a b):=by
 by_cases ha:a=some 0
 .subst ha;rw[nL];obtain⟨K,h⟩:=h1;exact⟨K,λk hk=>by show f k*g k=0;rw[h k hk,Js]⟩
 by_cases hb:b=some 0
 .subst hb;rw[rD];obtain⟨K,h⟩:=h2;exact⟨K,λk hk=>by show f k*g k=0;rw[h k hk,Ko]⟩
 cases a with
 | none=>
  rw[oZ hb];intro B;obtain⟨K,hK⟩:=h1 B;obtain⟨K',hK'⟩:=h2.pos hb;exact⟨max K K',λk hk=>Ah (hK k (by lia)) (He _ (hK' k (by lia)))⟩
 | some x=>
  cases b with
  | none=>
   rw[o9 ha];intro B;obtain⟨K,hK⟩:=h2 B;obtain⟨K',hK'⟩:=Lq.pos h1 ha;exact⟨max K K',λk hk=>Ah (hK k (by lia)) (Hn _ (hK' k (by lia)))⟩
  | some y=>
   rw[mI];obtain⟨K,hK⟩:=h1;obtain⟨K',hK'⟩:=h2;exact⟨max K K',λk hk=>by show f k*g k=_;rw[hK k (by lia),hK' k (by lia)]⟩
theorem Lq.add{f g:Nat->Nat}:∀{a b:On},Lq f a->Lq g b->Lq (λk=>f k+g k) (aO a b)
 | some x,some y,⟨K,hK⟩,⟨K',hK'⟩=>⟨max K K',λk hk=>by show f k+g k=_;rw[hK k (by lia),hK' k (by lia)]⟩
 | none,b,h1,_=>by
  show Lq _ none;intro B;obtain⟨K,hK⟩:=h1 B;exact⟨K,λk hk=>Ah (hK k hk) (Nat.le_add_right _ _)⟩
 | some x,none,_,h2=>by
  show Lq _ none;intro B;obtain⟨K,hK⟩:=h2 B;exact⟨K,λk hk=>Ah (hK k hk) (Nat.le_add_left _ _)⟩
theorem Lq.pr{v:Nat->Nd->Nat}{c:Nd->On}:∀{e:List Nd},(∀p∈e,Lq (λk=>v k p) (c p))->Lq (λk=>M74.pr (v k) e) (gP c e)
 | [],_=>⟨0,λ_ _=>rfl⟩
 | p::e,h=>Lq.mul (h p Ai) (Lq.pr λq hq=>h q (Af _ hq))
theorem Lq.sm{v:Nat->Nd->Nat}{c:Nd->On}:∀{P:List (List Nd)},(∀e∈P,∀p∈e,Lq (λk=>v k p) (c p))->Lq (λk=>M74.sm (v k) P) (fF c P)
 | [],_=>⟨0,λ_ _=>rfl⟩
 | e::P,h=>Lq.add (Lq.pr (h e Ai)) (Lq.sm λq hq=>h q (Af _ hq))
section
variable {P:Nd->List (List Nd)}
theorem KD(P:Nd->List (List Nd))(x:Nd):∃o,Lq (λk=>vk P k x) o:=by
 rcases JX (P:=P) x with h|⟨a,h⟩
 .refine⟨none,λB=>?_⟩;obtain⟨K,hK⟩:=h B;exact⟨K,λk hk=>Ah hK (iE hk x)⟩
 .exact⟨some a,h⟩
def cM(P:Nd->List (List Nd))(x:Nd):On:=Classical.choose (KD P x)
theorem nM(P:Nd->List (List Nd))(x:Nd):Lq (λk=>vk P k x) (cM P x):=Classical.choose_spec (KD P x)
theorem zbL(x:Nd):fF (cM P) (P x)=cM P x:=
 (Lq.sm (v:=vk P) (c:=cM P) (P:=P x) λ_ _ p _=>nM P p).uniq (nM P x).next
theorem j6{x:Nd}:cM P x=some 0↔¬pos P x:=by
 constructor
 .rintro h ⟨k,hk⟩;obtain⟨K,hK⟩:=(show Lq _ (some 0) from h▸nM P x);have h1:=hK (max K k) (by lia);have h2:=iE (P:=P) (show k<=max K k by lia) x;have h1:vk P (max K k) x=0:=h1;lia
 .intro h;refine(nM P x).uniq ⟨0,λk _=>?_⟩;exact Mq λz=>h ⟨k,z⟩
theorem rF{x:Nd}:cM P x=none↔Ub P x:=by
 constructor
 .intro h B;obtain⟨K,hK⟩:=(show Lq _ none from h▸nM P x) B;exact⟨K,hK K (Ag _)⟩
 .intro h;refine(nM P x).uniq (o':=none) λB=>?_;obtain⟨K,hK⟩:=h B;exact⟨K,λk hk=>Ah hK (iE hk x)⟩
theorem uL{L:List Nd}(cl:Cl P L){x:Nd}(hx:x∈L){a:Nat}(h:cM P x=some a){k:Nat}(hk:L.length<=k):vk P k x=a:=by
 have hu:¬Ub P x:=λz=>by rw[rF.mpr z]at h;cases h
 obtain⟨K,hK⟩:=(show Lq _ (some a) from h▸nM P x);have h1:vk P (max K k) x=a:=hK (max K k) (by lia);rw[<-h1];exact(zbD cl hx hu hk (show k<=max K k by lia)).symm
end
end M74
namespace Rg
open PySem Spec PyProof.Rows L2 L3
def KG:bM:=λws M R=>∃rs:List aP,ws=[bL rs]/\rs.length<=100/\aZ (rs.map λ_=>W.int 0) M R
abbrev zbM:List Str:=["grammar"]
def zbN:aH:=
   (cL (eW (cC d8 (aA 0)) (bC 0) fY (vC (.int 0)) [none]))
theorem zbO{ws:List W}{M:Mm}{R:K3}(h:KG ws M R):zbN (bQ R) (bY zbM ws) M:=by
 obtain⟨rs,rfl,hl,r⟩:=h;refine⟨_,rfl,fU (jZ (rest:=[]) (λ_=>.int 0) (small (by rw[Aa];lia)) (λ_ _=>trivial) (λw hw M' C sb h1=>h1) ?_)⟩
 .intro p hp;refine⟨_,Sub.refl _,?_⟩;have e:(rs.map eX).map (λ_=>W.int 0)=rs.map λ_=>W.int 0:=by rw[Bd];rfl
  rw[e];exact r p hp
end Rg
namespace L3
open PySem Spec PyProof.Rows L2
section
variable {X:Cx}{tg a b c:Expr}
def KH:List W->Mm->K3->Prop
 | [.bl b],M,R=>R (.int (if b then 1 else 0)) M
 | _,_,_=>False
theorem zbP:b7 X (.type "int") (e8 X.K KH):=by
 rintro pins s Z H xs us Q I rs ⟨ws,M,R,am,axs,h,k⟩
 match ws,h with
 | [.bl b],h=>
  obtain⟨v,rfl,av⟩:=axs.one;obtain rfl:=av.inv;cases rs with
  | cons r rr=>
   cases rr;cases r;exact call_int_bool ⟨.int _,H,I.kept λ_ _ e=>e,⟨_,rfl⟩,k.at am (.int _) h⟩
end
end L3
namespace Rg
open PySem Spec PyProof.Rows L2 L3
abbrev zG(row:List Str):W:=.rl (row.map W.str)
def jJ(row:List Str):List (List aC×W):=(row.zipIdx).map λx=>([Sum.inr x.1,Sum.inl (x.2:Int)],.rl [.tup [.int ((x.2:Int)+1),.int 0]])
def KI:bM:=λws M R=>∃row:List Str,ws=[zG row]/\row.length<=60/\aZ ((Bp (row.length+1)).map λ(i:Nat)=>W.int i) M R
def KJ:bM:=λws M R=>∃row:List Str,ws=[zG row]/\row.length<=60/\jN (jJ row) M R
abbrev zbQ:List Str:=["row"]
def zbR:aH:=
   (cL (JN (aF dS (bN dQ (aB (aA 0) aE)) (vC (.int 1)))))
abbrev zbS:List Str:=["row"]
def zbT:aH:=
   (cL (bN JM (aB (cP (eW (xN (aB (aA 0) aE)) (jV 2 (eS (bC 0) (eS (bC 1) jU))) fY (bP (aB (bP (aB (aA 1) (aB (aA 0) aE))) (aB (jB (aB (bP (aB (aF dS (aA 0) (vC (.int 1))) (aB (vC (.int 0)) aE))) aE)) aE))) [none,none])) aE)))
theorem z0:0<=Ap:=Bf _
theorem zbU{ws:List W}{M:Mm}{R:K3}(r:aZ ws M R):aZ ws M λw M'=>∃M'',L3.Sub M'' M'/\R w M'':=λp hp=>⟨_,Sub.refl _,r p hp⟩
theorem KL{ws:List (List aC×W)}{M:Mm}{R:K3}(r:jN ws M R):jN ws M λw M'=>∃M'',L3.Sub M'' M'/\R w M'':=λp hp=>⟨_,Sub.refl _,r p hp⟩
theorem zbV{ws:List W}{M:Mm}{R:K3}(h:KI ws M R):zbR (bQ R) (bY zbQ ws) M:=by
 obtain⟨row,rfl,hl,r⟩:=h;exact⟨_,rfl,row.length+1,by rw[Aa];rfl,by lia,zbU r⟩
theorem enum_zip(ws:List Str):∀n:Nat,gT n (ws.map W.str)=(ws.zipIdx n).map λx=>W.tup [.int (x.2:Int),.str x.1]:=by
 induction ws with
 | nil=>intro n;rfl
 | cons w ws ih=>intro n;rw[Ay,gT,ih,Ij,Ay]
theorem KN:∀{ps acc:List (List aC×W)},((acc++ps).map (·.1)).Nodup->oP acc ps=acc++ps
 | [],acc,_=>by simp[oP]
 | p::ps,acc,h=>by
  have hn:aV acc p.1=none:=by
   rw[Bk,Ck]at h;exact oR λe he z=>h.2.2 _ (Au.mpr ⟨e,he,rfl⟩) p.1 (by simp) z
  have e:bS acc p.1 p.2=acc++[p]:=by
   unfold bS;rw[if_neg (by rw[show(acc.any λkv=>decide (kv.1=p.1))=(aV acc p.1).isSome from mC acc p.1,hn];decide)]
  show oP (bS acc p.1 p.2) ps=_;rw[e,KN (by rw[Dj];exact h),Dj];rfl
theorem zbW(row:List Str):((jJ row).map (·.1)).Nodup:=by
 unfold jJ;rw[Bd];have:∀(row:List Str) (n:Nat),((row.zipIdx n).map ((λx:List aC×W=>x.1) ∘ λx:Str×Nat=>(([Sum.inr x.1,Sum.inl (x.2:Int)]:List aC),W.rl [.tup [.int ((x.2:Int)+1),.int 0]]))).Nodup:=by
  intro row
  induction row with
  | nil=>intro n;exact Gf
  | cons t row ih=>
   intro n;rw[Ij,Ay,Ee];refine⟨λhm=>?_,ih _⟩;obtain⟨x,hx,e⟩:=Au.mp hm;have h1:=List.mem_zipIdx hx;simp only[Kv,Dn,Sum.inr.injEq,Ju,and_true]at e;lia
 exact this row 0
theorem zbX(row:List Str)(t:Str)(p:Int):aV (jJ row) (eK (t,p))=if 0<=p/\row[p.toNat]? = some t then some (.rl [.tup [.int (p+1),.int 0]]) else none:=by
 have:∀(row:List Str) (n:Nat),aV ((row.zipIdx n).map λx:Str×Nat=>(([Sum.inr x.1,Sum.inl (x.2:Int)]:List aC),W.rl [.tup [.int ((x.2:Int)+1),.int 0]])) (eK (t,p))=if (n:Int)<=p/\row[(p-n).toNat]? = some t then some (.rl [.tup [.int (p+1),.int 0]]) else none:=by
  intro row
  induction row with
  | nil=>intro n;simp[aV]
  | cons x row ih=>
   intro n;rw[Ij,Ay,lH,ih]
   by_cases hp:p=n
   .subst hp
    by_cases hx:x=t
    .subst hx;rw[if_pos (show([Sum.inr x,Sum.inl (n:Int)]:List aC)=eK (x,(n:Int)) from rfl),if_pos ⟨Ig _,by simp⟩]
    .rw[if_neg (λz=>hx (by simpa [eK] using z)),if_neg (λz=>by have:=z.1;lia),if_neg (λz=>hx (by simpa using z.2))]
   .rw[if_neg (λz=>hp (show x=t/\(n:Int)=p by simpa [eK] using z).2.symm)]
    by_cases hn:(n:Int)<p
    .have e:(p-(n:Int)).toNat=(p-((n+1:Nat):Int)).toNat+1:=by lia
     rw[e,De]
     by_cases hr:row[(p-((n+1:Nat):Int)).toNat]? = some t
     .rw[if_pos ⟨by lia,hr⟩,if_pos ⟨by lia,hr⟩]
     .rw[if_neg (λz=>hr z.2),if_neg (λz=>hr z.2)]
    .rw[if_neg (λz=>by have:=z.1;lia),if_neg (λz=>by have:=z.1;lia)]
 have h:=this row 0;simpa [jJ] using h
theorem zbY{ws:List W}{M:Mm}{R:K3}(h:KJ ws M R):zbT (bQ R) (bY zbS ws) M:=by
 obtain⟨row,rfl,hl,r⟩:=h;refine⟨_,rfl,?_⟩;delta aE;refine W8 (ws:=gT 0 (row.map W.str)) (rest:=[]) (λw y=>∃x:Str×Nat,w=W.tup [.int (x.2:Int),.str x.1]/\y=.tup [.tup (([Sum.inr x.1,Sum.inl (x.2:Int)]:List aC).map wK),.rl [.tup [.int ((x.2:Int)+1),.int 0]]]) (λw hw=>?_) (small (by rw[mB,Aa];lia)) (λ_ _=>trivial) (λa b hm M' C sb h1=>?_) λys po=>?_
 .rw[enum_zip]at hw;obtain⟨x,_,rfl⟩:=Au.mp hw;exact⟨_,_,rfl⟩
 .rw[enum_zip]at hm;obtain⟨x,_,e⟩:=Au.mp hm;simp only[W.tup.injEq,Dn,and_true]at e;obtain⟨rfl,rfl⟩:=e;exact⟨_,rfl,_,rfl,z2,_,rfl,z2,z1,z2,h1 _ ⟨x,rfl,rfl⟩⟩
 .have hy:ys=oW (jJ row):=by
   rw[enum_zip]at po;unfold oW jJ;rw[Bd]
   revert po
   generalize row.zipIdx=l;intro po
   induction l generalizing ys with
   | nil=>cases po;rfl
   | cons x l ih=>
    cases po with
    | cons h t=>
     obtain⟨x',e1,rfl⟩:=h;simp only[W.tup.injEq,Dn,W.int.injEq,W.str.injEq,and_true]at e1;have:x=x':=Iz e1.2 (by lia);subst this;rw[ih _ t];rfl
  subst hy;refine aZ.frz ⟨jJ row,rfl,small (by unfold oW jJ;rw[Aa,Aa,List.length_zipIdx];lia),?_⟩;rw[KN (by simpa using zbW row),Ci];exact KL r
theorem mJ(ts:List Str)(n:Str):(aV (ts.map bR) (Sum.inr n:aC)).isSome=decide (n∈ts):=by
 induction ts with
 | nil=>rfl
 | cons t ts ih=>
  unfold aV at ih⊢;rw[Ay,Ey]
  by_cases h:t=n
  .subst h;simp[bR]
  .rw[show decide ((bR t).1=(Sum.inr n:aC))=false by simp[bR,h]];rw[ih];have h2:¬n=t:=λe=>h e.symm;simp[h2]
theorem KO(rs:List aP)(t:Str):(aV (ownOf rs) (Sum.inr t:aC)).isSome=a7 rs t:=by
 unfold ownOf a7;rw[mJ,Dk];simp only[decide_eq_true_eq];rw[sY];simp
theorem KP{f:Int->W}{ss:List Int}{i:Nat}{s:Int}(h:ss[i]? = some s):cX (ss.map f) (i:Int)=some (f s):=kA (by rw[Ax,h];rfl)
theorem zH{ts:List Str}{k:Int}(h0:0<=k)(h1:k<ts.length):∃t,cX (ts.map W.str) k=some (.str t)/\t∈ts:=by
 obtain⟨x,e,e2,_⟩:=XF (xs:=ts.map W.str) h0 (by rw[Aa];exact h1);rw[Ax]at e2;obtain⟨t,ht,rfl⟩:=Bb.mp e2;exact⟨t,e,Bl ht⟩
theorem KQ{x:W}{T:String}{τ:S3}{M:Mm}{R:K3}(h:qE [x,.ty T] M R):aB (vC (.ty T)) aE τ M λxs M2=>qE (x::xs) M2 R:=h
theorem zbZ{ws:List W}{M:Mm}{R:List W->(Mm->Prop)->Mm->Prop}(h:R ws (λ_=>True) M):d8 (.tup ws) M R:=h
end Rg
namespace L3
open PySem Spec PyProof.Rows L2
section
variable {X:Cx}{pos:Pos}{a b:Expr}{ta tb te:aY}
theorem cA{i:Nat}{x:Str}(hN:X.N.Nodup)(hi:X.N[i]? = some x:=by rfl)(hx:Loc X.env.scope x:=by first|exact Or.inl rfl|exact Or.inr rfl)(hf:X.fn x=true\/X.env.scope.names.lookup x=some .local:=by first|exact .inl rfl|exact .inr rfl|assumption):PG X (.Name x pos) (hV X.K (bC i)):=GB hN hi hx hf
theorem fM{i:Nat}{x:Str}(hi:X.N[i]? = some x:=by rfl)(hx:Loc X.env.scope x:=by first|exact Or.inl rfl|exact Or.inr rfl)(hN:X.N.Nodup:=by exact of_decide_eq_true (by kernel_rfl))(hf:X.fn x=true\/X.env.scope.names.lookup x=some .local:=by first|exact .inl rfl|exact .inr rfl|assumption):PG X (.Name x pos) (hV X.K (bC i)):=GB hN hi hx hf
theorem bG{i:Nat}{x:Str}{e:Expr}{pos':Pos}(hN:X.N.Nodup)(he:E3 X e te)(hi:X.N[i]? = some x:=by rfl)(hx:Loc X.env.scope x:=by first|exact Or.inl rfl|exact Or.inr rfl)(hs:Jt e (some (.Name x pos')) pos.line X.env=pure false:=by rfl)(hf:X.fn x=true\/X.env.scope.names.lookup x=some .local:=by first|exact .inl rfl|exact .inr rfl|assumption):
  P3 X (.Assign [.Name x pos'] e pos) (bB i te):=WH hN hi hx he hs hf
theorem nN{op:CmpOp}{r:R3}(ho:a9 X (Cq op) (cJ X.K r))(ha:E3 X a ta)(hb:E3 X b tb)(hm:Hz op b=false:=by first|exact DQ _|with_unfolding_all rfl):E3 X (.Compare a [op] [b] pos) (aF r ta tb):=VH ho ha hb hm
theorem cG{op:CmpOp}{r:R3}(ho:a9 X (Cq op) (cJ X.K r))(ha:E3 X a ta)(hb:E3 X b tb)(hm:Hz op b=false:=by first|exact DQ _|with_unfolding_all rfl):T3 X (.Compare a [op] [b] pos) (b5 (aF r ta tb)):=VI ho ha hb hm
variable {tg iter elt:Expr}{ifs:List Expr}{sc:Jm}{wi:h8}{g:eI}{tt:dD}
theorem zb0{i:Nat}{x:Str}{px spos:Pos}(hN:X.N.Nodup)(N':List Str)(js:List (Option Nat))(hi:PI X tg iter (gS X.K wi))(hg:∀B,PG (dN X sc N' B) tg (hV X.K g))(ht:∀B,iT (dN X sc N' B) ifs (kF X.K tt))(he:∀B,PE (dN X sc N' B) elt (up X.K te))(hi0:X.N[i]? = some x:=by rfl)(hx:Loc X.env.scope x:=by first|exact Or.inl rfl|exact Or.inr rfl)(S0:mV N' sc X.env.scope=true:=by kernel_rfl)(hj:fP N' X.N sc js N'=true:=by kernel_rfl)(hc:X.calm=true:=by rfl)(hsw:Jt (.ListComp elt [⟨tg,iter,ifs,0⟩] sc pos) (some (.Name x px)) spos.line X.env=pure true:=by rfl)(hf:X.fn x=true\/X.env.scope.names.lookup x=some .local:=by first|exact .inl rfl|exact .inr rfl|assumption)(hs:∀x,Hb iter X.env x=pure x:=by intro _;rfl):P3 X (.Assign [.Name x px] (.ListComp elt [⟨tg,iter,ifs,0⟩] sc pos) spos) (bB i (cP (eW wi g tt te js))):=W0 hN hi0 hx N' js hi hg ht he S0 hj hc hsw hf hs
end
theorem cB{N ps:List Str}{sc:Jm}(a:sc.kind=.function:=by rfl)(b:sc.isCoroutine=false:=by rfl)(c:sc.isGenerator=false:=by rfl)(d:N.Nodup:=by decide +kernel)(e:N.take ps.length=ps:=by rfl)(f:∀x∈ps,sc.names.lookup x=some .local\/sc.names.lookup x=some .cell:=by decide +kernel)(g:∀y∈sc.names,y.2≠.free:=by decide +kernel):mR N ps sc:=⟨a,b,c,d,e,f,g⟩
theorem KR{C:List Ae->Prop}(h:C [])(us:List Ae)(e:us.length=0):C us:=by rw[Lz.mp e];exact h
theorem rG{C:List Ae->Prop}{n:Nat}(k:∀a us,us.length=n->C (a::us)):∀us:List Ae,us.length=n+1->C us
 | a::l,e=>k a l (Nat.succ.inj e)
theorem uM{C:List Ae->Prop}(h:∀a,C [a]):∀us:List Ae,us.length=1->C us:=rG λa=>KR (h a)
theorem uN{C:List Ae->Prop}(h:∀a b,C [a,b]):∀us:List Ae,us.length=2->C us:=rG λa=>uM (h a)
theorem uO{C:List Ae->Prop}(h:∀a b c,C [a,b,c]):∀us:List Ae,us.length=3->C us:=rG λa=>uN (h a)
theorem uP{C:List Ae->Prop}(h:∀a b c d,C [a,b,c,d]):∀us:List Ae,us.length=4->C us:=rG λa=>uO (h a)
theorem zI{C:List Ae->Prop}(h:∀a b c d e,C [a,b,c,d,e]):∀us:List Ae,us.length=5->C us:=rG λa=>uP (h a)
def zJ(x q:Str)(st:Stmt)(ps:List Str):Prop:=∀(kV doc pm:Ae) (an:Option Addr) (cdv ct:Ae) (us:List Ae),us.length=ps.length->bindArgs (Ep x q (iZ st) (gQ st) (d4 st) .none kV doc pm an cdv ct) ⟨us,[]⟩=pure (ps.zip us)
section
variable {K:Ab}{mg:Str->Option Ae}{h:Heap}{x q:Str}{st:Stmt}{C f:Addr}{ps:List Str}{an:Option Addr}{kV doc pm cdv ct:Ae}
theorem dF(X:K.In h)(G:h.Ns Eh mg)(hb:zJ x x st ps:=by first|exact λ_ _ _ _ _ _=>uM λ_=>rfl|exact λ_ _ _ _ _ _=>uN λ_ _=>rfl|exact λ_ _ _ _ _ _=>uO λ_ _ _=>rfl|exact λ_ _ _ _ _ _=>uP λ_ _ _ _=>rfl|exact λ_ _ _ _ _ _=>zI λ_ _ _ _ _=>rfl|exact λ_ _ _ _ _ _=>ar6 λ_ _ _ _ _ _=>rfl|exact λ_ _ _ _ _ _=>ar7 λ_ _ _ _ _ _ _=>rfl|exact λ_ _ _ _ _ _=>KR rfl)(n:PySem.W.nsIn K Eh x=some (some (.ref f)):=by kernel_rfl)(l:K.lookup f=some ⟨.type "function",none,.func (Ep x x (iZ st) (gQ st) (d4 st) .none kV doc pm an cdv ct),#[]⟩:=by kernel_rfl)(c:Ji K cdv x=true:=by kernel_rfl)(k:Fs K (.ref f)=true:=by kernel_rfl):Df K mg x st ps f (Ep x x (iZ st) (gQ st) (d4 st) .none kV doc pm an cdv ct):=⟨nZ l c k,Ky X G n,(nZ l c k).binds hb⟩
theorem dM(hb:zJ x q st ps:=by first|exact λ_ _ _ _ _ _=>uM λ_=>rfl|exact λ_ _ _ _ _ _=>uN λ_ _=>rfl|exact λ_ _ _ _ _ _=>uO λ_ _ _=>rfl|exact λ_ _ _ _ _ _=>uP λ_ _ _ _=>rfl|exact λ_ _ _ _ _ _=>zI λ_ _ _ _ _=>rfl)(a:Cd K (.ref C) x=some (some (.ref f)):=by kernel_rfl)(n:Lv K (.ref f)=true:=by kernel_rfl)(l:K.lookup f=some ⟨.type "function",none,.func (Ep x q (iZ st) (gQ st) (d4 st) .none kV doc pm an cdv ct),#[]⟩:=by kernel_rfl)(c:Ji K cdv q=true:=by kernel_rfl)(k:Fs K (.ref f)=true:=by kernel_rfl):Dm K C x q st ps f (Ep x q (iZ st) (gQ st) (d4 st) .none kV doc pm an cdv ct):=⟨nZ l c k,⟨a,n,k⟩,(nZ l c k).binds hb⟩
theorem dI(hb:zJ x q st ps:=by first|exact λ_ _ _ _ _ _=>uM λ_=>rfl|exact λ_ _ _ _ _ _=>uN λ_ _=>rfl|exact λ_ _ _ _ _ _=>uO λ_ _ _=>rfl|exact λ_ _ _ _ _ _=>uP λ_ _ _ _=>rfl|exact λ_ _ _ _ _ _=>zI λ_ _ _ _ _=>rfl)(m:PySem.W.makesIn K C=true:=by kernel_rfl)(a:Cd K (.ref C) "__init__" = some (some (.ref f)):=by kernel_rfl)(n:Lv K (.ref f)=true:=by kernel_rfl)(d:Fs K (.ref C)=true:=by kernel_rfl)(l:K.lookup f=some ⟨.type "function",none,.func (Ep x q (iZ st) (gQ st) (d4 st) .none kV doc pm an cdv ct),#[]⟩:=by kernel_rfl)(c:Ji K cdv q=true:=by kernel_rfl)(k:Fs K (.ref f)=true:=by kernel_rfl):Di K C x q st ps f (Ep x q (iZ st) (gQ st) (d4 st) .none kV doc pm an cdv ct):=⟨nZ l c k,⟨m,a,n,d⟩,(nZ l c k).binds hb⟩
variable {P:Ca}{w:Ct}{base:Heap}{fd:Bv}{N:List Str}{k:Nat}{sp:bM}{rd:aH}
theorem zb1(P:Ca)(w:Ct)(mg:Str->Option Ae)(base:Heap)(k:Nat)(F:jM K x q st f fd)(_:Binds K fd ps [])(S:mR N ps (d4 st))(len:∀ws M R,sp ws M R->ws.length=ps.length)(good:∀{ws M R},sp ws M R->rd (bQ R) (bY N ws) M)(tm:∀{cdv:Ae} {A:Dg} {outer:List Env} {s:Aj} {H:Hp} {E:XK},cN k (A.deeper (Kx q (d4 st) s.heap.objs.size f cdv))->(A.deeper (Kx q (d4 st) s.heap.objs.size f cdv)).units+1<Fo->N.Nodup->jT (kX fW P w K mg base N q (d4 st) f cdv A outer s H E).nox (gQ st) rd):eR P w K mg base fW (k+1) f fd ps (gL K sp):=
 xG F S len λ_ _ _ _ _ _ _ _ _ hr h=>⟨rd,tm hr (ES hr) S.nd,good h⟩
theorem cH(P:Ca)(w:Ct)(mg:Str->Option Ae)(base:Heap)(k:Nat)(F:jM K x q st f fd)(_:Binds K fd ps [])(S:mR N ps (d4 st))(good:∀{ws M R},sp ws M R->rd (bQ R) (bY N ws) M)(tm:∀{cdv:Ae} {A:Dg} {outer:List Env} {s:Aj} {H:Hp} {E:XK},cN k (A.deeper (Kx q (d4 st) s.heap.objs.size f cdv))->(A.deeper (Kx q (d4 st) s.heap.objs.size f cdv)).units+1<Fo->N.Nodup->jT (kX fW P w K mg base N q (d4 st) f cdv A outer s H E).nox (gQ st) rd)(len:∀ws M R,sp ws M R->ws.length=ps.length:=by intro _ _ _ h;repeat (first|(obtain⟨rfl,_⟩:=h;exact rfl)|obtain⟨_,h⟩:=h)):eR P w K mg base fW (k+1) f fd ps (gL K sp):=
 xG F S len λ_ _ _ _ _ _ _ _ _ hr h=>⟨rd,tm hr (ES hr) S.nd,good h⟩
end
section
variable {X:Cx}{pos p:Pos}{x:Str}{st:Stmt}{e:Expr}{es:List Expr}{t:dP}{k j:Nat}{f:Addr}{fd:Bv}{ps:List Str}{sp:bM}
theorem c7(F:eR X.prog X.w X.K X.mg X.base fW k f fd ps (gL X.K sp))(D:Df X.K X.mg x st ps f fd)(hr:cN j X.A)(ha:A3 X (e::es) t)(hj:k<=j:=by decide)(hg:Gl X x:=by rfl)(hdb:(x==("__debug__" : Str))=false:=by decide)(he:Br (e::es) X.env=(false,eval e X.env)::Br es X.env:=by rfl)(hpl:(Hk pos (Br es X.env)).any (·.1)=false:=by rfl):
  E3 X (.Call (.Name x p) (e::es) [] pos) (b9 sp t):=wN F (hr.mono hj) hg D.at_ D.fn.kp D.bi ha hdb he hpl
end
end L3
namespace PySem
namespace Et
open PyProof.Rows L2 PySem.Spec
section
variable {prog:Ca}{w:Ct}{A:Dg}{E:Ae->Aj->Prop}{s:Aj}
theorem draws(hh:A.handled=none)(it l:Addr)(hne:l≠it)(items:Array Ae):Draws prog w A it [it,l] items.size (λi v=>items[i]? = some v) (λi h=>h.IsTupleIter it l i/\h.IsTuple l items) where
 live:=λ_ _ st=>let ⟨o,ho,_⟩:=st.1;⟨o,ho⟩
 frame:=λk h h' st hk=>(Zt.side_tuple (prog:=prog) (w:=w) it l hne items).keep k h h' st λc hc o e=>hk c (by rcases hc with rfl|rfl<;>simp) o e
 item:=λi s Q E hi st hQ=>(Zt.side_tuple it l hne items).item A E s i items[i] Q st (by simp[hi]) λh' a b=>hQ _ h' s.toks (by simp[hi]) a b
 done:=λs Q E st hE=>(Zt.side_tuple it l hne items).stop A E s _ Q hh st (by simp) hE
theorem zb2(l:Addr)(items:Array Ae)(n:Nat)(dct:Option Addr)(sl:Array (Option Ae)):
  Meets (Mz.«enumerate.__new__» ⟨[.type "enumerate",.ref l],[]⟩) (λ_ R s=>s.heap.get? l=some {cls:=.type "tuple",dict:=dct,data:=.seq items n,slots:=sl}/\
   R (.ok (.ret (.ref (s.heap.push {cls:=.type "tuple_iterator",data:=.fields #[.ref l,.int 0 0]}).objs.size)))
    {s with heap:=(s.heap.push {cls:=.type "tuple_iterator",data:=.fields #[.ref l,.int 0 0]}).push {cls:=.type "enumerate",data:=.fields #[.none,.bool false,.ref s.heap.objs.size,Lu 0,.none,.none]}}):=
 .of_wp λprog w A R s h=>by
  obtain⟨hp,g,d,tk,os⟩:=s;obtain⟨hl,h⟩:=h;have hsub:=sub_enumerate;have hL:Heap.IsTuple (Shared.heap ⟨hp,g,d,tk,os⟩) l items:=⟨_,hl,rfl,n,rfl⟩
  wp_walk using Ik hl
  refine wpAny_stack_any λst=>Ao ?_;split
  .rename_i c _ _ _ _ _;cases (c==Value.type "enumerate")
   .wp_walk using Ik hl,Ls hL
    exact⟨_,rfl,h⟩
   .wp_walk using Ik hl,Ls hL
    exact⟨_,rfl,h⟩
  .wp_walk using Ik hl,Ls hL
   exact⟨_,rfl,h⟩
theorem call_new{l:Addr}{items:Array Ae}{Q:Ae->Aj->Prop}(hL:s.heap.IsTuple l items)(h:∀h',IsEnum h' (s.heap.objs.size+1) s.heap.objs.size 0 .none->h'.IsTupleIter s.heap.objs.size l 0->(∀b o,s.heap.get? b=some o->h'.get? b=some o)->Q (.ref (s.heap.objs.size+1)) {s with heap:=h'}):
  Bo (Bw prog w) A (call (.type "enumerate") [.ref l]) Q E s:=by
 obtain⟨⟨c,dct,dt,sl⟩,hl,hc,n,hd⟩:=hL;cases (show c=.type "tuple" from hc);cases (show dt=.seq items n from hd);refine callType_new F.called_enumerate (by decide) (F.typeCall_enumerate_1 _) (F.newCall_enumerate_1 _) (λobj=>F.args_object_init_2 obj _) F.entry_enumerate_new (zb2 l items n dct sl) ⟨hl,?_⟩;have hz:(s.heap.push {cls:=.type "tuple_iterator",data:=.fields #[.ref l,.int 0 0]}).objs.size=s.heap.objs.size+1:=Er ..;show _/\_;rw[hz];have he:IsEnum ((s.heap.push {cls:=.type "tuple_iterator",data:=.fields #[.ref l,.int 0 0]}).push {cls:=.type "enumerate",data:=.fields #[.none,.bool false,.ref s.heap.objs.size,Lu 0,.none,.none]}) (s.heap.objs.size+1) s.heap.objs.size 0 .none:=by
  have:=Be (s.heap.push {cls:=.type "tuple_iterator",data:=.fields #[.ref l,.int 0 0]}) (o:={cls:=.type "enumerate",data:=.fields #[.none,.bool false,.ref s.heap.objs.size,Lu 0,.none,.none]}) rfl;rw[hz]at this;exact this
 exact⟨⟨_,he,rfl⟩,h _ he ⟨_,Am _ (Be _ rfl),rfl,rfl⟩ λb o x=>Am _ (Am _ x)⟩
end
end Et
end PySem
namespace L2
open PySem Spec PyProof.Rows
section
variable {X:Cx}
def KS(K:Ab)(a:Addr)(xs:List V):It:=
 ⟨λi H=>bU K H a xs/\i<xs.length,
   λi H x H'=>∃p u,xs[i]? = some u/\H p=none/\x=.ref p/\H'=aQ H p (.tup [.int (i:Nat),u]),
   λi H=>bU K H a xs/\i=xs.length⟩
theorem zb3{P:Ca}{w:Ct}{K:Ab}{es:List Expr}{kx:Nat}{px:Pos}(a e it:Addr)(xs:List V)(hne:e≠it)(hea:e≠a)(hia:a≠it):
  jL P w K (.Tuple es kx px) (KS K a xs) [e,it] e (λi h=>(∃old,IsEnum h e it (i:Nat) old)/\h.IsTupleIter it a i) where
 mem:=by simp
 obj:=λi h st c hc=>by
  obtain⟨⟨old,h1⟩,⟨o4,h4,_,h4d⟩⟩:=st;simp only[Bj,Fp,or_false]at hc;rcases hc with rfl|rfl
  .exact⟨_,h1,λv q=>by cases q⟩
  .exact⟨_,h4,λv q=>by rw[h4d]at q;cases q⟩
 keep:=λi h h' st k=>by
  obtain⟨⟨old,h1⟩,⟨o4,h4,r4⟩⟩:=st;exact⟨⟨old,k e (by simp) _ h1⟩,⟨o4,k it (by simp) _ h4,r4⟩⟩
 item:=by
  intro X hP hw hK hc i pins s Z H E I hf st hg;subst hP hw hK;obtain⟨⟨old,h1⟩,h4⟩:=st;obtain⟨hqa,hi⟩:=hg;obtain⟨its,rv,pl,hz⟩:=I.tuple hqa;obtain⟨u,hu,ru⟩:=rv.get (Bc hi);have hl:=rv.length;refine wpAny_pyNext_enum_itemD (Et.draws (A:=X.A.in1) (I.ok.hd hc) it a hia its.toArray) h1 ⟨h4,pl⟩ (by simp;lia) hne (by simp[hne,hea]) λx h' tk hx a1 a2 a3 a4 hk=>?_;have ex:x=u:=by
   have hx:its.toArray[i]? = some x:=hx;rw[List.getElem?_toArray,hu]at hx;exact(Cj hx).symm
  subst ex;refine⟨_,rfl,wpAny_letOwnedTupleGo_enum a1 λh'' e' sb=>?_⟩;have hfr:H s.heap.objs.size=none:=I.hok.fresh (Ag _);have lte:e<s.heap.objs.size:=Bi h1;have lti:it<s.heap.objs.size:=by obtain⟨_,q,_⟩:=h4;exact Bi q
  have keep2:∀q o,q∉[e,it]->s.heap.get? q=some o->h''.get? q=some o:=λq o hq eq=>by
   simp only[Bj,Fp,or_false,not_or]at hq;exact(sb.2 q hq.1).trans (hk q o hq.1 hq.2 eq)
  have hp2:h''.get? s.heap.objs.size=some {cls:=.type "tuple",data:=.seq [.int (i:Nat) tk,x].toArray}:=(sb.2 _ (Hm lte)).trans a3;have I1:Inv X pins Z (aQ H s.heap.objs.size (.tup [.int (i:Nat),xs[i]])) {s with heap:=h'',toks:=tk+1}:=I.laidT (its:=[.int (i:Nat) tk,x]) hf keep2 (by show 2<=Ap;decide) (.cons ⟨_,rfl⟩ (.cons ru .nil)) hp2;refine⟨.ref s.heap.objs.size,_,I1,rfl,⟨s.heap.objs.size,xs[i],Bc hi,hfr,rfl,rfl⟩,⟨⟨x,by rw[Jf];exact e'⟩,a2.1.extBut sb.extBut hne.symm⟩,λq hq=>?_⟩;rw[bI]
  .exact(hf q hq).1
  .intro eq;subst eq;simp only[Bj,Fp,or_false]at hq;rcases hq with q|q
   .exact Hm lte q
   .exact Hm lti q
 done:=by
  intro X hP hw hK hc i pins s Z H E I hf st hg;subst hP hw hK;obtain⟨⟨old,h1⟩,h4⟩:=st;obtain⟨hqa,rfl⟩:=hg;obtain⟨its,rv,pl,hz⟩:=I.tuple hqa;have l1:=rv.length;refine wpAny_pyNext_enum_endD (Et.draws (A:=X.A.in1) (I.ok.hd hc) it a hia its.toArray) h1 (show Heap.IsTupleIter s.heap it a its.toArray.size/\Heap.IsTuple s.heap a its.toArray from⟨by rw[Bg,<-l1];exact h4,pl⟩) λh' hk=>⟨rfl,?_⟩
  exact I.turnedT (tk:=s.toks) hf λq o hq eq=>hk q o (λz=>hq (by simp[z])) eq
 self:=λ_ _ _ _ _ st h=>by
  obtain⟨⟨old,h1⟩,_⟩:=st;exact Mf h1 h
def zb4(K:Ab)(ta:TA):TI:=λZ H R=>ta Z H λvs H1=>∃a xs,vs=[.ref a]/\bU K H1 a xs/\R (KS K a xs) H1
theorem zb5{a:Expr}{ta:TA}{p pos:Pos}{es:List Expr}{kx:Nat}{px:Pos}(hg:Gl X "enumerate")(hm:X.mg "enumerate" = none)(ha:PA X [a] ta)(hs:Br [a] X.env=[(false,eval a X.env)]:=by rfl):
  PI X (.Tuple es kx px) (.Call (.Name "enumerate" p) [a] [] pos) (zb4 X.K ta):=by
 intro pins s Z H R I h;refine Call_ (kW I hg hm boot_enumerate (Eb (a8 (ha pos pins s Z H _ I h) λus s1 ⟨vs,H1,I1,r1,q1⟩=>?_) hs rfl));obtain⟨a,xs,rfl,hqa,q⟩:=q1;obtain⟨u,rfl,ru⟩:=vals1 r1;cases ru;obtain⟨its,rv1,pl,hz⟩:=I1.tuple hqa;have la:a<s1.heap.objs.size:=by obtain⟨o,e,_⟩:=pl;exact Bi e
 refine Et.call_new pl λh' g1 g2 k=>?_;refine Mf g1 ?_;refine⟨s1.heap.objs.size+1,[s1.heap.objs.size+1,s1.heap.objs.size],_,_,H1,rfl,I1.kept (t':=s1.toks) k,zb3 a _ _ xs (E4 1 (by decide)) (Co (Bs (Hw la))) (Bs la),⟨⟨_,g1⟩,g2⟩,λq hq=>?_,q⟩;have hge:s1.heap.objs.size<=q:=by
  simp only[Bj,Fp,or_false]at hq;rcases hq with e|e
  .rw[e];exact E5 1
  .rw[e];exact Ag _
 exact I1.fpOk hge (I1.hok.fresh hge)
end
end L2
namespace L3
open PySem Spec PyProof.Rows L2
section
variable {X:Cx}{a:Expr}
def KU(ta:dP):h8:=λτ M R=>ta τ M λws M1=>∃zs,ws=[.tup zs]/\R (gT 0 zs) (λ_=>True) M1
theorem zb6{tA:dP}{p pos:Pos}{es:List Expr}{kx:Nat}{px:Pos}(hg:Gl X "enumerate")(hm:X.mg "enumerate" = none)(ha:A3 X [a] tA)(hs:Br [a] X.env=[(false,eval a X.env)]:=by rfl):PI X (.Tuple es kx px) (.Call (.Name "enumerate" p) [a] [] pos) (gS X.K (KU tA)):=
 (zb5 hg hm ha hs).weak λZ H R' z0=>z0.el λτ M R as am h k=>⟨τ,M,_,as,am,h,λvs H1 ws M1 k1 am1 ax ⟨zs,ew,r⟩=>by
  subst ew;obtain⟨v,rfl,av⟩:=ax.one;exact av.tupE λb xs eb fb qb=>⟨b,xs,by rw[eb],bU.of fb,k _ _ _ _ _ k1 am1 (by
   have st:∀H M,Kp H1 M1 H M->AM X.K H M->bU X.K H b xs:=λH M k _=>bU.of (k.fr _ _ (am1.noTup fb) fb).1;refine⟨λi H M k am kp hi=>⟨st H M k am,by rw[mB]at hi;rw[qb.length];exact hi⟩,λH M k am kp=>⟨st H M k am,by rw[mB,qb.length]⟩,λi H M x H' k am kp hi y=>?_⟩;obtain⟨pp,u,hu,hn,rfl,rfl⟩:=y;obtain⟨w,hw,av⟩:=(qb.kp am1 k).getV hu;obtain⟨am2,k2⟩:=am.tup (u:=.tup [.int (i:Nat),u]) hn;exact⟨.tup [.int ((i:Nat):Int),w],by rw[sX,hw];simp,k2,am2,.tup cU (.cons (.int _) (.cons (av.go (go_same hn)) .nil))⟩) r⟩⟩
end
end L3
namespace M47
open PySem Spec PyProof.Rows L2 L3 Rg
section
variable {rs:List aP}{row U words:List Str}{B B0:bZ}
structure zb7(row:List Str):Prop where
 wd:∀t∈row,t∈gF
 few:row.length<=17
theorem zb8(g:oY rs)(h:jH (iQ rs row) B){f:cT}(hf:f∈B.map (·.1)):f.1∈f6/\0<=f.2.1/\f.2.1<=f.2.2/\f.2.2<=row.length:=by
 obtain⟨x,hx⟩:=Gv.mp (nK.mpr hf);obtain⟨pre,post,hb⟩:=qO hx;refine JR (λ_=>rfl) h (λf _ _=>f.1∈f6/\0<=f.2.1/\f.2.1<=f.2.2/\f.2.2<=row.length) (λr hr b hb e v y p=>?_) _ pre (f,x) post rfl hb;obtain⟨b0,b1⟩:=yZ.mp hb;refine⟨g.nm r hr,b0,?_⟩;show b<=e/\e<=row.length;clear hr hb;generalize r.parts=ps at p
 induction p with
 | nil=>exact⟨Ig _,b1⟩
 | @cons t ts b m e u v x y hs _ ih=>
  have:b<=m/\m<=row.length:=by
   rcases hs with⟨_,h2,_⟩|⟨_,h2⟩
   .obtain⟨m1,m2,rfl,_⟩:=tZ.mp h2;have:=(Ak.mp m2).1;exact⟨by lia,by lia⟩
   .exact⟨h2.2.2.1,h2.2.2.2⟩
  obtain⟨i1,i2⟩:=ih (Int.le_trans b0 this.1) this.2;exact⟨Int.le_trans this.1 i1,i2⟩
end
end M47
namespace M74
open PySem Spec PyProof.Rows L2 L3 Rg M47
section
variable {own:Str->Bool}
def mono(own:Str->Bool):List Str->Nat->List (List Nd)
 | [],n=>if n=0 then [[]] else []
 | t::ts,n=>if own t=true then(Bp (n+1)).flatMap λm=>(mono own ts (n-m)).map ((t,m)::·) else match n with
  | 0=>[]
  | n+1=>mono own ts n
theorem mK{t:Str}{ts:List Str}{n:Nat}(h:own t=true):mono own (t::ts) n=(Bp (n+1)).flatMap λm=>(mono own ts (n-m)).map ((t,m)::·):=if_pos h
theorem pB{t:Str}{ts:List Str}{n:Nat}(h:own t=false):mono own (t::ts) n=match n with
  | 0=>[]
  | n+1=>mono own ts n:=if_neg (by rw[h];exact Av)
def eZ(own:Str->Bool)(c:Nd->Nat):List Str->Nat->Nat
 | [],n=>if n=0 then 1 else 0
 | t::ts,n=>if own t=true then((Bp (n+1)).map λm=>c (t,m)*eZ own c ts (n-m)).sum else match n with
  | 0=>0
  | n+1=>eZ own c ts n
theorem zK{c:Nd->Nat}:∀{ts:List Str} {n:Nat},eZ own c ts n=sm c (mono own ts n)
 | [],n=>by
  show(if n=0 then 1 else 0)=sm c (if n=0 then [[]] else []);split<;>rfl
 | t::ts,n=>by
  cases h:own t with
  | true=>
   rw[mK h,KA];refine(if_pos h).trans ?_;congr 1;exact Cy λm _=>by rw[zbI,zK]
  | false=>
   rw[pB h];refine(if_neg (by rw[h];exact Av)).trans ?_;cases n with
   | zero=>rfl
   | succ n=>exact zK
def cw(own:Str->Bool)(c:Nd->On)(p:Nd):On:=if own p.1=true then c p else if p.2=1 then some 1 else some 0
def eM(own:Str->Bool)(c:Nd->On):List Str->Nat->On
 | [],n=>some (if n=0 then 1 else 0)
 | t::ts,n=>sO ((Bp (n+1)).map λm=>tO (cw own c (t,m)) (eM own c ts (n-m)))
theorem zL{f:Nat->On}:∀{n:Nat},sO ((Bp n).map λm=>tO (if m=1 then some 1 else some 0) (f m))=if 1<n then f 1 else some 0
 | 0=>rfl
 | n+1=>by
  rw[Gs,Bk,zF,zL];show aO _ (aO (tO (if n=1 then some 1 else some 0) (f n)) (some 0))=_;rw[pA]
  by_cases h:n=1
  .subst h;rw[if_neg (by decide),if_pos rfl,if_pos (by decide),rE,J6]
  .rw[if_neg h,nL,pA]
   by_cases h2:1<n
   .rw[if_pos h2,if_pos (by lia)]
   .rw[if_neg h2,if_neg (by lia)]
theorem zM{c:Nd->On}:∀{ts:List Str} {n:Nat},eM own c ts n=fF c (mono own ts n)
 | [],n=>by
  show some (if n=0 then 1 else 0)=fF c (if n=0 then [[]] else []);split<;>rfl
 | t::ts,n=>by
  show sO ((Bp (n+1)).map λm=>tO (cw own c (t,m)) (eM own c ts (n-m)))=_;cases h:own t with
  | true=>
   rw[mK h,J9];congr 1;exact Cy λm _=>by rw[zbH,zM,cw,if_pos h]
  | false=>
   rw[pB h];rw[show(λm=>tO (cw own c (t,m)) (eM own c ts (n-m)))=λm=>tO (if m=1 then some 1 else some 0) (eM own c ts (n-m)) from funext λm=>by rw[cw,if_neg (by show ¬own t=true;rw[h];exact Av)],zL (f:=λm=>eM own c ts (n-m))];cases n with
   | zero=>rfl
   | succ n=>rw[if_pos (by lia)];exact zM
theorem lJ:∀{ts:List Str} {n:Nat} {e:List Nd},e∈mono own ts n->(∀p∈e,own p.1=true/\p.1∈ts/\p.2<=n)/\e.length<=ts.length/\(e.map (·.2)).sum<=n
 | [],n,e,h=>by
  have h:e∈(if n=0 then [[]] else []):=h;split at h
  .rw[An.mp h];exact⟨(λ_ h=>nomatch h),Ag _,Bf _⟩
  .cases h
 | t::ts,n,e,h=>by
  cases ho:own t with
  | true=>
   rw[mK ho]at h;obtain⟨m,hm,h⟩:=Ej.mp h;obtain⟨e',h',rfl⟩:=Au.mp h;have hm:=Cv.mp hm;obtain⟨i1,i2,i3⟩:=lJ h';refine⟨λp hp=>?_,Jy i2,?_⟩
   .rcases Bj.mp hp with rfl|hp
    .exact⟨ho,Ai,by show m<=n;lia⟩
    .obtain⟨a,b,c⟩:=i1 p hp;exact⟨a,Af _ b,by lia⟩
   .rw[Ay,Dy];show m+_<=n;lia
  | false=>
   rw[pB ho]at h;cases n with
   | zero=>cases h
   | succ n=>
    obtain⟨i1,i2,i3⟩:=lJ h;exact⟨λp hp=>let ⟨a,b,c⟩:=i1 p hp;⟨a,Af _ b,Lo c⟩,Lo i2,Lo i3⟩
def f7(ts:List Str):List Nd:=ts.map λt=>(t,0)
theorem pC:∀{ts:List Str} {e:List Nd},e∈mono own ts 0↔e=f7 ts/\∀t∈ts,own t=true
 | [],e=>by
  show e∈[[]]↔_;rw[An];exact⟨λh=>⟨h,λ_ h=>nomatch h⟩,λh=>h.1⟩
 | t::ts,e=>by
  cases ho:own t with
  | true=>
   rw[mK ho];show e∈(mono own ts 0).map ((t,0)::·)++[]↔_;rw[Cf,Au,Ic];constructor
   .rintro⟨e',h,rfl⟩;obtain⟨rfl,h2⟩:=pC.mp h;exact⟨rfl,ho,h2⟩
   .rintro⟨rfl,_,h2⟩;exact⟨f7 ts,pC.mpr ⟨rfl,h2⟩,rfl⟩
  | false=>
   rw[pB ho];exact⟨(λh=>nomatch h),λh=>absurd (h.2 t Ai) (by rw[ho];exact Av)⟩
theorem zN:∀{ts:List Str} {n:Nat} {a b:List Nd} {y:Str},a++(y,n)::b∈mono own ts n->∃a' b',ts=a'++y::b'/\a=f7 a'/\b=f7 b'/\∀t∈ts,own t=true
 | [],n,a,b,y,h=>by
  have h:_∈(if n=0 then [[]] else []):=h;split at h
  .have:=congrArg Dv (An.mp h);simp at this
  .cases h
 | t::ts,n,a,b,y,h=>by
  cases ho:own t with
  | true=>
   rw[mK ho]at h;obtain⟨m,hm,h⟩:=Ej.mp h;obtain⟨e',h',he⟩:=Au.mp h;have hm:=Cv.mp hm;cases a with
   | nil=>
    obtain⟨e1,e2⟩:=Ms he;cases e1;rw[Nat.sub_self]at h';obtain⟨h1,h2⟩:=pC.mp h';exact⟨[],ts,rfl,rfl,e2▸h1,λz hz=>(Bj.mp hz).elim (λe=>e▸ho) (h2 z)⟩
   | cons p a=>
    obtain⟨e1,e2⟩:=Ms he;subst e2;have hn:=((lJ h').1 (y,n) (Ba _ Ai)).2.2;have hn:n<=n-m:=hn;have m0:m=0:=by lia
    subst m0;obtain⟨a',b',h1,h2,h3,h4⟩:=zN h';exact⟨t::a',b',by rw[h1];rfl,by rw[<-e1,h2];rfl,h3,λz hz=>(Bj.mp hz).elim (λe=>e▸ho) (h4 z)⟩
  | false=>
   rw[pB ho]at h;cases n with
   | zero=>cases h
   | succ n=>
    have hn:=((lJ h).1 (y,n+1) (Ba _ Ai)).2.2;have hn:n+1<=n:=hn;lia
theorem KW:∀{a' b':List Str} {y:Str} {n:Nat},(∀t∈a'++y::b',own t=true)->f7 a'++(y,n)::f7 b'∈mono own (a'++y::b') n
 | [],b',y,n,h=>by
  show(y,n)::f7 b'∈mono own (y::b') n;rw[mK (h y Ai)];refine Ej.mpr ⟨n,Cv.mpr (Hd _),Au.mpr ⟨f7 b',?_,rfl⟩⟩;rw[Nat.sub_self];exact pC.mpr ⟨rfl,λt ht=>h t (Af _ ht)⟩
 | t::a',b',y,n,h=>by
  show(t,0)::(f7 a'++(y,n)::f7 b')∈mono own (t::(a'++y::b')) n;rw[mK (h t Ai)];refine Ej.mpr ⟨0,Cv.mpr (Nat.succ_pos _),Au.mpr ⟨_,?_,rfl⟩⟩;exact KW λz hz=>h z (Af _ hz)
end
section
variable {rs:List aP}
def PR(rs:List aP)(x:Nd):List (List Nd):=(rs.filter λr=>decide (r.name=x.1)).flatMap λr=>mono (a7 rs) r.parts x.2
theorem kP{x:Nd}{e:List Nd}:e∈PR rs x↔∃r∈rs,r.name=x.1/\e∈mono (a7 rs) r.parts x.2:=by
 unfold PR;rw[Ej];constructor
 .rintro⟨r,h,he⟩;obtain⟨h1,h2⟩:=Dh.mp h;exact⟨r,h1,of_decide_eq_true h2,he⟩
 .rintro⟨r,h1,h2,he⟩;exact⟨r,Dh.mpr ⟨h1,decide_eq_true h2⟩,he⟩
def pD(rs:List aP)(most:Nat):List Nd:=(namesOf rs).flatMap λX=>(Bp (most+1)).map λm=>(X,m)
theorem uQ{most:Nat}{x:Nd}:x∈pD rs most↔x.1∈namesOf rs/\x.2<=most:=by
 unfold pD;rw[Ej];constructor
 .rintro⟨X,hX,h⟩;obtain⟨m,hm,rfl⟩:=Au.mp h;exact⟨hX,Nat.le_of_lt_succ (Cv.mp hm)⟩
 .rintro⟨h1,h2⟩;exact⟨x.1,h1,Au.mpr ⟨x.2,Cv.mpr (Nat.lt_succ_of_le h2),rfl⟩⟩
theorem zb9{most:Nat}:(pD rs most).length=(namesOf rs).length*(most+1):=by
 unfold pD;generalize namesOf rs=l
 induction l with
 | nil=>simp
 | cons x l ih=>rw[Jq,Ar,ih,Aa,Cm,Az,Im,Nat.add_comm]
theorem KY{most:Nat}:Cl (PR rs) (pD rs most):=λx hx e he p hp=>by
 obtain⟨r,_,_,h⟩:=kP.mp he;obtain⟨h1,_,h3⟩:=(lJ h).1 p hp;exact uQ.mpr ⟨of_decide_eq_true h1,Ah h3 (uQ.mp hx).2⟩
def j7(rs:List aP)(t:Str):Prop:=a7 rs t=true/\pos (PR rs) (t,0)
def Lk(rs:List aP)(X Y:Str):Prop:=∃r∈rs,r.name=X/\∃a b,r.parts=a++Y::b/\a7 rs Y=true/\∀z∈a++b,j7 rs z
theorem nO{X Y:Str}{n:Nat}:Ed (PR rs) (X,n) (Y,n)↔Lk rs X Y:=by
 constructor
 .rintro⟨a,b,h,hp⟩;obtain⟨r,hr,hn,h⟩:=kP.mp h;obtain⟨a',b',e1,rfl,rfl,ho⟩:=zN h;refine⟨r,hr,hn,a',b',e1,ho Y (by rw[e1];simp),λz hz=>⟨ho z ?_,hp (z,0) ?_⟩⟩
  .rw[e1];rcases Aw.mp hz with hz|hz
   .exact Bh _ hz
   .exact Ba _ (Af _ hz)
  .rw[f7,f7,<-Bk];exact Au.mpr ⟨z,hz,rfl⟩
 .rintro⟨r,hr,hn,a,b,e1,ho,hz⟩;refine⟨f7 a,f7 b,kP.mpr ⟨r,hr,hn,?_⟩,λz h=>?_⟩
  .rw[e1];refine KW λt ht=>?_;rcases Aw.mp ht with ht|ht
   .exact(hz t (Bh _ ht)).1
   .rcases Bj.mp ht with rfl|ht
    .exact ho
    .exact(hz t (Ba _ ht)).1
  .rw[f7,f7,<-Bk]at h;obtain⟨t,ht,rfl⟩:=Au.mp h;exact(hz t ht).2
def cD(rs:List aP)(L:Nat)(D:List Str)(p:Nd):On:=if p.2<L\/(p.2=L/\p.1∈D) then cM (PR rs) p else some 0
theorem rH{L:Nat}{D:List Str}{p:Nd}(h:p.2<L):cD rs L D p=cM (PR rs) p:=if_pos (.inl h)
theorem zO{L:Nat}{D:List Str}{p:Nd}(h:p.2=L)(hD:p.1∈D):cD rs L D p=cM (PR rs) p:=if_pos (.inr ⟨h,hD⟩)
theorem KZ{L:Nat}{D:List Str}{p:Nd}(h:p.2=L)(hD:p.1∉D):cD rs L D p=some 0:=if_neg (λz=>z.elim (λq=>by lia) λq=>hD q.2)
def cnt(rs:List aP)(L:Nat)(D:List Str)(X:Str):On:=fF (cD rs L D) (PR rs (X,L))
theorem zca{L:Nat}{X:Str}(h:cnt rs L [] X≠some 0):pos (PR rs) (X,L):=by
 refine Cr λhn=>h ?_;refine KC.mpr λe he=>?_;refine Cr λhz=>hn ?_;have al:∀p∈e,pos (PR rs) p:=λp hp=>by
  refine Cr λhq=>hz (uK.mpr ⟨p,hp,?_⟩);unfold cD;split
  .exact j6.mpr hq
  .rfl
 obtain⟨K,hK⟩:=rC al;exact⟨K+1,Bq (iD.mpr λp hp=>hK K (Ag _) p hp) (uG (v:=vk (PR rs) K) he)⟩
theorem K0{L:Nat}:∀{k:Nat} {X:Str} (H:Str->Prop),(∀X,a7 rs X=true->cnt rs L [] X≠some 0->H X)->(∀X Y,Lk rs X Y->H Y->H X)->0<vk (PR rs) k (X,L)->H X
 | 0,X,H,h1,h2,h=>absurd h (Dz _)
 | k+1,X,H,h1,h2,h=>by
  obtain⟨e,he,hp⟩:=uH (show 0<sm (vk (PR rs) k) (PR rs (X,L)) from h);have al:∀p∈e,pos (PR rs) p:=λp hq=>⟨k,iD.mp hp p hq⟩
  obtain⟨r,hr,hn,hm⟩:=kP.mp he;have ho:a7 rs X=true:=decide_eq_true (jC.mpr ⟨r,hr,hn⟩)
  by_cases hf:∃Y,(Y,L)∈e
  .obtain⟨Y,hY⟩:=hf;obtain⟨a,b,rfl⟩:=Fc hY;refine h2 X Y (nO.mp ⟨a,b,he,λz hz=>al z ?_⟩) (K0 H h1 h2 (iD.mp hp _ hY));rcases Aw.mp hz with hz|hz
   .exact Bh _ hz
   .exact Ba _ (Af _ hz)
  .refine h1 X ho λhc=>?_;obtain⟨p,hp1,hp2⟩:=uK.mp (KC.mp hc e he);have hlt:p.2<L:=by
    have:=((lJ hm).1 p hp1).2.2;have this:p.2<=L:=this;refine Lb this λe=>hf ⟨p.1,?_⟩;rw[<-e];exact hp1
   rw[rH hlt]at hp2;exact j6.mp hp2 (al p hp1)
theorem zcb{L:Nat}{X Y:Str}(h:Lk rs X Y)(hY:pos (PR rs) (Y,L)):pos (PR rs) (X,L):=JU (nO.mpr h) hY
theorem zcc{L:Nat}{D:List Str}{X:Str}(hD:∀Y,Lk rs X Y->pos (PR rs) (Y,L)->Y∈D)(hp:∀Y∈D,pos (PR rs) (Y,L)):cnt rs L D X=cM (PR rs) (X,L):=by
 rw[<-zbL];refine zbK λe he=>?_;obtain⟨r,hr,hn,hm⟩:=kP.mp he;have hle:∀p∈e,p.2<=L:=λp hp=>((lJ hm).1 p hp).2.2
 by_cases al:∀p∈e,pos (PR rs) p
 .refine zbJ λp hp'=>?_
  by_cases hl:p.2<L
  .exact rH hl
  .have el:p.2=L:=Nat.le_antisymm (hle p hp') (Nat.le_of_not_lt hl);refine zO el (hD p.1 ?_ ?_)
   .obtain⟨a,b,e2⟩:=Fc hp';have ep:p=(p.1,L):=Iz rfl el;rw[ep]at e2;subst e2;refine nO.mp ⟨a,b,he,λz hz=>al z ?_⟩;rcases Aw.mp hz with hz|hz
    .exact Bh _ hz
    .exact Ba _ (Af _ hz)
   .have:=al p hp';rwa [show p=(p.1,L) from Iz rfl el]at this
 .obtain⟨p,h⟩:=Hq.mp al;obtain⟨h1,h2⟩:=Je.mp h;rw[uK.mpr ⟨p,h1,?_⟩,uK.mpr ⟨p,h1,j6.mpr h2⟩];unfold cD;split
  .exact j6.mpr h2
  .rfl
theorem zcd{L:Nat}{W:Str->Prop}(hW:∀X,W X->pos (PR rs) (X,L)/\∃Y,W Y/\Lk rs X Y){X:Str}(h:W X):cM (PR rs) (X,L)=none:=
 rF.mpr (JY (W:=λx=>x.2=L/\W x.1) (λx ⟨h1,h2⟩=>by
  obtain⟨X,n⟩:=x;cases (show n=L from h1);obtain⟨a,Y,hY,l⟩:=hW X h2;exact⟨a,(Y,_),⟨rfl,hY⟩,nO.mpr l⟩) ⟨rfl,h⟩)
theorem zP{X:Str}{n:Nat}(h:a7 rs X=false):cM (PR rs) (X,n)=some 0:=j6.mpr λ⟨k,hk⟩=>by
 cases k with
 | zero=>exact absurd hk (Dz _)
 | succ k=>
  obtain⟨e,he,_⟩:=uH (show 0<sm (vk (PR rs) k) (PR rs (X,n)) from hk);obtain⟨r,hr,hn,_⟩:=kP.mp he;rw[show a7 rs X=true from decide_eq_true (jC.mpr ⟨r,hr,hn⟩)]at h;cases h
end
end M74
namespace Rg
open PySem Spec PyProof.Rows L2 L3
theorem K5{acc:List Str}{t:Str}(h:acc.Nodup):(cZ acc t).Nodup:=by
 unfold cZ;split
 .exact h
 .rename_i hn;rw[Ck];refine⟨h,by simp,λa ha b hb e=>hn ?_⟩;have:b=t:=by simpa using hb
  rw[<-this,<-e];exact ha
theorem lK(rs:List aP):(namesOf rs).Nodup:=by
 have:∀(ts acc:List Str),acc.Nodup->(ts.foldl cZ acc).Nodup:=by
  intro ts
  induction ts with
  | nil=>intro acc h;exact h
  | cons t ts ih=>intro acc h;exact ih _ (K5 h)
 exact this _ _ Gf
end Rg
namespace M74
open PySem Spec PyProof.Rows L2 L3 Rg M47
def N3:List Str:=["S","S_1","S_12"]
structure fG(rs:List aP):Prop where
 g:oY rs
 few:rs.length<=7
 nm:∀r∈rs,r.name∈N3
section
variable {rs:List aP}
theorem nP(g:fG rs):(namesOf rs).length<=3:=by
 refine len_sub (b:=N3) (lK rs) λx hx=>?_;obtain⟨r,hr,rfl⟩:=jC.mp hx;exact g.nm r hr
def bnd:Nat->Nat->Nat
 | 0,n=>if n=0 then 1 else 0
 | p+1,n=>((Bp (n+1)).map λm=>bnd p (n-m)).sum
theorem flat_len{O J:Type}{f:O->List J}{g:O->Nat}:∀{l:List O},(∀x∈l,(f x).length<=g x)->(l.flatMap f).length<=(l.map g).sum
 | [],_=>Ag _
 | x::l,h=>by
  rw[Jq,Ar,Ay,Dy];exact Nat.add_le_add (h x Ai) (flat_len λy hy=>h y (Af _ hy))
theorem zce{l:List Nat}{x:Nat}(h:x∈l):x<=l.sum:=by
 obtain⟨a,b,rfl⟩:=Fc h;rw[List.sum_append,Dy];lia
theorem uR{own:Str->Bool}:∀{ts:List Str} {n:Nat},(mono own ts n).length<=bnd ts.length n
 | [],n=>by
  show(if n=0 then [[]] else []:List (List Nd)).length<=if n=0 then 1 else 0;split
  .exact Ag _
  .exact Ag _
 | t::ts,n=>by
  cases h:own t with
  | true=>
   rw[mK h];exact flat_len λm _=>by rw[Aa];exact uR
  | false=>
   rw[pB h];cases n with
   | zero=>exact Bf _
   | succ n=>exact Ah uR (zce (Au.mpr ⟨1,Cv.mpr (by lia),rfl⟩))
theorem zcf:∀p,p<=3->∀n,n<=4->bnd p n<=15:=by decide
theorem zcg(g:fG rs){x:Nd}(hx:x.2<=4):(PR rs x).length<=105:=by
 have h1:=flat_len (l:=rs.filter λr=>decide (r.name=x.1)) (f:=λr=>mono (a7 rs) r.parts x.2) (g:=λ_=>15) λr hr=>Ah uR (zcf _ (g.g.fp r (Dh.mp hr).1) _ hx);have h2:∀l:List aP,(l.map λ_=>15).sum=15*l.length:=λl=>by
  induction l with
  | nil=>rfl
  | cons r l ih=>rw[Ay,Dy,ih,Az];lia
 rw[h2]at h1;have h3:=Ef (λr:aP=>decide (r.name=x.1)) rs;have h4:=g.few;exact Ah h1 (by lia)
theorem zch(g:fG rs){X:Str}:(PR rs (X,0)).length<=7:=by
 have h1:=flat_len (l:=rs.filter λr=>decide (r.name=X)) (f:=λr=>mono (a7 rs) r.parts 0) (g:=λ_=>1) λr hr=>by
  have:bnd r.parts.length 0=1:=by
   generalize r.parts.length=p
   induction p with
   | zero=>rfl
   | succ p ih=>show(bnd p 0+0)=1;rw[ih]
  rw[<-this];exact uR
 have h2:∀l:List aP,(l.map λ_=>1).sum=l.length:=λl=>by
  induction l with
  | nil=>rfl
  | cons r l ih=>rw[Ay,Dy,ih,Az];lia
 rw[h2]at h1;have h3:=Ef (λr:aP=>decide (r.name=X)) rs;have h4:=g.few;exact Ah h1 (by lia)
theorem zQ{v:Nd->Nat}{B:Nat}:∀{P:List (List Nd)},(∀e∈P,pr v e<=B)->sm v P<=P.length*B
 | [],_=>Bf _
 | e::P,h=>by
  have:=zQ (P:=P) λq hq=>h q (Af _ hq);have h1:=h e Ai;rw[Az,Im];show pr v e+sm v P<=_;lia
theorem zR{v:Nd->Nat}{f:Nd->Nat}:∀{e:List Nd},(∀p∈e,v p<=10 ^ f p)->pr v e<=10 ^ (e.map f).sum
 | [],_=>Ag _
 | p::e,h=>by
  rw[Ay,Dy,Jk];exact Eu (h p Ai) (zR λq hq=>h q (Af _ hq))
def SL(rs:List aP)(L:Nat):Nat->Str->Prop
 | 0,_=>False
 | j+1,X=>∀Y,Lk rs X Y->pos (PR rs) (Y,L)->SL rs L j Y
def EL(rs:List aP)(L:Nat)(x y:Nd):Prop:=x.2=L/\y.2=L/\Lk rs x.1 y.1
theorem uS{L:Nat}:∀{j:Nat} {x y:Nd},fE (EL rs L) j x y->fE (Ed (PR rs)) j x y
 | 0,_,_,h=>h
 | j+1,(X,m),y,⟨(Z,n),⟨h1,h2,h3⟩,h4⟩=>by
  have h1:m=L:=h1;have h2:n=L:=h2;subst h1;subst h2;exact⟨_,nO.mpr h3,uS h4⟩
theorem zci{X Y:Str}(h:Lk rs X Y):a7 rs Y=true:=let ⟨_,_,_,_,_,_,h,_⟩:=h;h
theorem K6{L:Nat}:∀{j:Nat} {x y:Nd},x∈(namesOf rs).map (λX=>(X,L))->fE (EL rs L) j x y->y∈(namesOf rs).map λX=>(X,L)
 | 0,_,_,hx,h=>by cases h;exact hx
 | j+1,x,y,_,⟨z,⟨_,h2,h3⟩,h4⟩=>K6 (x:=z) (Au.mpr ⟨z.1,of_decide_eq_true (zci h3),Iz rfl (show L=z.2 from h2.symm)⟩) h4
theorem K7{L:Nat}:∀{j:Nat} {X:Str},pos (PR rs) (X,L)->¬SL rs L j X->∃Y,fE (EL rs L) j (X,L) (Y,L)/\pos (PR rs) (Y,L)
 | 0,X,hp,_=>⟨X,rfl,hp⟩
 | j+1,X,hp,h=>by
  obtain⟨Y,h⟩:=Hq.mp h;obtain⟨h1,h⟩:=Je.mp h;obtain⟨h2,h⟩:=Je.mp h;obtain⟨Z,h3,h4⟩:=K7 h2 h;exact⟨Z,⟨(Y,L),⟨rfl,rfl,h1⟩,h3⟩,h4⟩
theorem zcj(g:fG rs){L:Nat}{X:Str}(ho:a7 rs X=true)(hp:pos (PR rs) (X,L))(hn:¬Ub (PR rs) (X,L)):SL rs L 3 X:=by
 refine Cr λh=>hn ?_;obtain⟨Y,h1,h2⟩:=K7 hp h;obtain⟨vs,l,e0,ej,hs⟩:=zB h1;have hx:(X,L)∈(namesOf rs).map λX=>(X,L):=Au.mpr ⟨X,of_decide_eq_true ho,rfl⟩;obtain⟨i,i',z,h3,h4,h5,h6⟩:=twice (vs:=vs) (L:=(namesOf rs).map λX=>(X,L)) (by rw[Aa,l];have:=nP g;lia) λz hz=>by
  obtain⟨i,hi⟩:=List.mem_iff_getElem?.mp hz;exact K6 hx (hs 0 i _ z (Bf _) e0 hi)
 have lp:=hs i i' z z (by lia) h5 h6;rw[show i'-i=(i'-i-1)+1 by lia]at lp;have pz:pos (PR rs) z:=zC (uS (hs i 3 z _ (by lia) h5 ej)) h2;exact J2 (uS (hs 0 i _ z (Bf _) e0 h5)) (J3 (uS lp) pz)
def h0:Nat->Nat
 | 0=>1
 | j+1=>7*h0 j ^ 3
theorem zS{x p:Nd}{e:List Nd}(he:e∈PR rs x)(al:∀q∈e,pos (PR rs) q)(hp:p∈e):Ed (PR rs) x p:=by
 obtain⟨a,b,rfl⟩:=Fc hp;refine⟨a,b,he,λz hz=>al z ?_⟩;rcases Aw.mp hz with hz|hz
 .exact Bh _ hz
 .exact Ba _ (Af _ hz)
theorem K8{x:Nd}{e:List Nd}(he:¬ ∀q∈e,pos (PR rs) q)(k:Nat):pr (vk (PR rs) k) e=0:=by
 refine Mq λh=>he λq hq=>⟨k,iD.mp h q hq⟩
theorem K9(g:fG rs):∀{j:Nat} {X:Str},SL rs 0 j X->∀k,vk (PR rs) k (X,0)<=h0 j
 | 0,_,h,_=>h.elim
 | j+1,X,h,0=>Bf _
 | j+1,X,h,k+1=>by
  have h1:∀e∈PR rs (X,0),pr (vk (PR rs) k) e<=h0 j ^ 3:=λe he=>by
   by_cases al:∀q∈e,pos (PR rs) q
   .obtain⟨r,hr,_,hm⟩:=kP.mp he;obtain⟨i1,i2,_⟩:=lJ hm;have hle:e.length<=3:=Ah i2 (g.g.fp r hr);have fac:∀p∈e,vk (PR rs) k p<=h0 j:=λp hp=>by
     have e0:p.2=0:=Nat.le_zero.mp (i1 p hp).2.2;have ep:p=(p.1,0):=Iz rfl e0;have ed:=zS he al hp;rw[ep]at ed;rw[ep];exact K9 g (h p.1 (nO.mp ed) (by rw[<-ep];exact al p hp)) k
    have one:1<=h0 j:=by
     clear fac h
     induction j with
     | zero=>exact Ag _
     | succ j ih=>exact Nat.mul_pos (by decide) (Nat.pow_pos ih)
    have:∀e:List Nd,(∀p∈e,vk (PR rs) k p<=h0 j)->pr (vk (PR rs) k) e<=h0 j ^ e.length:=λe=>by
     induction e with
     | nil=>exact λ_=>Ag _
     | cons p e ih=>
      intro hh;rw[Az,Nat.pow_succ,Nat.mul_comm (h0 j ^ e.length)];exact Eu (hh p Ai) (ih λq hq=>hh q (Af _ hq))
    exact Ah (this e fac) (Dq one hle)
   .rw[K8 (x:=(X,0)) al];exact Bf _
  exact Ah (zQ h1) (Gy _ (zch g))
def hx(m:Nat):Nat:=if m=0 then 11 else 150*m-64
theorem zck{L:Nat}(hL:1<=L):∀{e:List Nd},e.length<=3->(e.map (·.2)).sum<=L->(∀p∈e,p.2<L)->(e.map λp=>hx p.2).sum+3<=150*L-114
 | [],_,_,_=>by show 0+3<=_;lia
 | [p],_,h1,h2=>by
  have a:=h2 p Ai;simp only[Ay,Gw,Dy,List.sum_nil]at h1⊢;unfold hx;split<;>lia
 | [p,q],_,h1,h2=>by
  have a:=h2 p Ai;have b:=h2 q (Af _ Ai);simp only[Ay,Gw,Dy,List.sum_nil]at h1⊢;unfold hx;split<;>split<;>lia
 | [p,q,r],_,h1,h2=>by
  have a:=h2 p Ai;have b:=h2 q (Af _ Ai);have c:=h2 r (Af _ (Af _ Ai));simp only[Ay,Gw,Dy,List.sum_nil]at h1⊢;unfold hx;split<;>split<;>split<;>lia
 | _::_::_::_::_,h,_,_=>by simp at h
theorem LB(g:fG rs){L:Nat}(hL:1<=L)(hL4:L<=4)(lo:∀m,m<L->∀Y,¬Ub (PR rs) (Y,m)->∀k,vk (PR rs) k (Y,m)<=10 ^ hx m):∀{j:Nat} {X:Str},SL rs L j X->¬Ub (PR rs) (X,L)->∀k,vk (PR rs) k (X,L)<=10 ^ (150*L-114+25*(j-1))
 | 0,_,h,_,_=>h.elim
 | j+1,X,h,hn,0=>Bf _
 | j+1,X,h,hn,k+1=>by
  rw[Ld];have h1:∀e∈PR rs (X,L),pr (vk (PR rs) k) e<=10 ^ (150*L-117+25*j):=λe he=>by
   by_cases al:∀q∈e,pos (PR rs) q
   .obtain⟨r,hr,_,hm⟩:=kP.mp he;obtain⟨i1,i2,i3⟩:=lJ hm;have hle:e.length<=3:=Ah i2 (g.g.fp r hr);have fin:∀p∈e,¬Ub (PR rs) p:=λp hp z=>hn (JV (zS he al hp) z)
    by_cases hf:∃Y,(Y,L)∈e
    .obtain⟨Y,hY⟩:=hf;have hl:=nO.mp (zS he al hY);have hs:=h Y hl (al _ hY);cases j with
     | zero=>exact hs.elim
     | succ j=>
      have hb:=LB g hL hL4 lo hs (fin _ hY) k;rw[Ld]at hb;obtain⟨a,b,e2⟩:=Fc hY;obtain⟨a',b',e3,e4,e5,_⟩:=zN (e2▸hm);have zer:∀q∈a++b,vk (PR rs) k q<=10 ^ 11:=λq hq=>by
       have hqe:q∈e:=by
        rw[e2];rcases Aw.mp hq with hq|hq
        .exact Bh _ hq
        .exact Ba _ (Af _ hq)
       have q0:q.2=0:=by
        rw[e4,e5,f7,f7,<-Bk]at hq;obtain⟨t,_,rfl⟩:=Au.mp hq;rfl
       have:=lo 0 (by lia) q.1 (by rw[<-q0];exact fin q hqe) k;rw[<-q0]at this;exact(show 10 ^ hx q.2=10 ^ 11 by rw[q0];rfl)▸this
      have hle2:(a++b).length<=2:=by
       rw[e2,Ar,Az]at hle;rw[Ar];lia
      have p1:=zR (v:=vk (PR rs) k) (f:=λ_=>11) (e:=a++b) zer;have s11:∀l:List Nd,(l.map λ_=>11).sum=11*l.length:=λl=>by
       induction l with
       | nil=>rfl
       | cons r l ih=>rw[Ay,Dy,ih,Az];lia
      rw[s11]at p1;have p2:=Ah p1 (Dq (show 0<10 by decide) (show 11*(a++b).length<=22 by lia));have e6:pr (vk (PR rs) k) e=vk (PR rs) k (Y,L)*pr (vk (PR rs) k) (a++b):=by
       rw[e2,rB,rB];show pr _ a*(vk (PR rs) k (Y,L)*pr _ b)=_;rw[Nat.mul_left_comm]
      rw[e6];refine Ah (Eu hb p2) ?_;rw[<-Jk];exact Dq (by decide) (by lia)
    .have hlt:∀p∈e,p.2<L:=λp hp=>Lb (i1 p hp).2.2 λz=>hf ⟨p.1,by rw[<-z];exact hp⟩;have p1:=zR (v:=vk (PR rs) k) (f:=λp=>hx p.2) (e:=e) λp hp=>lo p.2 (hlt p hp) p.1 (fin p hp) k;have:=zck hL hle i3 hlt;exact Ah p1 (Dq (by decide) (by lia))
   .rw[K8 (x:=(X,L)) al];exact Bf _
  refine Ah (zQ h1) (Ah (Gy _ (Ah (zcg g (x:=(X,L)) hL4) (show 105<=10 ^ 3 by decide))) ?_);rw[<-Jk];exact Dq (by decide) (by lia)
theorem LC(g:fG rs):∀(L:Nat),L<=4->∀Y,¬Ub (PR rs) (Y,L)->∀k,vk (PR rs) k (Y,L)<=10 ^ hx L:=λL=>by
 induction L using Kk with
 | ind L ih=>
  intro hL Y hn k
  by_cases hp:pos (PR rs) (Y,L)
  .have ho:a7 rs Y=true:=by
    cases h:a7 rs Y with
    | true=>rfl
    | false=>exact absurd hp (j6.mp (zP h))
   have hs:=zcj g ho hp hn;cases L with
   | zero=>exact Ah (K9 g hs k) (show h0 3<=10 ^ 11 by decide)
   | succ L=>
    have:=LB g (L:=L+1) (by lia) hL (λm hm Y hn k=>ih m hm (by lia) Y hn k) hs hn k;refine Ah this (Dq (by decide) ?_);unfold hx;rw[if_neg (by lia)];lia
  .rw[Mq λz=>hp ⟨k,z⟩];exact Bf _
def ck(T:Nat)(P:Nd->List (List Nd)):Nat->Nd->Nat
 | 0,_=>0
 | k+1,x=>min (sm (ck T P k) (P x)) T
theorem LD{T a b:Nat}(hT:1<=T):min (min a T*min b T) T=min (a*b) T:=by
 by_cases ha:a<=T
 .by_cases hb:b<=T
  .rw[Fm ha,Fm hb]
  .rw[Fm ha,Ft (by lia:T<=b)];rcases Lc a with z|z
   .rw[z,Js,Js]
   .rw[Ft (Hn _ z),Ft (Ah (by lia:T<=b) (Hn _ z))]
 .rw[Ft (by lia:T<=a)];rcases Lc b with z|z
  .rw[z,Ko,Nat.zero_min,Ko,Nat.zero_min]
  .rw[Ft (He _ (by lia:0<min b T)),Ft (Ah (by lia:T<=a) (He _ z))]
theorem LF{T:Nat}(hT:1<=T){v:Nd->Nat}:∀{e:List Nd},min (pr (λp=>min (v p) T) e) T=min (pr v e) T
 | []=>rfl
 | p::e=>by
  show min (min (v p) T*pr _ e) T=min (v p*pr v e) T;rw[<-LD hT,LF hT,Nat.min_assoc,Nat.min_self,LD hT]
theorem LG{T:Nat}(hT:1<=T){v:Nd->Nat}:∀{P:List (List Nd)},min (sm (λp=>min (v p) T) P) T=min (sm v P) T
 | []=>rfl
 | e::P=>by
  have h1:=LF hT (v:=v) (e:=e);have h2:=LG hT (v:=v) (P:=P);show min (pr _ e+sm _ P) T=min (pr v e+sm v P) T;lia
theorem zT{T:Nat}(hT:1<=T){P:Nd->List (List Nd)}:∀k x,ck T P k x=min (vk P k x) T
 | 0,x=>(Nat.zero_min _).symm
 | k+1,x=>by
  show min (sm (ck T P k) (P x)) T=min (sm (vk P k) (P x)) T;rw[show ck T P k=λp=>min (vk P k p) T from funext λp=>zT hT k p,LG hT]
def TT:Nat:=10 ^ 1500
theorem zcl(g:fG rs){most:Nat}(hm:most<=4){X:Str}(hX:X∈namesOf rs){d:Nat}(hd:d=(namesOf rs).length*(most+1)+1):
  (cM (PR rs) (X,most)=none->ck TT (PR rs) (d+d) (X,most)≠ck TT (PR rs) d (X,most)\/ck TT (PR rs) d (X,most)=TT)/\
  ∀a,cM (PR rs) (X,most)=some a->ck TT (PR rs) (d+d) (X,most)=ck TT (PR rs) d (X,most)/\ck TT (PR rs) d (X,most)≠TT/\ck TT (PR rs) d (X,most)=a:=by
 have hT:1<=TT:=Nat.pow_pos (by decide);have cl:=KY (rs:=rs) (most:=most);have hx':(X,most)∈pD rs most:=uQ.mpr ⟨hX,Ag _⟩;have hl:=zb9 (rs:=rs) (most:=most);rw[zT hT,zT hT];constructor
 .intro h;have:=zbE cl hx' (rF.mp h);rw[hl,<-hd]at this;generalize TT=T at hT⊢;lia
 .intro a h;have ha:=LC g most hm X (λz=>by rw[rF.mpr z]at h;cases h) d;have hh:10 ^ hx most<TT:=Nat.pow_lt_pow_right (by decide) (by unfold hx;split<;>lia);rw[uL cl hx' h (k:=d) (by rw[hl];lia)]at ha;rw[uL cl hx' h (k:=d+d) (by rw[hl];lia),uL cl hx' h (k:=d) (by rw[hl];lia)];generalize TT=T at hT hh⊢;generalize 10 ^ hx most=U at ha hh;exact⟨rfl,by lia,by lia⟩
end
section
variable {rs:List aP}{B:bZ}
theorem zcm{x:Nd}{e:List Nd}(he:e∈PR rs x)(al:∀p∈e,pos (PR rs) p):pos (PR rs) x:=by
 obtain⟨K,hK⟩:=rC al;exact⟨K+1,Bq (iD.mpr λp hp=>hK K (Ag _) p hp) (uG (v:=vk (PR rs) K) he)⟩
theorem zcn(h:jH (iQ rs []) B){f:cT}{x:aJ×Nat×List Int}(e:aI B f=some x):j7 rs f.1:=by
 obtain⟨pre,post,hb⟩:=qO e;refine JR (λ_=>rfl) h (λf _ _=>j7 rs f.1) (λr hr b hb e v y p=>?_) _ pre (f,x) post rfl hb;have al:∀t∈r.parts,j7 rs t:=by
  clear hr hb;generalize r.parts=ps at p
  induction p with
  | nil=>exact λt ht=>nomatch ht
  | @cons t ts b m e u v x y hs _ ih=>
   intro z hz;rcases Bj.mp hz with rfl|hz
   .rcases hs with⟨_,h2,_⟩|⟨_,h2⟩
    .obtain⟨_,m2,_⟩:=tZ.mp h2;simp at m2
    .exact h2
   .exact ih z hz
 refine⟨decide_eq_true (jC.mpr ⟨r,hr,rfl⟩),zcm (e:=f7 r.parts) (kP.mpr ⟨r,hr,rfl,pC.mpr ⟨rfl,λt ht=>(al t ht).1⟩⟩) λp hp=>?_⟩;obtain⟨t,ht,rfl⟩:=Au.mp hp;exact(al t ht).2
theorem LH:∀{k:Nat} {X:Str},0<vk (PR rs) k (X,0)->∃v,Cs (iQ rs []) (X,0,0) v
 | 0,_,h=>absurd h (Dz _)
 | k+1,X,h=>by
  obtain⟨e,he,hp⟩:=uH (show 0<sm (vk (PR rs) k) (PR rs (X,0)) from h);obtain⟨r,hr,hn,hm⟩:=kP.mp he;have hn:r.name=X:=hn;obtain⟨rfl,ho⟩:=pC.mp hm;have al:∀t∈r.parts,a7 rs t=true/\∃v,Cs (iQ rs []) (t,0,0) v:=λt ht=>⟨ho t ht,LH (iD.mp hp (t,0) (Au.mpr ⟨t,ht,rfl⟩))⟩
  have pp:∀ts:List Str,(∀t∈ts,a7 rs t=true/\∃v,Cs (iQ rs []) (t,0,0) v)->∃v y,M47.PP (M47.PS (iQ rs []) λf v _=>Cs (iQ rs []) f v) ts 0 0 v y:=λts=>by
   induction ts with
   | nil=>exact λ_=>⟨_,_,.nil⟩
   | cons t ts ih=>
    intro h;obtain⟨h1,v,h2⟩:=h t Ai;obtain⟨u,y,h3⟩:=ih λz hz=>h z (Af _ hz);exact⟨v+u,[]++y,.cons (.inr ⟨h1,h2⟩) h3⟩
  obtain⟨v,y,h2⟩:=pp r.parts al;rw[<-hn];exact⟨v,zbp (G:=iQ rs []) (λ_=>rfl) hr (yZ.mpr ⟨Ig _,Ig _⟩) h2⟩
theorem zco(h:jH (iQ rs []) B){X:Str}:j7 rs X↔∃f∈B.map (·.1),f.1=X:=by
 constructor
 .rintro⟨_,k,hk⟩;obtain⟨v,hv⟩:=LH hk;obtain⟨x,hx,_⟩:=zbq h hv;exact⟨(X,0,0),nK.mp (by rw[hx];rfl),rfl⟩
 .rintro⟨f,hf,rfl⟩;obtain⟨x,hx⟩:=Gv.mp (nK.mpr hf);exact zcn h hx
def ev(m:Nat)(o:On):Option (Nat×On):=if o=some 0 then none else some (m,o)
def f9(c:Nat->On)(m:Nat):Option (Nat×On):=ev m (c m)
def gA(rs:List aP)(L:Nat)(D:List Str)(X:Str):List (Nat×On):=(Bp L).filterMap (f9 λm=>cM (PR rs) (X,m))++if X∈D then [(L,cM (PR rs) (X,L))] else []
theorem LI{O J:Type}{f g:O->Option J}:∀{l:List O},(∀x∈l,f x=g x)->l.filterMap f=l.filterMap g
 | [],_=>rfl
 | x::l,h=>by
  rw[Cp,Cp,h x Ai,LI λy hy=>h y (Af _ hy)]
theorem zcp{L:Nat}{D:List Str}{X:Str}(hD:X∈D->pos (PR rs) (X,L)):gA rs L D X=(Bp (L+1)).filterMap (f9 λm=>cD rs L D (X,m)):=by
 unfold gA;rw[Gs,Jx];congr 1
 .refine LI λm hm=>?_;show ev m (cM (PR rs) (X,m))=ev m (cD rs L D (X,m));rw[rH (p:=(X,m)) (Cv.mp hm)]
 .by_cases h:X∈D
  .rw[if_pos h,Cp,f9,zO (p:=(X,L)) rfl h,ev,if_neg (λz=>j6.mp z (hD h))];rfl
  .rw[if_neg h,Cp,f9,KZ (p:=(X,L)) rfl h,ev,if_pos rfl];rfl
theorem zcq{L:Nat}{D:List Str}{X:Str}(h1:X∈D->pos (PR rs) (X,L))(h2:pos (PR rs) (X,L)->X∈D):gA rs L D X=gA rs (L+1) [] X:=by
 unfold gA;rw[if_neg (show X∉[] from λh=>nomatch h),Cf,Gs,Jx];congr 1
 by_cases h:X∈D
 .rw[if_pos h,Cp,f9,ev,if_neg (λz=>j6.mp z (h1 h))];rfl
 .rw[if_neg h,Cp,f9,ev,if_pos (j6.mpr λz=>h (h2 z))];rfl
theorem zcr{c f:Nat->On}{n:Nat}:∀N,n<N->sO ((((Bp N).filterMap (f9 c)).filter λp=>decide (p.1<=n)).map λp=>tO p.2 (f (n-p.1)))=sO ((Bp (n+1)).map λm=>tO (c m) (f (n-m))):=by
 have:∀N,sO ((((Bp N).filterMap (f9 c)).filter λp=>decide (p.1<=n)).map λp=>tO p.2 (f (n-p.1)))=sO ((Bp (min N (n+1))).map λm=>tO (c m) (f (n-m))):=λN=>by
  induction N with
  | zero=>rw[Nat.zero_min];rfl
  | succ N ih=>
   rw[Gs,Jx,Fb,Bk,zF,ih]
   by_cases hN:N<=n
   .rw[Fm (by lia:N<=n+1),Fm (by lia:N+1<=n+1),Gs,Bk,zF];congr 1;unfold f9 ev
    by_cases hz:c N=some 0
    .rw[Cp,if_pos hz];show some 0=aO (tO (c N) (f (n-N))) (some 0);rw[hz,nL];rfl
    .rw[Cp,if_neg hz];show sO ((List.filter _ [(N,c N)]).map _)=_;rw[Bx,if_pos (decide_eq_true hN)];rfl
   .rw[Ft (by lia:n+1<=N),Ft (by lia:n+1<=N+1)];have:((List.filterMap (f9 c) [N]).filter λp=>decide (p.1<=n))=[]:=by
     unfold f9 ev;rw[Cp];split
     .rfl
     .rename_i z;split at z
      .cases z
      .cases z;rw[Bx,if_neg (by rw[decide_eq_false hN];exact Av)];rfl
    rw[this];exact pA _
 intro N hN;rw[this N,Ft (by lia)]
theorem zU{own:Str->Bool}{c d:Nd->On}:∀{ts:List Str} {n:Nat},(∀t∈ts,∀m,m<=n->cw own c (t,m)=cw own d (t,m))->eM own c ts n=eM own d ts n
 | [],_,_=>rfl
 | t::ts,n,h=>by
  show sO ((Bp (n+1)).map _)=sO ((Bp (n+1)).map _);congr 1;refine Cy λm hm=>?_;have hm:=Cv.mp hm;rw[h t Ai m (by lia),zU λz hz k hk=>h z (Af _ hz) k (by lia)]
def eN(rs:List aP)(L:Nat)(D:List Str)(t:Str):List (Nat×On):=if a7 rs t=true then gA rs L D t else [(1,some 1)]
theorem zcs{L n:Nat}(hn:n<=L){D:List Str}(hD:∀X∈D,pos (PR rs) (X,L)){t:Str}{f:Nat->On}:sO (((eN rs L D t).filter λp=>decide (p.1<=n)).map λp=>tO p.2 (f (n-p.1)))=sO ((Bp (n+1)).map λm=>tO (cw (a7 rs) (cD rs L D) (t,m)) (f (n-m))):=by
 unfold eN
 by_cases ho:a7 rs t=true
 .rw[if_pos ho,zcp (hD t),zcr (c:=λm=>cD rs L D (t,m)) (L+1) (by lia)];congr 1;refine Cy λm _=>?_;rw[cw,if_pos ho]
 .rw[if_neg ho];rw[show(λm=>tO (cw (a7 rs) (cD rs L D) (t,m)) (f (n-m)))=λm=>tO (if m=1 then some 1 else some 0) (f (n-m)) from funext λm=>by rw[cw,if_neg ho],zL (f:=λm=>f (n-m)),Bx]
  by_cases h1:1<=n
  .rw[if_pos (decide_eq_true h1),if_pos (by lia)];show aO (tO (some 1) (f (n-1))) (some 0)=_;rw[pA,J6]
  .rw[if_neg (λz=>h1 (of_decide_eq_true z)),if_neg (by lia)];rfl
theorem zct{l:List On}(h:none∈l):sO l=none:=by
 induction l with
 | nil=>cases h
 | cons a l ih=>
  rcases Bj.mp h with rfl|h
  .rfl
  .show aO a (sO l)=none;rw[ih h];cases a<;>rfl
theorem zcu{l:List Nat}:sO (l.map some)=some l.sum:=by
 induction l with
 | nil=>rfl
 | cons a l ih=>show aO (some a) (sO (l.map some))=_;rw[ih];rfl
end
end M74
namespace L2
open PySem Spec PyProof.Rows
def pE(ks more:List (aC×V)):List (aC×V):=more.foldl (λacc p=>d5 acc p.1 p.2) ks
section
variable {X:Cx}
theorem zcv{more:List (aC×V)}{vm:List (aC×Ae)}(r:KV more vm):∀{ks:List (aC×V)} {vs:List (aC×Ae)},KV ks vs->KV (pE ks more) (merged vs vm):=by
 induction r with
 | nil=>exact λh=>h
 | @cons p q ps qs hq t ih=>
  intro ks vs h;obtain⟨k,v⟩:=p;obtain⟨k',v'⟩:=q;cases (show k=k' from hq.1);exact ih (h.put k hq.2)
theorem LJ:∀(more ks:List (aC×V)),(pE ks more).length<=ks.length+more.length
 | [],ks=>Ag _
 | p::more,ks=>by
  have h1:=LJ more (d5 ks p.1 p.2);have h2:=nY ks p.1 p.2;rw[Az];show(pE (d5 ks p.1 p.2) more).length<=_;lia
theorem zcw:iS X "dict.update" (λx vs H Q=>∃a b ks more,x=.ref a/\vs=[.ref b]/\a≠b/\H a=some (.dK ks)/\H b=some (.dK more)/\ks.length+more.length<=Ap/\Q .non (aQ H a (.dK (pE ks more)))):=by
 rintro pins s Z H x vs v us Q I rx rs ⟨a,b,ks,more,rfl,rfl,hab,ea,eb,hl,q⟩;cases (show v=Value.ref a from rx);obtain⟨u,rfl,ru⟩:=vals1 rs;cases (show u=Value.ref b from ru);obtain⟨z,hd,va,rel,dd⟩:=vY I.hok ea;obtain⟨z2,hd2,vb,rel2,dd2⟩:=vY I.hok eb;refine Jc PySem.F.slot_dict_update dd.typeIs PySem.F.entry_dict_update (PySem.F.args_dict_update_2 _ _) (meets_dict_update (cR X.prog X.w) a b hab hd2) ⟨va,vb,dd,dd2,by rw[<-rel.length,<-rel2.length];exact hl,λh' dd' _ hs=>?_⟩;have he:∃q,h'.get? a=some q:=let ⟨q,_,_,hq,_⟩:=dd';⟨q,hq⟩;exact⟨.non,_,pQ I (by rw[ea];exact True.intro) hs he (EM (Ah (LJ more ks) hl) hd (zcv rel2 rel) dd'),rfl,q⟩
end
def CH(i j:Int):Prop:=Gp i<=2 ^ 20/\Gp j<=2 ^ 20
theorem zcx{X:Cx}:a9 X (Ek .Mult) (rI CH λi j=>.int (i*j)):=nV λ_ _ _ _ _ _ _ hc q=>mul_int q (IntMulOk.of_bits hc.1 hc.2)
end L2
namespace L3
open PySem Spec PyProof.Rows L2
section
variable {X:Cx}{e:Expr}{te:aY}
def rJ:R3
 | .int i,.int j,M,R=>CH i j/\R (.int (i*j)) M
 | _,_,_,_=>False
theorem zV:a9 X (Ek .Mult) (cJ X.K rJ):=jQ zcx λx y H Q M R am k wx wy h ax ay=>by
 cases wx<;>first|exact(show False from h).elim|skip
 cases wy<;>first|exact(show False from h).elim|skip
 exact⟨_,_,ax.inv,ay.inv,h.1,k.at am (.int _) h.2⟩
def LK:W->List W->Mm->K3->Prop
 | .ref a,[.ref b],M,R=>∃kvs more,M a=some (.dK kvs)/\M b=some (.dK more)/\a≠b/\kvs.length+more.length<=Ap/\R .non (put M a (.dK (j4 kvs more)))
 | _,_,_,_=>False
theorem zcy{K:Ab}{H:Hp}{M:Mm}{gm:List (aC×V)}{more:List (aC×W)}(h:bJ K H M aC gm more):∀{gs:List (aC×V)} {kvs:List (aC×W)},bJ K H M aC gs kvs->bJ K H M aC (pE gs gm) (j4 kvs more):=by
 induction h with
 | nil=>exact λh=>h
 | @cons p q ps qs r t ih=>
  intro gs kvs h;obtain⟨k,v⟩:=p;obtain⟨k',v'⟩:=q;cases (show k=k' from r.1);exact ih (p6 h k r.2)
theorem zcz:iS X "dict.update" (kZ X.K LK):=by
 rintro pins s Z H x xs v us Q I rx rs ⟨wx,ws,M,R,am,ax,axs,h,k⟩
 match wx,ws,h with
 | .ref a,[.ref b],h=>
  obtain⟨z,rfl,az⟩:=axs.one;obtain⟨kvs,more,e1,e2,hab,hl,r⟩:=h;obtain rfl:=ax.inv;obtain rfl:=az.inv;obtain⟨gs,f1,q1⟩:=am _ _ e1;obtain⟨gm,f2,q2⟩:=am _ _ e2;have l1:=Dr q1;have l2:=Dr q2;refine zcw pins s Z H _ _ v us Q I rx rs ⟨a,b,gs,gm,rfl,rfl,hab,f1,f2,by lia,?_⟩;obtain⟨am3,k3⟩:=am.write (o:=.dK (j4 kvs more)) (u:=.dK (pE gs gm)) e1 ⟨_,cU,(zcy q2 q1).go (mY am e1)⟩;exact k _ _ _ _ k3 am3 .non r
abbrev Ll:=List (aC×Addr×List W)
def lL(M:Mm):List Addr->Mm
 | []=>M
 | a::l=>lL (del M a) l
theorem zW:∀(l:List Addr) (M:Mm),Sub (lL M l) M
 | [],_=>Sub.refl _
 | a::l,M=>λb o e=>Sub.del b o (zW l (del M a) b o e)
theorem LL:∀{l:List Addr} {M:Mm} {a:Addr},a∈l->lL M l a=none
 | b::l,M,a,h=>by
  by_cases hl:a∈l
  .exact LL (M:=del M b) hl
  .rcases Bj.mp h with rfl|h
   .cases z:lL (del M a) l a with
    | none=>exact z
    | some o=>
     have:=zW l (del M a) a o z;rw[mW]at this;cases this
   .exact absurd h hl
def LM(t:aY):aY:=λτ M R=>t τ M λw M'=>∃(d:Addr) (ls:Ll),w=.ref d/\M' d=some (.dK (ls.map λx=>(x.1,.ref x.2.1)))/\(∀x∈ls,M' x.2.1=some (.lst x.2.2))/\R (.fk (ls.map λx=>(x.1,.rl x.2.2))) (lL (del M' d) (ls.map λx=>x.2.1))
theorem zcA(h:E3 X e te):E3 X e (LM te):=
 (JH h).weak λZ H Q z0=>z0.el λτ M R as am h k=>⟨τ,M,_,as,am,h,λv H' w M' k' am' av ⟨p,ls,hw,e,hl,r⟩=>by
  subst hw;obtain rfl:=av.inv;obtain⟨ks,f,q⟩:=am' _ _ e;refine⟨p,.dK ks,rfl,f,.inl ⟨_,rfl⟩,λo=>?_⟩;obtain⟨g,am2,k2⟩:=tX (o:=o) am' e (.inl ⟨_,rfl⟩) f;have sb:=zW (ls.map λx=>x.2.1) (del M' p);have ne:∀x∈ls,x.2.1≠p:=λx hx z=>by have:=hl x hx;rw[z,e]at this;cases this
  have vals:∀{l:Ll} {ks2:List (aC×V)},(∀x∈l,x∈ls)->bJ X.K H' M' aC ks2 (l.map λx=>(x.1,.ref x.2.1))->ks2.map Cu=(l.map λx=>(x.1,W.rl x.2.2)).map Cu/\aL X.K (aQ H' p (.frz o (.dK ks))) (lL (del M' p) (ls.map λx=>x.2.1)) (ks2.map Gu) ((l.map λx=>(x.1,W.rl x.2.2)).map Gu):=λ{l}=>by
   induction l with
   | nil=>intro ks2 _ h;cases h;exact⟨rfl,.nil⟩
   | cons x l ih=>
    intro ks2 hin h;cases h with
    | @cons p2 _ ps _ r2 t=>
     obtain⟨i1,i2⟩:=ih (λy hy=>hin y (Af _ hy)) t;have hx:=hin x Ai;obtain⟨vs,fx,qx⟩:=am' _ _ (hl x hx);obtain⟨k2,v2⟩:=p2;obtain⟨r1,r2⟩:=r2;cases (show v2=V.ref x.2.1 from r2.inv);refine⟨by rw[Ay,Ay,Ay,i1];exact congrArg (·::_) r1,.cons (.rl (by rw[bI (ne x hx)];exact fx) (LL (Au.mpr ⟨x,hx,rfl⟩)) ((qx.go g).sub sb)) i2⟩
  obtain⟨v1,v2⟩:=vals (λ_ h=>h) q;exact k _ _ _ _ (k'.trans (k2.sub sb)) (am2.sub sb) (.fk cU v1 v2) r⟩
end
end L3
namespace Tsr
open PySem PyProof.Rows PySem.W
def Shaped:List Bool->List Ae->Prop
 | [],[]=>True
 | true::r,.str _ _::vs=>Shaped r vs
 | false::r,.int _ _::vs=>Shaped r vs
 | _,_=>False
def rK(h:Heap)(sh:List Bool)(v:Ae):Prop:=∃b o xs n,v=.ref b/\h.get? b=some o/\o.cls=.type "tuple"/\o.data=.seq xs n/\Shaped sh xs.toList
section
variable {prog:Ca}{w:Ct}{A:Dg}{E:Ae->Aj->Prop}{s:Aj}
theorem zcB{x y:Str}{t u:Tok}{b:Bool}{Q:Bool->Aj->Prop}(h:∀c,Q c s):Bo (Bw prog w) A (oneLt' b (.str x t) (.str y u)) Q E s:=by
 cases b with
 | true=>exact strKind_oneLt prog w A E s (.str x t) (.str y u) _ _ rfl rfl (h _)
 | false=>exact kat_one _ _ (PyProof.Rows.lt_str (h _))
theorem zcC{x y:Int}{t u:Tok}{b:Bool}{Q:Bool->Aj->Prop}(h:∀c,Q c s):Bo (Bw prog w) A (oneLt' b (.int x t) (.int y u)) Q E s:=by
 cases b with
 | true=>exact oneLt_int (h _)
 | false=>exact kat_one _ _ (Ly (h _))
theorem zX{b fin:Bool}{Q:Bool->Aj->Prop}(h:∀c,Q c s):∀(sh:List Bool) (xs ys:List Ae) (i:Nat),Shaped sh xs->Shaped sh ys->KatLex prog w A b fin Q (xs.zip ys) i s
 | [],[],[],_,_,_=>h _
 | true::sh,.str x t::xs,.str y u::ys,i,hx,hy=>kat_cons (wpAny_eqBool_str (kat_go (λ_=>kat_yes (zX h sh xs ys (i+1) hx hy)) λ_=>kat_no (zcB h)))
 | false::sh,.int x t::xs,.int y u::ys,i,hx,hy=>kat_cons (Jb (kat_go (λ_=>kat_yes (zX h sh xs ys (i+1) hx hy)) λ_=>kat_no (zcC h)))
theorem kind_tups{sh:List Bool}{vs:List Ae}{Q:SortKind->Aj->Prop}(h2:0<vs.length)(hv:∀v∈vs,rK s.heap (true::sh) v)(h:Q (tuples' true) s):Bo (Bw prog w) A (keyKind' vs.toArray) Q E s:=by
 obtain⟨fs,hl,hf,ht⟩:∃fs:List Ae,fs.length=vs.length/\KatTups s.heap vs fs/\∀f∈fs,∃x t,f=.str x t:=by
  clear h2 h
  induction vs with
  | nil=>exact⟨[],rfl,.nil,λ_ z=>nomatch z⟩
  | cons v vs ih=>
   obtain⟨fs,e1,e2,e3⟩:=ih λv hv'=>hv v (Af _ hv');obtain⟨a,o,xs,n,rfl,h1,h2,h3,h4⟩:=hv v Ai;obtain⟨x,t,r,hx⟩:∃x t r,xs.toList=.str x t::r:=by
    match hxs:xs.toList,h4 with
    | .str x t::r,_=>exact⟨x,t,r,rfl⟩
   refine⟨.str x t::fs,by simp[e1],.cons h1 h2 h3 (by rw[<-Em,hx];rfl) e2,λf hf=>?_⟩;rcases Bj.mp hf with rfl|hf
   .exact⟨x,t,rfl⟩
   .exact e3 f hf
 refine kat_kind (T:=.type "str") hf (by lia) (λv hv'=>?_) rfl (by rw[show(Value.type "str" !=Value.type "tuple")=true from by first|rfl|decide];exact h);obtain⟨x,t,rfl⟩:=ht v hv';exact .of_pure rfl
end
def eE{O:Type}(n:Nat)(Q:O->Prop):KasT O->Prop
 | .ret a=>Q a
 | .ask i j k=>i<n/\j<n/\∀b,eE n Q (k b)
theorem eE.bind{O J:Type}{n:Nat}{Q:O->Prop}{Q':J->Prop}{f:O->KasT J}(hf:∀a,Q a->eE n Q' (f a)):∀{t:KasT O},eE n Q t->eE n Q' (t.bind f)
 | .ret a,h=>hf a h
 | .ask _ _ _,⟨h1,h2,h3⟩=>⟨h1,h2,λb=>eE.bind hf (h3 b)⟩
theorem eE.wp{O:Type}{n:Nat}{Q:O->Prop}{cmp:Nat->Nat->(Bool->Aj->Prop)->Aj->Prop}{s:Aj}{G:O->Aj->Prop}(hc:∀i j C,i<n->j<n->(∀b,C b s)->cmp i j C s)(hG:∀a,Q a->G a s):∀{t:KasT O},eE n Q t->t.kasWp cmp G s
 | .ret a,h=>hG a h
 | .ask i j _,⟨h1,h2,h3⟩=>hc i j _ h1 h2 λb=>eE.wp hc hG (h3 b)
def Pm(n:Nat)(p:Array Nat):Prop:=p.Perm (List.toArray (Bp n))
section
variable {n:Nat}{p:Array Nat}
theorem Pm.lt(h:Pm n p)(hn:0<n)(i:Nat):p.getD i 0<n:=by
 rw[Array.getD_eq_getD_getElem?];cases e:p[i]? with
 | none=>exact hn
 | some x=>
  have h1:x∈p.toList:=by rw[<-Em]at e;exact Bl e
  have h2:=(Hy.mp h).mem_iff.mp h1;exact Cv.mp (by simpa using h2)
theorem Pm.rev(h:Pm n p)(i j:Nat):Pm n (kas_rev p i j):=(mirror_perm _ _ _ _).trans h
theorem zY(hn:0<n)(h:Pm n p):∀f m,eE n (λ_=>True) (kas_asc p f m)
 | 0,_=>trivial
 | f+1,m=>⟨h.lt hn _,h.lt hn _,λb=>by
   cases b with
   | true=>exact trivial
   | false=>exact zY hn h f (m+1)⟩
theorem uU(hn:0<n):∀f {p:Array Nat} (m q:Nat),Pm n p->eE n (λr:Array Nat×Nat×Nat=>Pm n r.1) (kas_desc f p m q)
 | 0,_,_,_,h=>h
 | f+1,p,m,q,h=>⟨h.lt hn _,h.lt hn _,λb=>by
   cases b with
   | true=>
    show eE n _ (if q > 0 then _ else _);split
    .exact uU hn f _ _ (h.rev _ _)
    .exact uU hn f _ _ h
   | false=>exact⟨h.lt hn _,h.lt hn _,λd=>by
     cases d with
     | true=>exact h
     | false=>exact uU hn f _ _ h⟩⟩
theorem LN(hn:0<n)(h:Pm n p)(m r:Nat):eE n (λx:Nat×Array Nat=>Pm n x.2) (kas_tail3 m r p):=by
 unfold kas_tail3;exact eE.bind (n:=n) (Q:=λ_=>True) (Q':=λx:Nat×Array Nat=>Pm n x.2) (f:=λq=>.ret (q,kas_rev p 0 m)) (λq _=>show Pm n (kas_rev p 0 m) from h.rev 0 m) (zY hn (h.rev 0 m) (r-m) m)
theorem part_ok(hn:0<n)(h:Pm n p)(m r:Nat):eE n (λx:Nat×Array Nat=>Pm n x.2) (kas_descPart m r p):=eE.bind (λx hx=>by
  split
  .exact LN hn (hx.rev _ _) _ _
  .exact LN hn hx _ _) (uU hn _ _ _ h)
theorem zcD(hn:0<n)(h:Pm n p)(r:Nat):eE n (λx:Nat×Array Nat=>Pm n x.2) (kas_count r p):=eE.bind (λm _=>by
  split
  .exact h
  .split
   .exact⟨h.lt hn _,h.lt hn _,λb=>by
     cases b with
     | true=>exact h
     | false=>exact part_ok hn (h.rev _ _) _ _⟩
   .exact part_ok hn h _ _) (zY hn h _ _)
theorem zZ(hn:0<n)(h:Pm n p)(k:Nat):∀f l r,eE n (λ_=>True) (kas_place p k f l r)
 | 0,_,_=>trivial
 | f+1,l,r=>by
  show eE n _ (if l ≥ r then _ else _);split
  .exact trivial
  .exact⟨h.lt hn _,h.lt hn _,λb=>by
    cases b with
    | true=>exact zZ hn h k f _ _
    | false=>exact zZ hn h k f _ _⟩
theorem LO(hn:0<n):∀f {p:Array Nat} (k:Nat),Pm n p->eE n (Pm n) (kas_bin f p k)
 | 0,_,_,h=>h
 | f+1,p,k,h=>eE.bind (λl _=>LO hn f (k+1) ((bubble_perm _ _ _).trans h)) (zZ hn h k _ _ _)
theorem zcE(hn:0<n):eE n (Pm n) (kas_sort n):=eE.bind (λx hx=>by
  split
  .exact LO hn _ _ hx
  .exact hx) (zcD hn (Array.Perm.refl _) n)
theorem LP{vs:List Ae}{i:Nat}(h:i<vs.length):vs.getD i Value.none∈vs:=by
 rw[Gg,Bc h];exact Ma h
end
section
variable {prog:Ca}{w:Ct}{A:Dg}{E:Ae->Aj->Prop}{s:Aj}
theorem list_sort64{a:Addr}{vs:List Ae}{n:Nat}{P:Fin->Aj->Prop}{U:SortKind}(ho:s.heap.get? a=some (Jg "list" vs.toArray n))(h64:vs.length<64)(hk:∀h',(∀b o,b≠a->s.heap.get? b=some o->h'.get? b=some o)->(2<=vs.length->∀Q:SortKind->Aj->Prop,Q U {s with heap:=h'}->Bo (Bw prog w) A (keyKind' vs.toArray) Q E {s with heap:=h'})/\∀x∈vs,∀y∈vs,∀C:Bool->Aj->Prop,(∀c,C c {s with heap:=h'})->Bo (Bw prog w) A (keyLt' U x y) C (λ_ _=>False) {s with heap:=h'})(h:∀out:List Ae,out.Perm vs->P (.done (.ret .none)) {s with heap:=sortedHeap s.heap a vs out.toArray}):Bo (Bw prog w) A (Mz.«list.sort» ⟨[.ref a],[]⟩) P E s:=by
 have hz:vs.length<=Ap:=Ah (Gz h64) (by decide);rw[list_sort_plain];have la:a<s.heap.objs.size:=Bi ho;refine Ac (listItems_at ho rfl ?_);refine Ac (listUpdate_at ho rfl ?_ (by simpa using hz) (Bf _));obtain⟨ep1,g1⟩:∃ep1,(s.heap.update a (Hl λ_=>#[])).get? a=some (Jg "list" #[] ep1):=⟨_,get?_update_seq ho (λ_=>#[])⟩;refine Ac (seqEpoch_at g1 rfl ?_);refine Ac (wpAny_newTuple ?_ (by simpa using hz));refine Ac (wpAny_newList ?_ (Bf _));refine Du ?_;have g6:(((s.heap.update a (Hl λ_=>#[])).push (Jg "tuple" vs.toArray 0)).push (Jg "list" #[] 0)).get? a=some (Jg "list" #[] ep1):=by
  rw[Heap.get?_push_ne _ _ _ (by rw[size_push',Heap.size_update];exact Bs (Hw la)),Heap.get?_push_ne _ _ _ (by rw[Heap.size_update];exact Bs la)];exact g1
 obtain⟨hk1,hk2⟩:=hk _ (λb o hb e=>Am _ (Am _ ((Hi _ _ (Co hb)).trans e)):∀b o,b≠a->s.heap.get? b=some o->(((s.heap.update a (Hl λ_=>#[])).push (Jg "tuple" vs.toArray 0)).push (Jg "list" #[] 0)).get? b=some o);show Bo (Bw prog w) A _ P E {s with heap:=((s.heap.update a (Hl λ_=>#[])).push (Jg "tuple" vs.toArray 0)).push (Jg "list" #[] 0)};dsimp only;have zl:vs.toArray.size=vs.length:=by simp
 have hpz:(vs.toArray.zip vs.toArray).toList.map (·.2)=vs:=by
  rw[Array.toList_zip];simp[List.map_snd_zip]
 have fin:∀st':SortSt,(arrOf st').Perm (vs.toArray.zip vs.toArray)->((arrOf st').map (·.2)).size<=Ap+1/\P (.done (.ret .none)) {s with heap:=sortedHeap s.heap a vs ((arrOf st').map (·.2))}:=λst' hp=>by
  have hp2:((arrOf st').map (·.2)).toList.Perm vs:=by
   have:=(Hy.mp hp).map (·.2);rw[hpz]at this;rw[Array.toList_map];exact this
  refine⟨?_,?_⟩
  .have:=hp2.length_eq;rw[Fx]at this;lia
  .have:=h _ hp2;rw[Kd]at this;exact this
 by_cases h2:vs.toArray.size<2
 .rw[if_pos h2,if_pos h2];refine Ac (Ao ?_);rw[StateT.run_pure];refine Ac (Ao ?_);obtain⟨f1,f2⟩:=fin (SortSt.mk' general' (vs.toArray.zip vs.toArray) #[] 7 none) (Array.Perm.refl _);dsimp only;refine Ac (seqEpoch_at g6 rfl ?_);refine Ac (listUpdate_at g6 rfl ?_ (Bf _) f1);simp only[bne_self_eq_false,Ea,if_false];exact Ao f2
 .rw[if_neg h2,if_neg h2];refine Ac (hk1 (by lia) _ ?_);have h2':2<=vs.length:=by lia
  refine Ac (Ht (kat_run (κ:=U) (ks:=vs) (vs:=vs) (Q:=λst' s'=>s' = {s with heap:=((s.heap.update a (Hl λ_=>#[])).push (Jg "tuple" vs.toArray 0)).push (Jg "list" #[] 0)}/\(arrOf st').Perm (vs.toArray.zip vs.toArray)/\failedOf st'=none) (G:=λp s'=>s' = {s with heap:=((s.heap.update a (Hl λ_=>#[])).push (Jg "tuple" vs.toArray 0)).push (Jg "list" #[] 0)}/\Pm vs.length p) rfl h2' h64 (λp st' s' hp ha hf hG=>⟨hG.1,?_,hf⟩)
   (eE.wp (n:=vs.length) (λi j C hi hj hC=>hk2 _ (LP hi) _ (LP hj) C hC) (λp hp=>⟨rfl,hp⟩) (zcE (by lia)))) ?_ λ_ _ e=>e)
  .rw[ha];have e:=kas_range (vs.toArray.zip vs.toArray);rw[show(vs.toArray.zip vs.toArray).size=vs.length by simp]at e;have e2:(p.map (kas_item (vs.toArray.zip vs.toArray))).Perm ((List.toArray (Bp vs.length)).map (kas_item (vs.toArray.zip vs.toArray))):=Hy.mpr (by rw[Array.toList_map,Array.toList_map];exact(Hy.mp hG.2).map _);rw[e]at e2;exact e2
  .rintro⟨⟨⟩,st'⟩ s' ⟨rfl,hp,hf⟩;obtain⟨f1,f2⟩:=fin st' hp;dsimp only;refine Ac (seqEpoch_at g6 rfl ?_);refine Ac (listUpdate_at g6 rfl ?_ (Bf _) f1);rw[hf];simp only[bne_self_eq_false,Ea,if_false];exact Ao f2
theorem lt_tups{sh:List Bool}{b:Bool}{x y:Ae}{C:Bool->Aj->Prop}(hx:rK s.heap sh x)(hy:rK s.heap sh y)(hC:∀c,C c s):Bo (Bw prog w) A (keyLt' (tuples' b) x y) C (λ_ _=>False) s:=by
 obtain⟨a,o,xs,n,rfl,h1,h2,h3,h4⟩:=hx;obtain⟨a',o',xs',n',rfl,g1,g2,g3,g4⟩:=hy;exact kat_lt h1 h3 g1 g3 (zX hC sh _ _ 0 h4 g4)
end
end Tsr
namespace L2
open PySem Spec PyProof.Rows Tsr
section
variable {X:Cx}
theorem z7:∀{ks:List aC} {us:List Ae},aW (ks.map kV) us->Shaped (ks.map isStr) us
 | [],_,.nil=>trivial
 | .inl i::ks,_,.cons h r=>by obtain⟨t,rfl⟩:=(show ∃t,_=Value.int i t from h);exact(z7 (ks:=ks) r)
 | .inr x::ks,_,.cons h r=>by obtain⟨t,rfl⟩:=(show ∃t,_=Value.str x t from h);exact(z7 (ks:=ks) r)
theorem zcF{P:Ca}{w:Ct}{H:Hp}{h:Heap}{b:Addr}{ks:List aC}(ok:cI P w H h)(e:H b=some (.tup (ks.map kV))):rK h (ks.map isStr) (.ref b):=by
 obtain⟨_,its,r,o,h1,h2,n,h3⟩:=(show b8 P w H h b (.tup (ks.map kV)) from ok b _ e);exact⟨b,o,its.toArray,n,rfl,h1,h2,h3,z7 (by simpa using r)⟩
theorem zcG(hc:X.calm=true):b7 X (.builtin "sorted") (λxs H Q=>∃(d:Addr) (ks:List (List aC×V)) (sh:List Bool),xs=[.ref d]/\Rd H d (.dT ks)/\(∀p∈ks,p.1.map isStr=true::sh)/\ks.length<64/\
  ∀L:List (List aC×Addr),(L.map Cu).Perm (ks.map Cu)->(∀q∈L,H q.2=some (.tup (q.1.map kV)))->∀p,H p=none->Q (.ref p) (aQ H p (.lst (L.map λq=>V.ref q.2)))):=by
 intro pins s Z H xs us Q I r h;obtain⟨d,ks,sh,rfl,hd,hsh,h64,q⟩:=h;obtain⟨u,rfl,ru⟩:=vals1 r;cases ru;obtain⟨es,ep,L,hat,hne,hsz,hz,hfst,hent,hL⟩:=zbd I.hok hd;refine Calls.call_function_entry kind_sorted plain_sorted entry_sorted (args_sorted1 _) ?_;unfold Mz.«sorted»;refine Ac (m:=checkCount "sorted" 1 1 _) (Ao (Ac (PySem.W.kdu_collect (A:=X.A.in1) (U6 (ep:=ep) (es:=es) hne) (I.ok.hd hc) hat (by rw[hsz];exact hz) λh' tk acc hk hacc=>?_)));have hac:acc.toList=L.map λq=>Value.ref q.2:=by
  refine List.ext_getElem? λi=>?_;rw[Em,Ax]
  by_cases hi:i<es.size
  .obtain⟨q',hq1,hq2⟩:=hent i es[i] (by simp[hi]);obtain⟨v,hv⟩:∃v,acc[i]? = some v:=⟨_,getElem?_pos acc i (by rw[hacc.1];exact hi)⟩;obtain⟨en,he,rfl⟩:=hacc.2 i v hv;have:en=es[i]:=by simpa [hi] using he.symm
   rw[hv,hq1,this,hq2];rfl
  .rw[getElem?_neg acc i (by rw[hacc.1];exact hi),Jw (by lia)];rfl
 have I1:Inv X pins Z H {s with heap:=h',toks:=tk}:=I.kept (t':=tk) hk;have hlz:acc.toList.length<=Ap:=by rw[hac,Aa];exact hz
 have hl64:acc.toList.length<64:=by rw[hac,Aa,<-Aa (f:=Cu),hfst,Aa];exact h64
 refine Ac (wpAny_newList ?_ hlz);have ho:(h'.push (Jg "list" acc.toList.toArray 0)).get? h'.objs.size=some (Jg "list" acc.toList.toArray 0):=Be _ rfl;have hin:∀{h2:Heap},(∀b o,b≠h'.objs.size->(h'.push (Jg "list" acc.toList.toArray 0)).get? b=some o->h2.get? b=some o)->∀v∈acc.toList,rK h2 (true::sh) v:=λ{h2} hk2 v hv=>by
  rw[hac]at hv;obtain⟨q',hq,rfl⟩:=Au.mp hv;obtain⟨b,o,its,n,e1,e2,e3,e4,e5⟩:=zcF I1.hok (hL q' hq);have hm:q'.1∈ks.map Cu:=by rw[<-hfst];exact Fz hq
  obtain⟨p',hp',hpe⟩:=Au.mp hm;rw[<-hpe,hsh p' hp']at e5;exact⟨b,o,its,n,e1,hk2 b o (Bs (Bi e2)) (Am _ e2),e3,e4,e5⟩
 refine Ac (Du (Fi slot_list_sort ⟨_,ho,rfl⟩ entry_list_sort (Tsr.list_sort64 (U:=tuples' true) ho hl64 (λh2 hk2=>⟨λh2' Q' hq'=>Tsr.kind_tups (sh:=sh) (by lia) (hin hk2) hq',λx hx y hy C hC=>Tsr.lt_tups (sh:=true::sh) (hin hk2 _ hx) (hin hk2 _ hy) hC⟩) λout hp=>⟨_,rfl,?_⟩) (args_list_sort _)));rw[hac]at hp;obtain⟨L',hp',rfl⟩:=L2.zbc hp L rfl;obtain⟨e,he⟩:=sortedHeap_at (out:=(L'.map λq=>Value.ref q.2).toArray) ho;have hlen:L'.length=L.length:=hp'.length_eq;have vals:aW (L'.map λq=>V.ref q.2) (L'.map λq=>Value.ref q.2):=by
  clear he hlen hp' hp
  induction L' with
  | nil=>exact .nil
  | cons z l ih=>exact .cons rfl ih
 refine Ao ⟨_,rfl,.ref h'.objs.size,_,I1.laid (o:=.lst (L'.map λq=>V.ref q.2)) (t':=tk) (λb o eb=>?_) (Ag _) ⟨by rw[Aa,hlen];exact hz,L'.map λq=>Value.ref q.2,e,vals,he⟩,rfl,q L' (by rw[<-hfst];exact hp'.map _) (λq' hq'=>hL q' (hp'.mem_iff.mp hq')) _ I1.fresh⟩;have hlt:b<h'.objs.size:=Bi eb;exact(sortedHeap_old (Bs hlt) (by rw[Er];exact Hw hlt)).trans (Am _ eb)
end
end L2
namespace L3
open PySem Spec PyProof.Rows L2
section
variable {X:Cx}
def LQ:List W->Mm->K3->Prop
 | [x],M,R=>∃kvs sh,zbe kvs x M/\(∀p∈kvs,p.1.map isStr=true::sh)/\kvs.length<64/\∀L:List (List aC),L.Perm (kvs.map Cu)->aZ (L.map λk=>.tup (k.map wK)) M R
 | _,_,_=>False
theorem zcH(hc:X.calm=true):b7 X (.builtin "sorted") (e8 X.K LQ):=by
 rintro pins s Z H xs us Q I rs ⟨ws,M,R,am,axs,h,k⟩
 match ws,h with
 | [x],h=>
  obtain⟨v,rfl,av⟩:=axs.one;obtain⟨kvs,sh,hd,hsh,h64,r⟩:=h;obtain⟨a,ks,rfl,rd,ke⟩:∃a ks,v=.ref a/\Rd H a (.dT ks)/\ks.map Cu=kvs.map Cu:=by
   cases av<;>first|exact(show False from hd).elim|skip
   case ref a=>obtain⟨ks,f,q⟩:=am _ _ (show M a=_ from hd);exact⟨a,ks,rfl,.inl f,q.keys⟩
   case dt a ks k e n ke q=>cases (show k=kvs from hd);exact⟨a,ks,rfl,.inl e,ke⟩
   case ft a o ks k e ke q=>cases (show k=kvs from hd);exact⟨a,ks,rfl,.inr ⟨o,e⟩,ke⟩
  refine zcG hc pins s Z H _ us Q I rs ⟨a,ks,sh,rfl,rd,λp hp=>?_,by have:=congrArg Dv ke;simp at this;lia,λL hp hL p hp'=>?_⟩
  .have hm:p.1∈kvs.map Cu:=by rw[<-ke];exact Fz hp
   obtain⟨p',h1,h2⟩:=Au.mp hm;rw[<-h2];exact hsh p' h1
  .have ax:aL X.K H M (L.map λq=>V.ref q.2) ((L.map Cu).map λk=>W.tup (k.map wK)):=by
    clear hp
    induction L with
    | nil=>exact .nil
    | cons z l ih=>exact .cons (.tup (hL z Ai) (yF z.1)) (ih λq hq=>hL q (Af _ hq))
   exact iJ am k hp' ax (r (L.map Cu) (by rw[<-ke];exact hp))
end
end L3
namespace L2
open PySem Spec PyProof.Rows
section
variable {X:Cx}
theorem uV{P:Ca}{w:Ct}{H:Hp}{h:Heap}{a:Addr}{ks:List (aC×V)}{o:Obj}(ok:cI P w H h)(e:H a=some (.frz o (.dK ks))):∃vs es ep,KV ks vs/\o.data=.dict es ep/\h.DictAt (cR P w) a vs ep/\(a==Fg)=false:=by
 obtain⟨ho,hz,hne,vs,rkv,o2,es,ep,h1,r⟩:=(show b8 P w H h a (.frz o (.dK ks)) from ok a _ e);rw[ho]at h1;cases h1;exact⟨vs,es,ep,rkv,r.2.1,⟨o,es,ho,r⟩,hne⟩
def uW(a:Addr)(o:Obj)(ks:List (aC×V)):It:=
 ⟨λi H=>H a=some (.frz o (.dK ks))/\i<ks.length,
   λi H x H'=>∃p z,ks[i]? = some z/\H p=none/\x=.ref p/\H'=aQ H p (.tup [kV z.1,z.2]),
   λi H=>H a=some (.frz o (.dK ks))/\i=ks.length⟩
theorem zcI{ks:List (aC×V)}{vs:List (aC×Ae)}(r:KV ks vs){i:Nat}{z:aC×V}(h:ks[i]? = some z):∃x,vs[i]? = some (z.1,x)/\RelV z.2 x:=by
 induction r generalizing i with
 | nil=>cases h
 | @cons p q ps qs hq t ih=>
  cases i with
  | zero=>cases h;obtain⟨q1,q2⟩:=q;cases hq.1;exact⟨q2,rfl,hq.2⟩
  | succ i=>rw[De]at h⊢;exact ih h
theorem zcJ{P:Ca}{w:Ct}{K:Ab}{es:List Expr}{kx:Nat}{px:Pos}(a it:Addr)(o:Obj)(ks:List (aC×V))(en:Array Fn)(ep:Nat)(hd:o.data=.dict en ep)(hai:a≠it):
  jL P w K (.Tuple es kx px) (uW a o ks) [it] it (λi h=>∃ok ov,IsItemIter h it a i ks.length ep ok ov) where
 mem:=by simp
 obj:=λi h st b hb=>by
  cases (by simpa using hb:b=it);obtain⟨ok,ov,e⟩:=st;exact⟨_,e,λv z=>by cases z⟩
 keep:=λi h h' st k=>by
  obtain⟨ok,ov,e⟩:=st;exact⟨ok,ov,k it (by simp) _ e⟩
 item:=by
  intro X hP hw hK hc i pins s Z H E I hf st hg;subst hP hw hK;obtain⟨ok,ov,h1⟩:=st;obtain⟨e1,hi⟩:=hg;obtain⟨vs,es',ep',rkv,hd',hat,_⟩:=uV I.hok e1;cases hd.symm.trans hd';obtain⟨z,hz⟩:∃z,ks[i]? = some z:=⟨_,Bc hi⟩;obtain⟨x,hx,rx⟩:=zcI rkv hz;rw[rkv.length]at h1;refine wpAny_pyNext_items_item h1 hat hx λkey h' hkey ho hT hsz hk=>?_;refine⟨_,rfl,wpAny_letOwnedTupleGo_items ho λh'' e' sb=>?_⟩;have hfr:H s.heap.objs.size=none:=I.hok.fresh (Ag _);have lti:it<s.heap.objs.size:=Bi h1;have keep2:∀q o,q∉[it]->s.heap.get? q=some o->h''.get? q=some o:=λq o hq eq=>by
   have hq:q≠it:=by simpa using hq
   exact(sb.2 q hq).trans (hk q o hq eq)
  have hp2:h''.get? s.heap.objs.size=some {cls:=.type "tuple",data:=.seq [key,x].toArray}:=(sb.2 _ (Hm lti)).trans hT;have I1:Inv X pins Z (aQ H s.heap.objs.size (.tup [kV z.1,z.2])) {s with heap:=h'',toks:=s.toks}:=I.laidT (its:=[key,x]) hf keep2 (by show 2<=Ap;decide) (.cons (sE hkey) (.cons rx .nil)) hp2;refine⟨.ref s.heap.objs.size,_,I1,rfl,⟨s.heap.objs.size,z,hz,hfr,rfl,rfl⟩,⟨key,x,by rw[rkv.length];exact e'⟩,λq hq=>?_⟩;rw[bI]
  .exact(hf q hq).1
  .cases (by simpa using hq:q=it);exact Bs lti
 done:=by
  intro X hP hw hK hc i pins s Z H E I hf st hg;subst hP hw hK;obtain⟨ok,ov,h1⟩:=st;obtain⟨e1,rfl⟩:=hg;obtain⟨vs,es',ep',rkv,hd',hat,_⟩:=uV I.hok e1;cases hd.symm.trans hd';rw[rkv.length]at h1;refine wpAny_pyNext_items_end (I.ok.hd hc) h1 hat (by simp) λh' hk=>⟨rfl,?_⟩
  exact I.turnedT (tk:=s.toks) hf λq o hq eq=>hk q o (λz=>hq (by simp[z])) eq
 self:=λ_ _ _ _ _ st h=>by
  obtain⟨ok,ov,e⟩:=st;exact PySem.W.kcp_self e h
abbrev rItems:V->List V->Hp->VK->Prop:=λx vs H Q=>∃a o ks,x=.ref a/\vs=[]/\H a=some (.frz o (.dK ks))/\∀p,H p=none->Q (.ref p) (aQ H p (.ext λh=>h.IsItemsView p a))
theorem zcK:iS X "dict.items" rItems:=by
 rintro pins s Z H x vs v us Q I rx rs ⟨a,o,ks,rfl,rfl,e,q⟩;cases (show v=Value.ref a from rx);cases rs;obtain⟨vs,es,ep,rkv,hd,hat,hne⟩:=uV I.hok e;refine Jc PySem.F.slot_dict_items hat.dictOf.typeIs PySem.F.entry_dict_items (PySem.F.args_dict_items_1 _) (meets_dict_items (cR X.prog X.w) a hne) ⟨⟨vs,hat.dictOf⟩,?_⟩;have hf:=I.hok.fresh (Ag s.heap.objs.size);exact⟨.ref s.heap.objs.size,_,I.laid (a:=s.heap.objs.size) (o:=.ext λh=>h.IsItemsView s.heap.objs.size a) (t':=s.toks) (λ_ _ z=>Am _ z) (Ag _) ⟨⟨_,Be _ rfl,rfl,rfl⟩,⟨_,Be _ rfl⟩,λh1 h2 ⟨o,ho,r⟩ kk=>⟨o,kk o ho,r⟩⟩,rfl,q _ hf⟩
end
end L2
namespace L3
open PySem Spec PyProof.Rows L2
section
variable {X:Cx}
def LR(to:aY):h8:=λτ M R=>to τ M λd M1=>∃kvs,d=.fk kvs/\R (kvs.map λp=>.tup [wK p.1,p.2]) (λ_=>True) M1
theorem zcL{K:Ab}{H0:Hp}{M0:Mm}{a:Addr}{o:Obj}{ks:List (aC×V)}{kvs:List (aC×W)}(am0:AM K H0 M0)(e:H0 a=some (.frz o (.dK ks)))(q0:bJ K H0 M0 aC ks kvs):iM K H0 M0 (uW a o ks) (kvs.map λp=>.tup [wK p.1,p.2]) λ_=>True:=by
 have st:∀H M,Kp H0 M0 H M->H a=some (.frz o (.dK ks)):=λH M k=>(k.fr _ _ (am0.noFrz e) e).1;have hl:=Dr q0;refine⟨λi H M k am _ hi=>⟨st H M k,by rw[Aa]at hi;lia⟩,λH M k am _=>⟨st H M k,by rw[Aa];lia⟩,λi H M x H' k am _ hi y=>?_⟩;obtain⟨pp,z,hz,hn,rfl,rfl⟩:=y;obtain⟨y,hy,e1,av⟩:∃y,kvs[i]? = some y/\z.1=y.1/\AV K H0 M0 z.2 y.2:=by
  have:∀{ks:List (aC×V)} {kvs:List (aC×W)} {i:Nat},bJ K H0 M0 aC ks kvs->ks[i]? = some z->∃y,kvs[i]? = some y/\z.1=y.1/\AV K H0 M0 z.2 y.2:=by
   intro ks kvs i r
   induction r generalizing i with
   | nil=>intro h;cases h
   | @cons p q ps qs hq t ih=>
    intro h;cases i with
    | zero=>cases h;exact⟨q,rfl,hq⟩
    | succ i=>rw[De]at h⊢;exact ih h
  exact this q0 hz
 obtain⟨am2,k2⟩:=am.tup (u:=.tup [kV z.1,z.2]) hn;exact⟨.tup [wK y.1,y.2],by rw[Ax,hy];rfl,k2,am2,.tup cU (.cons (by rw[e1];exact JK _) (.cons ((av.kp am0 k).go (go_same hn)) .nil))⟩
theorem zcM{o:Expr}{to:aY}{es:List Expr}{kx:Nat}{px apos cpos:Pos}(ho:E3 X o to)(hbase:Ia o "items" X.env (eval o X.env)=eval o X.env:=by rfl)(hline:(apos.endLine==cpos.line)=true:=by rfl):
  PI X (.Tuple es kx px) (.Call (.Attribute o "items" apos) [] [] cpos) (gS X.K (LR to)):=by
 intro pins s Z H R' I ⟨τ,M,R,as,am,h,k⟩;refine a8 (EH PySem.F.plainAttrs_dict PySem.F.slot_dict_items PySem.F.type_dict_items zcK ho hbase hline pins s Z H (λx H2=>∃p a o ks,x=.ref p/\H2 p=some (.ext λh=>h.IsItemsView p a)/\H2 a=some (.frz o (.dK ks))/\R' (uW a o ks) H2) I ⟨τ,M,_,as,am,h,λd H1 wd M1 k1 am1 ad ⟨kvs,e1,r⟩=>?_⟩) λv s2 ⟨x,H2,I2,r2,p,a,o,ks,ex,ep,ea,q⟩=>?_
 .subst e1;cases ad with
  | @fk a o2 ks _ e ke q=>
   refine⟨.inr (.inr (.inl ⟨rfl,.inl ⟨_,.inr ⟨_,e⟩⟩⟩)),a,o2,ks,rfl,rfl,e,λp hp=>?_⟩;obtain⟨am2,k2⟩:=am1.tup (u:=.ext λh=>h.IsItemsView p a) hp;have e2:aQ H1 p (.ext λh=>h.IsItemsView p a) a=some (.frz o2 (.dK ks)):=(bI (e7 e hp)).trans e;exact⟨p,a,o2,ks,rfl,cU,e2,k _ _ _ _ _ (k1.trans k2) am2 (zcL am2 e2 (mX ke (q.newT hp))) r⟩
 .subst ex;cases (show v=Value.ref p from r2);have hv:s2.heap.IsItemsView p a:=(show b8 X.prog X.w H2 s2.heap p (.ext λh=>h.IsItemsView p a) from I2.hok p _ ep).1;obtain⟨vs,es',ep',rkv,hd,hat,_⟩:=uV I2.hok ea;have hge:s2.heap.objs.size<=s2.heap.objs.size:=Ag _;refine wpAny_pyIter_items hv hat ⟨s2.heap.objs.size,[s2.heap.objs.size],_,uW a o ks,H2,rfl,I2.kept (t':=s2.toks) λb o e=>Am _ e,zcJ a _ o ks es' ep' hd (Bs hat.lt_size),⟨.none,.none,by rw[rkv.length];exact Be _ rfl⟩,λb hb=>?_,q⟩;cases (by simpa using hb:b=s2.heap.objs.size);exact I2.fpOk hge (I2.hok.fresh hge)
end
end L3
namespace L2
open PySem Spec PyProof.Rows
section
variable {X:Cx}
theorem zcN:a9 X (Ek .Add) (λx y H Q=>∃a b xs,x=.ref a/\y=.ref b/\bU X.K H a []/\bU X.K H b xs/\Q (.ref b) H):=by
 rintro pins s Z H x y v u Q I rx ry ⟨a,b,xs,rfl,rfl,ha,hb,q⟩;cases (show v=Value.ref a from rx);cases (show u=Value.ref b from ry);obtain⟨its,rv,⟨⟨cls,dd,data,sl⟩,ho,hc,n,hd⟩,_⟩:=I.tuple ha;obtain⟨its2,rv2,⟨⟨cls2,dd2,data2,sl2⟩,ho2,hc2,n2,hd2⟩,_⟩:=I.tuple hb;cases rv;simp only at hc hd hc2 hd2;subst hc hd hc2 hd2;exact concat_meets ⟨_,ho,rfl⟩ ⟨_,ho2,rfl⟩ noFill_tuple_add seq_tuple_add Lw Lj (Kz _ _) (tuple_addW0 a b _ its2.toArray n n2 dd dd2 sl sl2 rfl) ⟨ho,ho2,.ref b,H,I,rfl,q⟩
end
end L2
namespace L3
open PySem Spec PyProof.Rows L2
section
variable {X:Cx}{a b:Expr}{ta tb:aY}{pos:Pos}
def LU:R3:=λx y M R=>∃xs ys,x=.tup xs/\y=.tup ys/\xs.length+ys.length<=Ap/\R (.tup (xs++ys)) M
theorem zcO:a9 X (Ek .Add) (cJ X.K LU):=by
 rintro pins s Z H x y v u Q I rx ry ⟨wx,wy,M,R,am,ax,ay,⟨xs,ys,rfl,rfl,hl,r⟩,k⟩
 by_cases hx:xs=[]
 .subst hx;refine ax.tupE λa1 v1 e1 f1 q1=>ay.tupE λa2 v2 e2 f2 q2=>?_;cases q1.nil_;exact zcN pins s Z H x y v u Q I rx ry ⟨a1,a2,v2,e1,e2,bU.of f1,bU.of f2,by rw[<-e2];exact k.at am ay r⟩
 .exact dU pins s Z H x y v u Q I rx ry ⟨.tup xs,.tup ys,M,R,am,ax,ay,⟨hx,hl,r⟩,k⟩
end
end L3
namespace L2
open PySem Spec PyProof.Rows
def uX(lo:Int)(n:Nat):It:=⟨λi _=>i<n,λi H x H'=>H'=H/\x=.int (lo+i*(-1)),λi _=>n<=i⟩
theorem zcP{P:Ca}{w:Ct}{K:Ab}{tg:Expr}(it:Addr)(lo:Int)(n:Nat):jL P w K tg (uX lo n) [it] it (λi h=>IsRangeIter h it (lo+(i:Nat)*(-1)) ((n:Int)-(i:Nat)) (-1)) where
 mem:=by simp
 obj:=λi h st b hb=>by
  cases An.mp hb;exact⟨_,st,λv z=>nomatch (show Data.fields _=Data.cell v from z)⟩
 keep:=λi h h' st k=>k it (by simp) _ st
 item:=by
  intro X hP hw hK hc i pins s Z H E I hf st hg;subst hP hw hK;have ⟨f0,f1,_,f3,f4,f5⟩:=hf it (by simp);refine(Walks.range (prog:=X.prog) (w:=X.w) (I.ok.hd hc) it lo (-1) n).item i s _ _ hg st λv h' tk hv st' kk=>?_;obtain⟨t,rfl⟩:=hv;exact⟨_,rfl,pK (s:={s with heap:=h',toks:=tk}) (n:="range_iterator") st' rfl rfl (by decide) ⟨.int (lo+i*(-1)),H,I.turned (λb o hb e=>kk b o (by simpa using hb) e) f0 f1 f3 f4 f5,⟨t,rfl⟩,⟨rfl,rfl⟩,st',λb hb=>(hf b hb).1⟩⟩
 done:=by
  intro X hP hw hK hc i pins s Z H E I hf st hg;subst hP hw hK;have ⟨f0,f1,_,f3,f4,f5⟩:=hf it (by simp);exact wpAny_pyNext_range_end (I.ok.hd hc) st (by have:n<=i:=hg;lia) λh' eb=>⟨rfl,I.turned (t':=s.toks) (λb o hb e=>eb b o hb e) f0 f1 f3 f4 f5⟩
 self:=λ_ _ _ _ _ st h=>wpAny_pyIter_rangeiter st h
def kQ(lo hi:Int):Nat:=(lo-hi).toNat
theorem LV{lo hi:Int}:Ie lo hi (-1)=(kQ lo hi:Nat):=by
 unfold Ie kQ;rw[if_neg (by decide),show(- -1:Int)=1 from rfl,Int.ediv_one];split<;>lia
theorem zcQ{a b:Int}(ha : -(2 ^ 61)<=a)(ha':a<2 ^ 61)(hb : -(2 ^ 61)<=b)(hb':b<2 ^ 61):Lx a b (-1)=true:=by
 unfold Lx;rw[LV];unfold kQ;simp only[Builtin.Range.rangeFitsLong,Cw,Bool.or_eq_true,decide_eq_true_eq,beq_iff_eq,show ¬(-1:Int) > 0 by decide,if_false];lia
section
variable {X:Cx}{tg:Expr}
theorem zcR{pins:List (Addr×Obj)}{Z:St}{H:Hp}{s:Aj}{R:It->Hp->Prop}{E:Ae->Aj->Prop}{lo hi:Int}{t u v:Tok}{tk:Nat}(I:Inv X pins Z H s)(hs:Lx lo hi (-1)=true)(q:R (uX lo (kQ lo hi)) H):Bo (Bw X.prog X.w) X.A (pyIter (.ref s.heap.objs.size)) (rS X pins Z tg R) E {s with heap:=s.heap.push {cls:=.type "range",data:=.fields #[.int lo t,.int hi u,.int (-1) v]},toks:=tk}:=by
 obtain⟨h1,e1⟩:∃h1,h1=s.heap.push {cls:=.type "range",data:=.fields #[.int lo t,.int hi u,.int (-1) v]}:=⟨_,rfl⟩;refine wpAny_pyIter_range (IsRange.new ..) hs ?_;rw[<-e1];have I1:Inv X pins Z H {s with heap:=h1,toks:=tk}:=I.kept λb o e=>by rw[e1];exact Am _ e
 refine⟨h1.objs.size,[h1.objs.size],_,_,H,rfl,I1.kept (t':=tk) λb o e=>Am _ e,zcP _ lo (kQ lo hi),?_,λb hb=>?_,q⟩
 .show IsRangeIter _ _ (lo+((0:Nat):Int)*(-1)) (((kQ lo hi:Nat):Int)-((0:Nat):Int)) (-1);rw[<-LV,Int.natCast_zero,Int.zero_mul,Int.add_zero,Int.sub_zero];exact Be _ rfl
 .cases An.mp hb;exact I1.fpOk (Ag _) (I1.hok.fresh (Ag _))
def zcS(ta:TA):TI:=λZ H R=>ta Z H λvs H1=>∃i j:Int,vs=[.int i,.int j,.int (-1)]/\(-(2 ^ 61)<=i/\i<2 ^ 61/\-(2 ^ 61)<=j/\j<2 ^ 61)/\R (uX i (kQ i j)) H1
theorem zcT{a b c:Expr}{ta:TA}{p pos:Pos}(hg:Gl X "range")(hm:X.mg "range" = none)(ha:PA X [a,b,c] ta)(hs:Br [a,b,c] X.env=(false,eval a X.env)::Br [b,c] X.env:=by rfl)(hs2:Br [b,c] X.env=[(false,eval b X.env),(false,eval c X.env)]:=by rfl):
  PI X tg (.Call (.Name "range" p) [a,b,c] [] pos) (zcS ta):=by
 intro pins s Z H R I h;refine Call_ (kW I hg hm boot_range (Eb (a8 (ha pos pins s Z H _ I h) λus s1 ⟨vs,H1,I1,r1,q1⟩=>?_) (by rw[hs]) (by rw[hs2];rfl)));obtain⟨i,j,e,⟨q1,q2,q3,q4⟩,q⟩:=q1;subst e;cases r1 with
 | cons r rr=>
  cases rr with
  | cons r' rr=>
   cases rr with
   | cons r'' rr=>
    cases rr;obtain⟨t,rfl⟩:=r;obtain⟨t',rfl⟩:=r';obtain⟨t'',rfl⟩:=r'';exact call_range_3 (by decide) (zcR I1 (zcQ q1 q2 q3 q4) q) (.inl (PyProof.noPylong_small (by decide)))
end
end L2
namespace L3
open PySem Spec PyProof.Rows L2
section
variable {X:Cx}{tg a b c:Expr}
def kR(lo:Int)(n:Nat):List W:=(Bp n).map λi=>W.int (lo+(i:Nat)*(-1))
theorem zcU{K:Ab}{H0:Hp}{M0:Mm}{lo:Int}{n:Nat}:iM K H0 M0 (uX lo n) (kR lo n) λ_=>True where
 go:=λi H M _ am _ hi=>by show i<n;simpa [kR] using hi
 stop:=λH M _ am _=>by show n<=_;simp[kR]
 yld:=λi H M x H' _ am _ hi y=>by
  obtain⟨rfl,rfl⟩:=y;have hi:i<n:=by simpa [kR] using hi
  exact⟨.int (lo+i*(-1)),by simp[kR,hi],Kp.refl am,am,.int _⟩
def LW(ta:dP):h8:=λτ M R=>ta τ M λws M1=>∃i j:Int,ws=[.int i,.int j,.int (-1)]/\(-(2 ^ 61)<=i/\i<2 ^ 61/\-(2 ^ 61)<=j/\j<2 ^ 61)/\R (kR i (kQ i j)) (λ_=>True) M1
theorem zcV{tA:dP}{p pos:Pos}(hg:Gl X "range")(hm:X.mg "range" = none)(ha:A3 X [a,b,c] tA)(hs:Br [a,b,c] X.env=(false,eval a X.env)::Br [b,c] X.env:=by rfl)(hs2:Br [b,c] X.env=[(false,eval b X.env),(false,eval c X.env)]:=by rfl):
  PI X tg (.Call (.Name "range" p) [a,b,c] [] pos) (gS X.K (LW tA)):=
 (zcT hg hm ha hs hs2).weak λZ H R' ⟨τ,M,R,as,am,h,k⟩=>⟨τ,M,_,as,am,h,λvs H1 ws M1 k1 am1 ax ⟨i,j,e,h1,r⟩=>by
  subst e;cases ax with
  | cons av ax=>
   obtain⟨u,w,rfl,au,aw⟩:=ax.two;cases av;cases au;cases aw;exact⟨i,j,rfl,h1,k _ _ _ _ _ k1 am1 zcU r⟩⟩
end
section
variable {X:Cx}
def LX(i:Nat)(t:aH):aH:=λD τ M=>∃p kvs,τ[i]? = some (some (.ref p))/\M p=some (.dK kvs)/\t D (τ.set i (some (.fk kvs))) (del M p)
theorem zcW{K:Ab}{H:Hp}{M:Mm}{Z:SV}{τ:S3}{i:Nat}{v:V}{w:W}(h:AS K H M Z τ)(e:Z[i]? = some (some v))(a:AV K H M v w):AS K H M Z (τ.set i (some w)):=by
 have:=h.set a i;rwa [show Z.set i (some v)=Z from by
  apply List.ext_getElem?;intro j;rw[List.getElem?_set];split
  .rename_i z;subst z;split
   .exact e.symm
   .rename_i q;rw[Jw (by lia)]at e;cases e
  .rfl]at this
theorem zcX{i:Nat}{st:Stmt}{t:aH}(h:P3 X st t):P3 X st (LX i t):=by
 rintro pins s Z H E I ⟨τ,M,D,as,am,⟨p,kvs,e1,e2,h'⟩,k⟩;obtain⟨ks,f,q⟩:=am _ _ e2;obtain⟨o,I2⟩:=I.frzD f (.inl ⟨_,rfl⟩);obtain⟨g,am2,k2⟩:=tX (o:=o) am e2 (.inl ⟨_,rfl⟩) f;obtain⟨v,z1,z2⟩:=as.get e1;obtain rfl:=z2.inv;exact h pins s Z _ E I2 ⟨_,_,D,zcW (as.kp am k2) z1 (.fk cU q.keys (q.vals.go g)),am2,h',k.kp k2⟩
end
end L3
namespace Rg
open PySem Spec PyProof.Rows L2 L3
def LY:bM:=λws M R=>∃(rs:List aP) (U:List Str),ws=[bL rs]/\rs.length<=100/\U.length<64/\JS rs U/\∀ss:List Str,JS rs ss->ss.Nodup->(∀t∈ss,t∈U)->R (.rl (ss.map W.str)) M
abbrev zcY:List Str:=["grammar","own","found","rule","part"]
def zcZ:aH:=
   (bB 1 (b9 yR (aB (cP (b9 tP (aB (aA 0) aE))) aE)))
def zc0:aH:=
   (bB 2 sP)
def zc1:aH:=
   (c9 (cC d8 (aF aX (aA 3) (vC (.int 1)))) (bC 4)
    (dR (b5 (aF (rIn true) (aA 4) (aA 1)))
    (iL (vC (.bl true)) (hZ (aA 2) (aA 4)))
    eU))
def zc2:aH:=
   (c9 (cC d8 (aA 0)) (bC 3) zc1)
def zc3:aH:=
   (cL (bN G8 (aB (cP (aA 2)) aE)))
def zc4:aH:=(aM zcZ (aM zc0 (aM zc2 zc3)))
theorem zc5{ws:List W}{M:Mm}{R:K3}(h:LY ws M R):zc4 (bQ R) (bY zcY ws) M:=by
 obtain⟨rs,U,rfl,hl,hU,aU,r⟩:=h;refine⟨_,rfl,rs,rfl,Ah hl (by decide),aZ.frz ?_⟩;refine⟨namesOf rs,rfl,by have:=zbv rs;lia,?_⟩;obtain⟨ow,how⟩:∃ow,ow=(((namesOf rs).foldl cZ []).map bR):=⟨_,rfl⟩;have lo:∀t,(aV ow (Sum.inr t:aC)).isSome=a7 rs t:=λt=>by rw[how];exact KO rs t
 rw[<-how];refine λp hp=>⟨_,rfl,fU ?_⟩
 refine xY (λi τ M'=>∃(ss:List Str) (o3 o4:Option W),τ=[some (.rl (rs.map eX)),some (.dk ow),some (.ref p),o3,o4]/\M'=put M p (.dK (ss.map bR))/\ss.Nodup/\(∀t∈ss,t∈U)/\∀q∈rs.take i,∀t∈q.parts,a7 rs t=false->t∈ss) ⟨[],_,_,rfl,rfl,Gf,by simp,by simp⟩ ?_ ?_
 .rintro i w τ M' hw ⟨ss,o3,o4,rfl,rfl,nd,hsU,hin⟩;rw[Ax]at hw;obtain⟨q,hq,rfl⟩:=Bb.mp hw;refine⟨_,rfl,_,rfl,?_⟩;refine xY (ws:=q.parts.map W.str) (λj τ M'=>∃(s2:List Str) (o4:Option W),τ=[some (.rl (rs.map eX)),some (.dk ow),some (.ref p),some (eX q),o4]/\M'=put M p (.dK (s2.map bR))/\s2.Nodup/\(∀t∈s2,t∈U)/\(∀t∈ss,t∈s2)/\∀t∈q.parts.take j,a7 rs t=false->t∈s2) ⟨ss,_,rfl,rfl,nd,hsU,λ_ h=>h,by simp⟩ ?_ ?_
  .rintro j w τ M' hw ⟨s2,o4,rfl,rfl,nd2,hsU2,hs2,hin2⟩;rw[Ax]at hw;obtain⟨t,ht,rfl⟩:=Bb.mp hw;refine⟨_,rfl,_,rfl,_,⟨Sum.inr t,rfl,rfl⟩,_,rfl,?_⟩;show if (!(aV ow (Sum.inr t:aC)).isSome)=true then _ else _;rw[lo t];cases ho:a7 rs t with
   | true=>
    refine⟨_,Sub.refl _,s2,_,rfl,rfl,nd2,hsU2,hs2,λx hx hox=>?_⟩;rw[gE ht]at hx;rcases Aw.mp hx with z|z
    .exact hin2 x z hox
    .rw[An.mp z,ho]at hox;cases hox
   | false=>
    have hl2:s2.length<=U.length:=len_sub nd2 hsU2;refine⟨_,rfl,_,rfl,sW aS (by rw[Aa];exact dW (by lia)) ⟨_,Sub.refl _,cZ s2 t,_,rfl,by rw[gK,qV],K5 nd2,λx hx=>?_,λx hx=>qI.mpr (.inl (hs2 x hx)),λx hx hox=>?_⟩⟩
    .rcases qI.mp hx with z|z
     .exact hsU2 x z
     .rw[z];exact aU q (Bl hq) t (Bl ht) ho
    .rw[gE ht]at hx;rcases Aw.mp hx with z|z
     .exact qI.mpr (.inl (hin2 x z hox))
     .exact qI.mpr (.inr (by simpa using z))
  .rintro τ M' ⟨s2,o4,rfl,rfl,nd2,hsU2,hs2,hin2⟩;rw[Aa,Cb]at hin2;refine⟨_,Sub.refl _,s2,_,_,rfl,rfl,nd2,hsU2,λx hx t ht ho=>?_⟩;rw[gE hq]at hx;rcases Aw.mp hx with z|z
   .exact hs2 t (hin x z t ht ho)
   .rw[An.mp z]at ht;exact hin2 t ht ho
 .rintro τ M' ⟨ss,o3,o4,rfl,rfl,nd,hsU,hin⟩;rw[Aa,Cb]at hin;refine⟨_,rfl,VE hp ?_⟩;have hl2:ss.length<=U.length:=len_sub nd hsU;refine⟨ss,by rw[Bd];rfl,by lia,λs3 hperm=>⟨_,Sub.refl _,r s3 (λq hq t ht ho=>hperm.mem_iff.mpr (hin q hq t ht ho)) (hperm.nodup_iff.mpr nd) λt ht=>hsU t (hperm.mem_iff.mp ht)⟩⟩
end Rg
namespace M74
open PySem Spec PyProof.Rows L2 L3 Rg M47
def cE:On->W
 | none=>.non
 | some a=>.int a
def pW(p:Nat×On):W:=.tup [.int p.1,cE p.2]
def kT(i k l:Nat):List aC:=[Sum.inl (i:Int),Sum.inl (k:Int),Sum.inl (l:Int)]
def numsOf(rs:List aP)(X:Str):List Nat:=(rs.zipIdx.filter λx=>decide (x.1.name=X)).map (·.2)
abbrev fH:=List (Str×List Str)
def dB(lk:fH):List (aC×W):=lk.map λx=>(Sum.inr x.1,.rl (x.2.map W.str))
structure LZ(rs:List aP)(lk:fH):Prop where
 nm:lk.map (·.1)=namesOf rs
 mem:∀x∈lk,∀Y,Y∈x.2↔Lk rs x.1 Y
 few:∀x∈lk,x.2.length<=100
structure LA where
 s:Addr
 d:Addr
 z:Addr
 t:Addr
 A:Str->Addr
def iY(rs:List aP):List (aC×W):=(namesOf rs).map λX=>(Sum.inr X,.rl ((numsOf rs X).map λ(n:Nat)=>W.int n))
def lf(rs:List aP)(lk:fH)(A:LA):List (Str×W):=[("grammar",bL rs),("links",.fk (dB lk)),("numbers",.dk (iY rs)),("sizes",.ref A.z),("tails",.ref A.t)]
structure LS(C:Cc)(rs:List aP)(lk:fH)(ts:List Str)(M0 M:Mm)(A:LA)(L:Nat)(D:List Str)(kv:List (List aC×W)):Prop where
 sub:L3.Sub M0 M
 ns:M0 A.s=none
 nz:M0 A.z=none
 nt:M0 A.t=none
 nl:∀t∈ts,M0 (A.A t)=none
 inj:∀t∈ts,∀u∈ts,A.A t=A.A u->t=u
 os:M A.s=some (.ins C.f A.d (lf rs lk A))
 oz:M A.z=some (.dK (ts.map λt=>(Sum.inr t,.ref (A.A t))))
 ot:M A.t=some (.dT kv)
 ol:∀t∈ts,M (A.A t)=some (.lst ((eN rs L D t).map pW))
structure zc6(rs:List aP)(ts:List Str):Prop where
 own:∀X∈namesOf rs,X∈ts
 prt:∀r∈rs,∀t∈r.parts,t∈ts
 nd:ts.Nodup
 few:ts.length<=100
def TK(rs:List aP)(kv:List (List aC×W))(L:Nat):Prop:=∀i r,rs[i]? = some r->∀k,k<=r.parts.length->∀l,l<L->aV kv (kT i k l)=some (cE (eM (a7 rs) (cM (PR rs)) (r.parts.drop k) l))
structure Lg(rs:List aP)(lk:fH)(ts:List Str)(L:Nat):Prop where
 g:fG rs
 lk:LZ rs lk
 ts:zc6 rs ts
 l4:L<=4
def uY:bM:=λws M R=>∃ts:List Str,ws=[.rl (ts.map W.str)]/\ts.length<=400/\pV ((ts.foldl cZ []).map bR) M R
def zc7:aH:=
   (cL (bN oM (aB (cP (eW (cC d8 (aA 0)) (bC 0) fY (bP (aB (aA 0) (aB (vC (.bl true)) aE))) [none])) aE)))
def L0:bM:=λws M R=>∃(rs:List aP) (X:Str),ws=[bL rs,.str X]/\rs.length<=100/\aZ ((numsOf rs X).map λ(n:Nat)=>W.int n) M R
def L1(C:Cc):bM:=λws M R=>∃(rs:List aP) (row:List Str),ws=[bL rs,zG row,.rl (rs.map λ_=>W.int 0)]/\oY rs/\zb7 row/\∀B,jH (iQ rs row) B->jN (eC fK iX B) M R
def L4(C:Cc):bM:=λws M R=>∃rs:List aP,ws=[bL rs,.rl []]/\fG rs/\∀fs:List cT,fs.length<=100->(∀X,(∃f∈fs,f.1=X)↔j7 rs X)->aZ (fs.map λf=>.tup ((fK f).map wK)) M R
def L5:bM:=λws M R=>∃(a:Addr) (lk:fH),ws=[.ref a]/\M a=some (.dK (dB lk))/\(lk.map (·.1)).Nodup/\lk.length<=100/\(∀x∈lk,x.2.length<=100)/\
 ∀D:List Str,D.Nodup->(∀X∈D,X∈lk.map (·.1))->(∀pre X post,D=pre++X::post->∀x∈lk,x.1=X->∀Y∈x.2,Y∈pre)->(∀x∈lk,x.1∉D->∃Y∈x.2,Y∉D)->pV (D.map bR) M R
def Sh(a:On):Prop:=∀x,a=some x->x.log2<100000
def L6:bM:=λws M R=>∃a b:On,ws=[cE a,cE b]/\Sh a/\Sh b/\R (cE (tO a b)) M
def z8:bM:=λws M R=>∃l:List On,ws=[.rl (l.map cE)]/\R (cE (sO l)) M
def L7(C:Cc):bM:=λws M R=>∃rs:List aP,ws=[bL rs]/\fG rs/\∀(lk:fH) (A:Str->Addr) (d:Addr) (M':Mm),LZ rs lk->L3.Sub M M'->M d=none->(∀x∈lk,M (A x.1)=none)->M' d=some (.dK (lk.map λx=>(Sum.inr x.1,.ref (A x.1))))->(∀x∈lk,M' (A x.1)=some (.lst (x.2.map W.str)))->R (.ref d) M'
def L8(C:Cc):bM:=λws M R=>∃(M0:Mm) (s dx:Addr) (rs:List aP),ws=[.ref s,bL rs]/\fG rs/\M=put M0 s (.ins C.f dx [])/\M0 s=none/\∀M' A lk ts,A.s=s->Lg rs lk ts 0->LS C rs lk ts M0 M' A 0 [] []->R .non M'
def L9(C:Cc):bM:=λws M R=>∃rs lk ts M0 A L D kv i r,ws=[.ref A.s,.int (i:Nat),.int (L:Nat)]/\Lg rs lk ts L/\LS C rs lk ts M0 M A L D kv/\rs[i]? = some r/\TK rs kv L/\(∀X∈D,pos (PR rs) (X,L))/\kv.length<=10000/\
 ∀M' kv',LS C rs lk ts M0 M' A L D kv'->(∀key,(∀k,key≠kT i k L)->aV kv' key=aV kv key)->(∀k,k<=r.parts.length->aV kv' (kT i k L)=some (cE (eM (a7 rs) (cD rs L D) (r.parts.drop k) L)))->kv'.length<=kv.length+4->R .non M'
def FD(rs:List aP)(kv:List (List aC×W))(L:Nat)(D:List Str)(ns:List Nat):Prop:=∀i∈ns,∀r,rs[i]? = some r->∀k,k<=r.parts.length->aV kv (kT i k L)=some (cE (eM (a7 rs) (cD rs L D) (r.parts.drop k) L))
def uZ(C:Cc):bM:=λws M R=>∃rs lk ts M0 A L D kv X,ws=[.ref A.s,.str X,.int (L:Nat)]/\Lg rs lk ts L/\LS C rs lk ts M0 M A L D kv/\X∈namesOf rs/\TK rs kv L/\(∀X∈D,pos (PR rs) (X,L))/\kv.length<=9000/\
 ∀M' kv',LS C rs lk ts M0 M' A L D kv'->TK rs kv' L->FD rs kv' L D (numsOf rs X)->(∀ns,FD rs kv L D ns->FD rs kv' L D ns)->kv'.length<=kv.length+28->R (cE (cnt rs L D X)) M'
def MA(C:Cc):bM:=λws M R=>∃rs lk ts M0 A L kv,ws=[.ref A.s,.int (L:Nat)]/\Lg rs lk ts L/\LS C rs lk ts M0 M A L [] kv/\TK rs kv L/\kv.length<=8000/\
 ∀M' kv' (hs:List Str),LS C rs lk ts M0 M' A L [] kv'->TK rs kv' L->kv'.length<=kv.length+84->hs.Nodup->(∀X,X∈hs↔pos (PR rs) (X,L))->pV (hs.map bR) M' R
def MB(C:Cc):bM:=λws M R=>∃rs lk ts M0 A L kv,ws=[.ref A.s,.int (L:Nat)]/\Lg rs lk ts L/\LS C rs lk ts M0 M A L [] kv/\TK rs kv L/\kv.length<=7000/\
 ∀M' kv',LS C rs lk ts M0 M' A (L+1) [] kv'->TK rs kv' (L+1)->kv'.length<=kv.length+300->R .non M'
def MC(C:Cc):bM:=λws M R=>∃(rs:List aP) (most:Nat),ws=[bL rs,.int most]/\fG rs/\most<=4/\∀M' A lk ts kv,Lg rs lk ts 0->M A.s=none->LS C rs lk ts M M' A (most+1) [] kv->R (.ref A.s) M'
def MD(C:Cc):bM:=λws M R=>∃(rs:List aP) (X:Str) (most:Nat),ws=[bL rs,.str X,.int most]/\fG rs/\X∈namesOf rs/\most<=4/\R (cE (cM (PR rs) (X,most))) M
def u0:bM:=λws M R=>∃(zs:List Int) (k:Int),ws=[.sc (zs.map W.int),.int k]/\zs.length<=63/\0<=k/\∀i,R (.int i) M
def u5:bM:=λws M R=>∃(d:Int) (hs:List Str),ws=[.int d,.rl (hs.map W.str)]/\hs≠[]/\hs.length<=3/\∀ts:List Str,ts.length<=3->(∀t∈ts,t∈hs\/t∈gF)->R (.tup (ts.map W.str)) M
def ME:bM:=λws M R=>∃zs:List Int,ws=[.sc (zs.map W.int)]/\zs.length<=63/\∀rs,fG rs->aZ (rs.map eX) M R
def CV(rs:List aP)(most:Nat)(c:Nd->Nat)(x:W)(M:Mm):Prop:=∃kvs,(x=.dt kvs\/∃a,x=.ref a/\M a=some (.dT kvs))/\∀X∈namesOf rs,∀m,m<=most->aV kvs (eK (X,(m:Int)))=some (.int (c (X,m)))
def pF:Nat->bM
 | 0=>λ_ _ _=>False
 | d+1=>λws M R=>∃(rs:List aP) (ps:List Str) (n most:Nat) (c:Nd->Nat) (x:W),ws=[.tup (ps.map W.str),.int (n:Nat),x]/\fG rs/\ps.length<=d/\ps.length<=3/\(∀t∈ps,lE t/\(a7 rs t=true↔t∈N3))/\n<=most/\most<=4/\(∀y,c y<=TT)/\CV rs most c x M/\R (.int (eZ (a7 rs) c ps n)) M
abbrev gX:bM:=pF 5
def z9:bM:=λws M R=>∃(rs:List aP) (hs:List Str) (most:Nat) (c:Nd->Nat) (x:W) (T:Nat),ws=[bL rs,.rl (hs.map W.str),.int (most:Nat),x,.int T]/\fG rs/\hs.Nodup/\(∀X,X∈hs↔X∈namesOf rs)/\most<=4/\(∀y,c y<=TT)/\CV rs most c x M/\∀p M',M p=none->L3.Sub M M'->CV rs most (λx=>min (sm c (PR rs x)) T) (.ref p) M'->R (.ref p) M'
abbrev zc8:bM:=qD
abbrev zc9:List Str:=["grammar","name"]
def zda:aH:=
   (cL (eW (xN (aB (aA 0) aE)) (jV 2 (eS (bC 0) (eS (bC 1) jU))) (b5 (aF (rEq false) (aF aX (aA 1) (vC (.int 0))) (aA 2))) (aA 0) [none,none,some 1]))
abbrev zdb:List Str:=["grammar","row","weights"]
def zdc(C:Cc):aH:=
   (cL (b9 (JC C) (aB (aA 0) (aB (cP (b9 KI (aB (aA 1) aE))) (aB (cP (b9 KJ (aB (aA 1) aE))) (aB (aA 2) aE))))))
abbrev zdd:List Str:=["grammar","row"]
def zde(C:Cc):aH:=
   (cL (bN LQ (aB (cP (b9 (L1 C) (aB (aA 0) (aB (aA 1) (aB (cP (b9 KG (aB (aA 0) aE))) aE))))) aE)))
abbrev zdf:List Str:=["links","done","rest","going","left","thing"]
def zdg:aH:=
   (bB 1 sP)
def zdh:aH:=
   (bB 2 (bN xH (aB (aA 0) aE)))
def zdi:aH:=
   (bB 3 (vC (.bl true)))
def zdj:aH:=
   (aM (bB 4 (g9 aE))
   (aM (c9 (cC d8 (aA 2)) (bC 5)
    (dR (lS (bN xA (aB (cP (eW (cC d8 (aF aX (aA 0) (aA 5))) (bC 0) fY (aF (rIn false) (aA 0) (aA 1)) [none,some 1])) aE)))
    (iL (vC (.bl true)) (hZ (aA 1) (aA 5)))
    (dE (dX "list" fQ (aA 4) (aB (aA 5) aE)))))
   (aM (bB 3 (aF lW (bN dQ (aB (aA 4) aE)) (bN dQ (aB (aA 2) aE))))
   (bB 2 (cP (aA 4))))))
def zdk:aH:=
   (oG (lS (aA 3)) zdj)
def zdl:aH:=
   (cL (aA 1))
def zdm:aH:=(aM zdg (aM zdh (aM zdi (aM zdk zdl))))
abbrev zdn:List Str:=["count","other"]
def zdo:aH:=
   (aM (dR (m8 (b5 (aF (rEq false) (aA 0) (vC (.int 0)))) (b5 (aF (rEq false) (aA 1) (vC (.int 0)))))
    (cL (vC (.int 0)))
    eU)
   (cL (pY (m8 (b5 (aF (nA false) (aA 0) (vC .non))) (b5 (aF (nA false) (aA 1) (vC .non)))) (vC .non) (aF rJ (aA 0) (aA 1)))))
abbrev zdp:List Str:=["counts"]
def zdq:aH:=
   (cL (pY (b5 (aF (yD false) (vC .non) (aA 0))) (vC .non) (bN G7 (aB (aA 0) aE))))
abbrev zdr:List Str:=["grammar","own","empty","links","rule","k","part"]
def zds(C:Cc):aH:=
   (bB 1 (rA (b9 uY (aB (cP (b9 tP (aB (aA 0) aE))) aE))))
def zdt(C:Cc):aH:=
   (bB 2 (rA (b9 uY (aB (cP (eW (cC d8 (cP (b9 (L4 C) (aB (aA 0) (aB (jB aE) aE))))) (bC 0) fY (aF aX (aA 0) (vC (.int 0))) [none])) aE))))
def zdu(C:Cc):aH:=
   (bB 3 (bN oM (aB (cP (eW (cC jI (aA 1)) (bC 0) fY (bP (aB (aA 0) (aB (g9 aE) aE))) [none])) aE)))
def zdv(C:Cc):aH:=
   (c9 (KU (aB (aF aX (aA 4) (vC (.int 1))) aE)) (jV 2 (eS (bC 5) (eS (bC 6) jU)))
    (dR (FH (b5 (aF (rIn false) (aA 6) (aA 1))) (lS (bN xA (aB (cP (eW (cC d8 (aF LU (oI (aF aX (aA 4) (vC (.int 1))) nB (oE (aA 5))) (oI (aF aX (aA 4) (vC (.int 1))) (oE (aF dS (aA 5) (vC (.int 1)))) nB))) (bC 0) fY (aF (rIn false) (aA 0) (aA 1)) [none,some 2])) aE))))
    (dE (dX "list" fQ (aF aX (aA 3) (aF aX (aA 4) (vC (.int 0)))) (aB (aA 6) aE)))
    eU))
def zdw(C:Cc):aH:=
   (c9 (cC d8 (aA 0)) (bC 4) (zdv C))
def zdx(C:Cc):aH:=
   (cL (aA 3))
def zdy(C:Cc):aH:=(aM (zds C) (aM (zdt C) (aM (zdu C) (aM (zdw C) (zdx C)))))
abbrev zdz:List Str:=["self","grammar"]
def zdA(C:Cc):aH:=
   (gV C.f (aA 0) "grammar" (aA 1))
def MF(C:Cc):aH:=
   (gV C.f (aA 0) "links" (LM (b9 (L7 C) (aB (aA 1) aE))))
def zdB(C:Cc):aH:=
   (gV C.f (aA 0) "numbers" (bN tJ (aB (cP (eW (cC jI (bO C.f (aA 0) "links")) (bC 0) fY (bP (aB (aA 0) (aB (cP (b9 L0 (aB (aA 1) (aB (aA 0) aE)))) aE))) [none,some 1])) aE)))
def zdC(C:Cc):aH:=
   (gV C.f (aA 0) "sizes" (bN oM (aB (cP (eW (cC d8 (b9 LY (aB (aA 1) aE))) (bC 0) fY (bP (aB (aA 0) (aB (g9 (aB (bP (aB (vC (.int 1)) (aB (vC (.int 1)) aE))) aE)) aE))) [none])) aE)))
def zdD(C:Cc):aH:=
   (dE (dX "dict" LK (bO C.f (aA 0) "sizes") (aB (bN oM (aB (cP (eW (cC jI (bO C.f (aA 0) "links")) (bC 0) fY (bP (aB (aA 0) (aB (g9 aE) aE))) [none])) aE)) aE)))
def zdE(C:Cc):aH:=
   (gV C.f (aA 0) "tails" lA)
def zdF(C:Cc):aH:=(aM (zdA C) (aM (MF C) (aM (zdB C) (aM (zdC C) (aM (zdD C) (zdE C))))))
abbrev zdG:List Str:=["self","number","length","parts","k","ways","size","count"]
def zdH(C:Cc):aH:=
   (bB 3 (aF aX (aF aX (bO C.f (aA 0) "grammar") (aA 1)) (vC (.int 1))))
def MG(C:Cc):aH:=
   (iL (pY (b5 (aF (rEq false) (aA 2) (vC (.int 0)))) (vC (.int 1)) (vC (.int 0))) (hZ (bO C.f (aA 0) "tails") (bP (aB (aA 1) (aB (bN dQ (aB (aA 3) aE)) (aB (aA 2) aE))))))
def zdI(C:Cc):aH:=
   (aM (bB 5 (g9 aE))
   (aM (c9 (cC l8 (aF aX (bO C.f (aA 0) "sizes") (aF aX (aA 3) (aA 4)))) (jV 2 (eS (bC 6) (eS (bC 7) jU)))
    (dR (b5 (aF FP (aA 6) (aA 2)))
    (dE (dX "list" fQ (aA 5) (aB (b9 L6 (aB (aA 7) (aB (aF aX (bO C.f (aA 0) "tails") (bP (aB (aA 1) (aB (aF dS (aA 4) (vC (.int 1))) (aB (aF lU (aA 2) (aA 6)) aE))))) aE))) aE)))
    eU))
   (iL (b9 z8 (aB (cP (aA 5)) aE)) (hZ (bO C.f (aA 0) "tails") (bP (aB (aA 1) (aB (aA 4) (aB (aA 2) aE))))))))
def AB(C:Cc):aH:=
   (c9 (LW (aB (aF lU (bN dQ (aB (aA 3) aE)) (vC (.int 1))) (aB (i8 jA (vC (.int 1))) (aB (i8 jA (vC (.int 1))) aE)))) (bC 4) (zdI C))
def zdJ(C:Cc):aH:=(aM (zdH C) (aM (MG C) (AB C)))
abbrev zdK:List Str:=["self","name","length","number"]
def zdL(C:Cc):aH:=
   (aM (c9 (cC d8 (aF aX (bO C.f (aA 0) "numbers") (aA 1))) (bC 3)
    (dE (fL C.f "fill_rule" (L9 C) (aA 0) (aB (aA 3) (aB (aA 2) aE)))))
   (cL (b9 z8 (aB (cP (eW (cC d8 (aF aX (bO C.f (aA 0) "numbers") (aA 1))) (bC 0) fY (aF aX (bO C.f (aA 1) "tails") (bP (aB (aA 0) (aB (vC (.int 0)) (aB (aA 2) aE))))) [none,some 0,some 2])) aE))))
abbrev zdM:List Str:=["self","length","held","size","name","others"]
def zdN(C:Cc):aH:=
   (bB 2 (b9 uY (aB (cP (eW (cC jI (bO C.f (aA 0) "links")) (bC 0) (b5 (aF (rEq true) (fL C.f "count_by_rules" (uZ C) (aA 2) (aB (aA 0) (aB (aA 1) aE))) (vC (.int 0)))) (aA 0) [none,some 1,some 0])) aE)))
def zdO(C:Cc):aH:=
   (bB 3 (i8 jA (vC (.int 1))))
def zdP(C:Cc):aH:=
   (aM (bB 3 (bN dQ (aB (aA 2) aE)))
   (c9 (LR (bO C.f (aA 0) "links")) (jV 2 (eS (bC 4) (eS (bC 5) jU)))
    (dR (lS (bN G4 (aB (cP (eW (cC d8 (aA 5)) (bC 0) fY (aF (rIn false) (aA 0) (aA 1)) [none,some 2])) aE)))
    (iL (vC (.bl true)) (hZ (aA 2) (aA 4)))
    eU)))
def zdQ(C:Cc):aH:=
   (oG (b5 (aF lW (aA 3) (bN dQ (aB (aA 2) aE)))) (zdP C))
def zdR(C:Cc):aH:=
   (cL (aA 2))
def zdS(C:Cc):aH:=(aM (zdN C) (aM (zdO C) (aM (zdQ C) (zdR C))))
abbrev zdT:List Str:=["self","length","held","links","ended","name"]
def zdU(C:Cc):aH:=
   (bB 2 (rA (fL C.f "held_at" (MA C) (aA 0) (aB (aA 1) aE))))
def zdV(C:Cc):aH:=
   (bB 3 (bN oM (aB (cP (eW (cC jI (aA 2)) (bC 0) fY (bP (aB (aA 0) (aB (cP (eW (cC d8 (aF aX (bO C.f (aA 2) "links") (aA 0))) (bC 0) (b5 (aF (rIn false) (aA 0) (aA 1))) (aA 0) [none,some 1])) aE))) [none,some 2,some 0])) aE)))
def zdW(C:Cc):aH:=
   (bB 4 (rA (b9 L5 (aB (aA 3) aE))))
def zdX(C:Cc):aH:=
   (dE (dX "list" fQ (aF aX (bO C.f (aA 0) "sizes") (aA 5)) (aB (bP (aB (aA 1) (aB (fL C.f "count_by_rules" (uZ C) (aA 0) (aB (aA 5) (aB (aA 1) aE))) aE))) aE)))
def zdY(C:Cc):aH:=
   (c9 (cC jI (aA 4)) (bC 5) (zdX C))
def zdZ(C:Cc):aH:=
   (dR (b5 (aF (rIn true) (aA 5) (aA 4)))
    (dE (dX "list" fQ (aF aX (bO C.f (aA 0) "sizes") (aA 5)) (aB (bP (aB (aA 1) (aB (vC .non) aE))) aE)))
    eU)
def zd0(C:Cc):aH:=
   (LX 3 (c9 (cC jI (aA 3)) (bC 5) (zdZ C)))
def zd1(C:Cc):aH:=
   (dE (fL C.f "count_by_rules" (uZ C) (aA 0) (aB (aA 5) (aB (aA 1) aE))))
def zd2(C:Cc):aH:=
   (c9 (cC jI (bO C.f (aA 0) "links")) (bC 5) (zd1 C))
def zd3(C:Cc):aH:=(aM (zdU C) (aM (zdV C) (aM (zdW C) (aM (zdY C) (aM (zd0 C) (zd2 C))))))
abbrev zd4:List Str:=["grammar","most","lengths","length"]
def zd5(C:Cc):aH:=
   (bB 2 (qR C.f (L8 C) (aB (aA 0) aE)))
def zd6(C:Cc):aH:=
   (dE (fL C.f "add_length" (MB C) (aA 2) (aB (aA 3) aE)))
def zd7(C:Cc):aH:=
   (c9 (jX (aB (aF dS (aA 1) (vC (.int 1))) aE)) (bC 3) (zd6 C))
def zd8(C:Cc):aH:=
   (cL (aA 2))
def zd9(C:Cc):aH:=(aM (zd5 C) (aM (zd7 C) (zd8 C)))
abbrev zea:List Str:=["grammar","name","length","found"]
def zeb(C:Cc):aH:=
   (aM (bB 3 (bN tJ (aB (cP (dX "dict" oO (bO C.f (b9 (MC C) (aB (aA 0) (aB (aA 2) aE))) "sizes") (aB (aA 1) (aB (jB aE) aE)))) aE)))
   (cL (cP (dX "dict" oO (aA 3) (aB (aA 2) (aB (vC (.int 0)) aE))))))
abbrev zec:List Str:=["script","k"]
def zed:aH:=
   (aM (dR (b5 (aF lW (aA 1) (bN dQ (aB (aA 0) aE))))
    (cL (aF aX (aA 0) (aA 1)))
    eU)
   (cL (vC (.int 0))))
abbrev zee:List Str:=["d","heads","parts","k","one"]
def zef:aH:=
   (bB 2 (g9 aE))
def zeg:aH:=
   (aM (bB 4 (aF gR (aF iV (aA 0) (aF dS (vC (.int 6)) (aF qF (vC (.int 90)) (aA 3)))) (vC (.int 15))))
   (dR (b5 (aF lW (aA 4) (vC (.int 8))))
    (dE (dX "list" fQ (aA 2) (aB (aF aX (jB (aB (vC (.str "a")) (aB (vC (.str "ab")) (aB (vC (.str "b")) aE)))) (aF gR (aA 4) (vC (.int 3)))) aE)))
    (dE (dX "list" fQ (aA 2) (aB (aF aX (aA 1) (aF gR (aA 4) (bN dQ (aB (aA 1) aE)))) aE)))))
def zeh:aH:=
   (c9 (jX (aB (aF aX (jB (aB (vC (.int 0)) (aB (vC (.int 1)) (aB (vC (.int 2)) (aB (vC (.int 2)) (aB (vC (.int 3)) (aB (vC (.int 1)) aE))))))) (aF gR (aA 0) (vC (.int 6)))) aE)) (bC 3) zeg)
def zei:aH:=
   (cL (bN w9 (aB (aA 2) aE)))
def zej:aH:=(aM zef (aM zeh zei))
abbrev zek:List Str:=["script","cell","heads","rules","k","d","name"]
def zel:aH:=
   (bB 1 (b9 u0 (aB (aA 0) (aB (vC (.int 0)) aE))))
def zem:aH:=
   (bB 2 (oI (jB (aB (vC (.str "S")) (aB (vC (.str "S_1")) (aB (vC (.str "S_12")) aE)))) nB (oE (aF dS (vC (.int 1)) (aF gR (aF iV (aA 1) (vC (.int 2))) (vC (.int 3)))))))
def zen:aH:=
   (bB 3 (g9 aE))
def zeo:aH:=
   (aM (bB 5 (b9 u0 (aB (aA 0) (aB (aF dS (vC (.int 1)) (aA 4)) aE))))
   (aM (dR (b5 (aF (rEq false) (aF gR (aA 1) (vC (.int 2))) (vC (.int 1))))
    (bB 5 (aF iV (aF qF (aF dS (aF gR (aA 5) (aF sI (vC (.int 10)) (vC (.int 40)))) (aA 4)) (aF dS (aF dS (aF gR (aA 5) (aF sI (vC (.int 10)) (vC (.int 40)))) (aF qF (vC (.int 5)) (aA 4))) (vC (.int 2)))) (vC (.int 7))))
    eU)
   (aM (bB 6 (aF aX (aA 2) (aF gR (aA 5) (bN dQ (aB (aA 2) aE)))))
   (aM (dR (b5 (aF lW (aA 4) (bN dQ (aB (aA 2) aE))))
    (bB 6 (aF aX (aA 2) (aA 4)))
    eU)
   (dE (dX "list" fQ (aA 3) (aB (bP (aB (aA 6) (aB (b9 u5 (aB (aF iV (aA 5) (vC (.int 3))) (aB (aA 2) aE))) (aB (aF gR (aF iV (aA 5) (vC (.int 900))) (vC (.int 4))) aE)))) aE)))))))
def zep:aH:=
   (c9 (jX (aB (aF dS (bN dQ (aB (aA 2) aE)) (aF gR (aF iV (aA 1) (vC (.int 6))) (vC (.int 5)))) aE)) (bC 4) zeo)
def zeq:aH:=
   (cL (aA 3))
def zes:aH:=(aM zel (aM zem (aM zen (aM zep zeq))))
abbrev MH:List Str:=["parts","length","counts","total_v","more"]
def zet(gX:bM):aH:=
   (dR (b5 (aF (rEq false) (aA 0) (bP aE)))
    (cL (bN KH (aB (aF (rEq false) (aA 1) (vC (.int 0))) aE)))
    eU)
def zeu(gX:bM):aH:=
   (dR (b5 (aF (rIn true) (aF aX (aA 0) (vC (.int 0))) (jB (aB (vC (.str "S")) (aB (vC (.str "S_1")) (aB (vC (.str "S_12")) aE))))))
    (cL (pY (b5 (aF (rEq false) (aA 1) (vC (.int 0)))) (vC (.int 0)) (b9 gX (aB (oI (aA 0) (oE (vC (.int 1))) nB) (aB (aF lU (aA 1) (vC (.int 1))) (aB (aA 2) aE))))))
    eU)
def zev(gX:bM):aH:=
   (bB 3 (vC (.int 0)))
def zew(gX:bM):aH:=
   (dR (b5 (aF wV (aF aX (aA 2) (bP (aB (aF aX (aA 0) (vC (.int 0))) (aB (aA 4) aE)))) (vC (.int 0))))
    (bB 3 (aF dS (aA 3) (aF rJ (aF aX (aA 2) (bP (aB (aF aX (aA 0) (vC (.int 0))) (aB (aA 4) aE)))) (b9 gX (aB (oI (aA 0) (oE (vC (.int 1))) nB) (aB (aF lU (aA 1) (aA 4)) (aB (aA 2) aE)))))))
    eU)
def zex(gX:bM):aH:=
   (c9 (jX (aB (aF dS (aA 1) (vC (.int 1))) aE)) (bC 4) (zew gX))
def zey(gX:bM):aH:=
   (cL (aA 3))
def zez(gX:bM):aH:=(aM (zet gX) (aM (zeu gX) (aM (zev gX) (aM (zex gX) (zey gX)))))
abbrev zeA:List Str:=["rules","heads","most","counts","most_told","deeper","name","length","total_v","one","parts","cost"]
def zeB:aH:=
   (bB 5 lA)
def zeC:aH:=
   (c9 (jX (aB (aF dS (aA 2) (vC (.int 1))) aE)) (bC 7)
    (aM (bB 8 (vC (.int 0)))
   (aM (c9 (cC l8 (aA 0)) (jV 3 (eS (bC 9) (eS (bC 10) (eS (bC 11) jU))))
    (dR (b5 (aF (rEq false) (aA 9) (aA 6)))
    (bB 8 (aF dS (aA 8) (b9 gX (aB (aA 10) (aB (aA 7) (aB (aA 3) aE))))))
    eU))
   (iL (bN sN (aB (aA 8) (aB (aA 4) aE))) (hZ (aA 5) (bP (aB (aA 6) (aB (aA 7) aE))))))))
def zeD:aH:=
   (c9 (cC d8 (aA 1)) (bC 6) zeC)
def zeE:aH:=
   (cL (aA 5))
def zeF:aH:=(aM zeB (aM zeD zeE))
abbrev zeG:List Str:=["script","rules","heads","most","deep","most_told","k","counts","name","length","later","handed","found"]
def zeH(C:Cc):aH:=
   (bB 1 (cP (b9 ME (aB (aA 0) aE))))
def zeI(C:Cc):aH:=
   (bB 2 (cP (eW (cC d8 (jB (aB (vC (.str "S")) (aB (vC (.str "S_1")) (aB (vC (.str "S_12")) aE))))) (bC 0) (b5 (aF (rIn false) (aA 0) (cP (eW (cC d8 (aA 1)) (bC 0) fY (aF aX (aA 0) (vC (.int 0))) [none])))) (aA 0) [none,some 1])))
def zeJ(C:Cc):aH:=
   (bB 3 (aF gR (aF iV (b9 u0 (aB (aA 0) (aB (vC (.int 0)) aE))) (vC (.int 30))) (vC (.int 5))))
def MI(C:Cc):aH:=
   (bB 4 (aF dS (aF qF (bN dQ (aB (aA 2) aE)) (aF dS (aA 3) (vC (.int 1)))) (vC (.int 1))))
def MJ(C:Cc):aH:=
   (bB 5 (vC (.int 1)))
def zeK(C:Cc):aH:=
   (bB 5 (aF rJ (aA 5) (aF sI (vC (.int 10)) (vC (.int 60)))))
def MK(C:Cc):aH:=
   (c9 (jX (aB (vC (.int 25)) aE)) (bC 6) (zeK C))
def ML(C:Cc):aH:=
   (bB 7 lA)
def zeL(C:Cc):aH:=
   (c9 (jX (aB (aF dS (aA 3) (vC (.int 1))) aE)) (bC 9)
    (iL (vC (.int 0)) (hZ (aA 7) (bP (aB (aA 8) (aB (aA 9) aE))))))
def MM(C:Cc):aH:=
   (c9 (cC d8 (aA 2)) (bC 8) (zeL C))
def zeM(C:Cc):aH:=
   (bB 7 (b9 z9 (aB (aA 1) (aB (aA 2) (aB (aA 3) (aB (aA 7) (aB (aA 5) aE)))))))
def MN(C:Cc):aH:=
   (c9 (jX (aB (aA 4) aE)) (bC 6) (zeM C))
def MP(C:Cc):aH:=
   (bB 10 (aA 7))
def zeN(C:Cc):aH:=
   (bB 10 (cP (b9 z9 (aB (aA 1) (aB (aA 2) (aB (aA 3) (aB (aA 10) (aB (aA 5) aE))))))))
def MQ(C:Cc):aH:=
   (c9 (jX (aB (aA 4) aE)) (bC 6) (zeN C))
def MR(C:Cc):aH:=
   (bB 11 (bN xH (aB (aA 1) aE)))
def zeO(C:Cc):aH:=
   (aM (bB 12 (b9 (MD C) (aB (aA 11) (aB (aA 8) (aB (aA 3) aE)))))
   (dR (m8 (b5 (aF (rEq true) (aF aX (aA 10) (bP (aB (aA 8) (aB (aA 3) aE)))) (aF aX (aA 7) (bP (aB (aA 8) (aB (aA 3) aE)))))) (b5 (aF (rEq false) (aF aX (aA 7) (bP (aB (aA 8) (aB (aA 3) aE)))) (aA 5))))
    (dR (b5 (aF (nA true) (aA 12) (vC .non)))
    (cL (vC (.bl false)))
    eU)
    (dR (m8 (wL (lS (bN qE (aB (aA 12) (aB (vC (.ty "int")) aE))))) (m8 (lS (bN qE (aB (aA 12) (aB (vC (.ty "bool")) aE)))) (b5 (aF (rEq true) (aA 12) (aF aX (aA 7) (bP (aB (aA 8) (aB (aA 3) aE))))))))
    (cL (vC (.bl false)))
    eU)))
def MS(C:Cc):aH:=
   (c9 (cC d8 (aA 2)) (bC 8) (zeO C))
def MT(C:Cc):aH:=
   (cL (aF (rEq false) (aA 11) (aA 1)))
def zeP(C:Cc):aH:=(aM (zeH C) (aM (zeI C) (aM (zeJ C) (aM (MI C) (aM (MJ C) (aM (MK C) (aM (ML C) (aM (MM C) (aM (MN C) (aM (MP C) (aM (MQ C) (aM (MR C) (aM (MS C) (MT C))))))))))))))
theorem zeQ:∀d ws M R,pF d ws M R->ws.length=3
 | 0,_,_,_,h=>h.elim
 | _+1,_,_,_,⟨_,_,_,_,_,_,h,_⟩=>by rw[h];rfl
theorem zeR{ws:List W}{M:Mm}{R:K3}(h:uY ws M R):zc7 (bQ R) (bY JD ws) M:=by
 obtain⟨ts,rfl,hl,r⟩:=h;have l:(ts.map W.str).length<=Ap:=small (by rw[Aa];exact Ah hl (by decide));refine xI rfl (fU (jZ (rest:=[]) (λw=>.tup [w,.bl true]) l (λ_ _=>trivial) (λw hw M' C sb h1=>xI rfl ⟨z2,h1⟩) (aZ.frz ⟨ts.map bR,?_,by rw[Aa];exact l,λp hp=>⟨_,Sub.refl _,?_⟩⟩)))
 .unfold iN;rw[Bd,Bd];rfl
 .have e:=yV ts [];rw[Gw]at e;rw[e];exact r p hp
def u6(X:Str):W->Option W
 | .tup [.int i,.tup (.str n::_)]=>if n=X then some (.int i) else none
 | _=>none
theorem AD(rs:List aP):∀n:Nat,gT n (rs.map eX)=(rs.zipIdx n).map λx=>W.tup [.int (x.2:Int),eX x.1]:=by
 induction rs with
 | nil=>intro n;rfl
 | cons r rs ih=>intro n;rw[Ay,Ij,Ay,<-ih];rfl
theorem zeS{F:W->Option W}{ws:List W}{os:List (Option W)}(h:Iv (λw o=>o=F w) ws os):os.filterMap id=ws.filterMap F:=by
 induction h with
 | nil=>rfl
 | cons a _ ih=>rw[a,Cp,Cp,ih];rfl
theorem zeT(rs:List aP)(X:Str):(gT 0 (rs.map eX)).filterMap (u6 X)=(numsOf rs X).map λ(n:Nat)=>W.int n:=by
 unfold numsOf;rw[AD,Ku,Bd];generalize rs.zipIdx=l
 induction l with
 | nil=>rfl
 | cons x l ih=>
  rw[Cp,Bx,ih];have e:(u6 X ∘ λx:aP×Nat=>W.tup [.int (x.2:Int),eX x.1]) x=if x.1.name=X then some (.int x.2) else none:=rfl;rw[e]
  by_cases h:x.1.name=X
  .rw[if_pos h,if_pos (decide_eq_true h)];rfl
  .rw[if_neg h,if_neg (by rw[decide_eq_false h];decide)]
theorem zeU{ws:List W}{M:Mm}{R:K3}(h:L0 ws M R):zda (bQ R) (bY zc9 ws) M:=by
 obtain⟨rs,X,rfl,hl,r⟩:=h;refine⟨_,rfl,GY (rest:=[some (.str X)]) (λw o=>o=u6 X w) (λw hw=>?_) (small (by rw[mB,Aa];lia)) (λ_ _=>trivial) (λa b hm M' C D sb h1 h2=>?_) λos po=>?_⟩
 .rw[AD]at hw;obtain⟨x,_,rfl⟩:=Au.mp hw;exact⟨_,_,rfl⟩
 .rw[AD]at hm;obtain⟨⟨q,k⟩,hx,e⟩:=Au.mp hm;cases e;have ep:u6 X (.tup [.int (k:Int),eX q])=if q.name=X then some (.int k) else none:=rfl;refine⟨_,rfl,_,rfl,_,rfl,_,rfl,bW (b:=decide (q.name=X)) (λz=>⟨_,rfl,h1 _ (by rw[ep,if_pos (of_decide_eq_true z)])⟩) λz=>h2 (by rw[ep,if_neg (of_decide_eq_false z)])⟩
 .rw[zeS po,zeT];exact λp hp=>⟨_,Sub.refl _,r p hp⟩
theorem AE{rs:List aP}{X:Str}{n:Nat}:n∈numsOf rs X↔∃r,rs[n]? = some r/\r.name=X:=by
 unfold numsOf;rw[Au];constructor
 .rintro⟨⟨r,k⟩,h,rfl⟩;obtain⟨h1,h2⟩:=Dh.mp h;exact⟨r,Kh.mp h1,of_decide_eq_true h2⟩
 .rintro⟨r,h1,h2⟩;exact⟨(r,n),Dh.mpr ⟨Kh.mpr h1,decide_eq_true h2⟩,rfl⟩
theorem MU{a:On}{M:Mm}{R:K3}(h:R (.bl (decide (a=some 0))) M):rEq false (cE a) (.int 0) M R:=by
 cases a with
 | none=>
  obtain⟨d1,s1,c1,k1⟩:=l9 (M:=M) (n:=0) (w:=.non) trivial;obtain⟨d2,s2,c2,k2⟩:=l9 (M:=M) (n:=0) (w:=.int 0) trivial;refine⟨d1,d2,s1,s2,⟨c1,Ah k1 (by decide)⟩,⟨c2,Ah k2 (by decide)⟩,?_⟩;have:Dw d1 d2=false:=by
   cases e:Dw d1 d2 with
   | false=>rfl
   | true=>exact nomatch (qH (n:=0) (x:=.non) (y:=.int 0) trivial trivial s1 s2).mp e
  rw[this];exact h
 | some x=>
  show R (.bl (decide ((x:Int)=0))) M;have:decide ((x:Int)=0)=decide (some x=some 0):=by
   rw[Dk,decide_eq_true_eq,decide_eq_true_eq];simp
  rw[this];exact h
theorem MV{a:On}:isNon (cE a)=decide (a=none):=by cases a<;>rfl
theorem pG{x:Nat}(h:x.log2<100000):Gp (x:Int)<=2 ^ 20:=by
 unfold Gp;split
 .exact Bf _
 .have e:(2:Nat) ^ 20=1048576:=by decide
  rw[Int.natAbs_natCast];lia
theorem zeV{ws:List W}{M:Mm}{R:K3}(h:L6 ws M R):zdo (bQ R) (bY zdn ws) M:=by
 obtain⟨a,b,rfl,ha,hb,r⟩:=h;refine xI rfl (MU (xI rfl (bW (λz=>?_) λz=>xI rfl (MU (xI rfl (bW (λz2=>?_) λz2=>?_))))))
 .rw[of_decide_eq_true z,nL]at r;exact⟨_,Sub.refl _,r⟩
 .rw[of_decide_eq_true z2,rD]at r;exact⟨_,Sub.refl _,r⟩
 have z:=of_decide_eq_false z;have z2:=of_decide_eq_false z2;refine xI rfl (xI rfl ?_);show if isNon (cE a)=true then _ else _;rw[MV];refine bW (λy=>?_) λy=>xI rfl (xI rfl ?_)
 .rw[of_decide_eq_true y,oZ z2]at r;exact⟨_,Sub.refl _,r⟩
 show if isNon (cE b)=true then _ else _;rw[MV];refine bW (λy2=>?_) λy2=>?_
 .rw[of_decide_eq_true y2,o9 z]at r;exact⟨_,Sub.refl _,r⟩
 cases a with
 | none=>exact absurd rfl (of_decide_eq_false y)
 | some x=>
  cases b with
  | none=>exact absurd rfl (of_decide_eq_false y2)
  | some y=>
   rw[mI]at r;exact xI rfl (xI rfl ⟨⟨pG (ha x rfl),pG (hb y rfl)⟩,_,Sub.refl _,by rw[<-Int.natCast_mul];exact r⟩)
def dO:On->Iu
 | none=>.none
 | some a=>.int a
theorem MW{M:Mm}(a:On):Snap M (cE a) (dO a):=by cases a;exact .non;exact .int _
theorem MX{M:Mm}:∀l:List On,hJ M (l.map cE) (l.map dO)
 | []=>.nil
 | a::l=>.cons (MW a) (MX l)
theorem MY(a:On):Pl 0 (cE a):=by cases a<;>exact trivial
theorem MZ(a:On):n5 (dO a):=by
 obtain⟨d,s,c,k⟩:=l9 (M:=λ_=>none) (n:=0) (w:=cE a) (MY a);have:d=dO a:=by cases a<;>cases s<;>rfl
 subst this;exact⟨c,Ah k (by decide)⟩
theorem M8(a:On):Dw (dO a) .none=decide (a=none):=by
 rw[Dk,decide_eq_true_eq,qH (M:=λ_=>none) (n:=0) (x:=cE a) (y:=.non) (MY a) trivial (MW a) .non];cases a with
 | none=>exact⟨λ_=>rfl,λ_=>rfl⟩
 | some x=>exact⟨(λh=>nomatch h),λh=>nomatch h⟩
theorem M9:∀{l:List On},none∉l->∃ns:List Nat,l=ns.map some
 | [],_=>⟨[],rfl⟩
 | none::l,h=>absurd Ai h
 | some a::l,h=>by
  obtain⟨ns,e⟩:=M9 (l:=l) λz=>h (Af _ z);exact⟨a::ns,by rw[e];rfl⟩
theorem zeW{ws:List W}{M:Mm}{R:K3}(h:z8 ws M R):zdq (bQ R) (bY zdp ws) M:=by
 obtain⟨l,rfl,r⟩:=h;have ea:((l.map dO).any λd=>Dw d .none)=decide (none∈l):=by
  rw[Mj,Dk,Mb,decide_eq_true_eq];constructor
  .rintro⟨a,h1,h2⟩;have h2:Dw (dO a) .none=true:=h2;rw[M8]at h2;rw[<-of_decide_eq_true h2];exact h1
  .intro h;exact⟨none,h,by show Dw (dO none) .none=true;rw[M8];rfl⟩
 refine xI rfl ⟨l.map cE,.none,l.map dO,.inl rfl,.non,MX l,MZ none,λd hd=>?_,xI rfl ?_⟩
 .obtain⟨a,_,rfl⟩:=Au.mp hd;exact MZ a
 show if ((l.map dO).any λd=>Dw d .none)=true then _ else _;rw[ea];refine bW (λz=>?_) λz=>?_
 .rw[zct (of_decide_eq_true z)]at r;exact⟨_,Sub.refl _,r⟩
 .obtain⟨ns,rfl⟩:=M9 (of_decide_eq_false z);rw[zcu]at r;refine xI rfl ⟨ns.map λ(n:Nat)=>(n:Int),?_,_,Sub.refl _,?_⟩
  .rw[Bd,Bd];rfl
  .have:(ns.map λ(n:Nat)=>(n:Int)).sum=(ns.sum:Nat):=by
    clear z ea r
    induction ns with
    | nil=>rfl
    | cons a ns ih=>rw[Ay,Dy,Dy,ih,Jf]
   rw[this];exact r
theorem zeX{n:Nat}:((Bp (n+1)).map λ(i:Nat)=>W.int i)=(mH n).map W.int:=by unfold mH;rw[Bd];rfl
theorem zeY{C:Cc}{ws:List W}{M:Mm}{R:K3}(h:L1 C ws M R):zdc C (bQ R) (bY zdb ws) M:=by
 obtain⟨rs,row,rfl,g,w,r⟩:=h;have hl:=w.few;have hf:=g.few;have hpl:(mH row.length).length=row.length+1:=by unfold mH;rw[Aa,Cm]
 refine xI rfl (xI rfl ⟨row,rfl,Ah hl (by decide),aZ.frz (xI rfl ⟨row,rfl,Ah hl (by decide),jN.frz (xI rfl ?_)⟩)⟩);rw[zeX];refine⟨iQ rs row,⟨rs,ownOf rs,jJ row⟩,mH row.length,5,1,?_,by show rs.length<=100;lia,rfl,⟨rfl,KO rs,λt p=>?_⟩,⟨λ_=>Ig _,λt p e c h=>by rw[(tZ.mp h).2.2.2];exact Ig _⟩,⟨λp h=>h,λt p e c h1 h2=>?_,Ag _,λr hr=>?_⟩,by decide,by show(mH row.length).length<=1000;lia,λt p=>?_,?_,λB hB=>KL (r B hB)⟩
 .show [_,_,_,_]=[_,_,_,_];congr 4;show W.rl (rs.map λ_=>W.int 0)=W.rl ((Bp rs.length).map λn=>W.int 0);rw[List.map_const',List.map_const',Cm]
 .show(aV (jJ row) (eK (t,p))=none/\mG row t p=[])\/aV (jJ row) (eK (t,p))=some (.rl ((mG row t p).map λz=>.tup [.int z.1,.int z.2]));rw[zbX];unfold mG
  by_cases h:0<=p/\row[p.toNat]? = some t
  .right;rw[if_pos h,if_pos h];rfl
  .left;rw[if_neg h,if_neg h];exact⟨rfl,rfl⟩
 .obtain⟨m1,m2,rfl,_⟩:=tZ.mp h2;have:=(Ak.mp m2).1;exact zbw.mpr ⟨by lia,by lia⟩
 .have:=g.fp r hr;lia
 .show(mG row t p).length<=1;unfold mG;split<;>simp
 .have e1:(j3 (iQ rs row)).length=rs.length*(mH row.length).length:=yY (iQ rs row) rs.length;rw[e1,hpl];show rs.length*(row.length+1)+rs.length*((5+1)*((row.length+1)*(row.length+1)))*(1+(row.length+1))+rs.length*((5+1)*((row.length+1)*(row.length+1)))+(row.length+1)+1+1<10000000;have a1:rs.length*(row.length+1)<=9*18:=Eu hf (by lia);have a2:(row.length+1)*(row.length+1)<=18*18:=Eu (by lia) (by lia);have a3:rs.length*((5+1)*((row.length+1)*(row.length+1)))<=9*(6*(18*18)):=Eu hf (Nat.mul_le_mul_left _ a2);have a4:=Eu a3 (show 1+(row.length+1)<=19 by lia);lia
theorem NA{rs:List aP}{B:bZ}(g:oY rs)(h:jH (iQ rs []) B):B.length<=8:=by
 have:=len_sub (b:=f6.map λX=>(X,(0:Int),(0:Int))) (zbi h) λf hf=>by
  obtain⟨h1,h2,h3,h4⟩:=zb8 g h hf;have h4:f.2.2<=0:=h4;exact Au.mpr ⟨f.1,h1,Iz rfl (Iz (show(0:Int)=f.2.1 by lia) (show(0:Int)=f.2.2 by lia))⟩
 rw[Aa]at this;exact Ah this (by decide)
theorem zeZ{C:Cc}{ws:List W}{M:Mm}{R:K3}(h:L4 C ws M R):zde C (bQ R) (bY zdd ws) M:=by
 obtain⟨rs,rfl,g,r⟩:=h;have hf:=g.few;have et:∀B:bZ,(eC fK iX B).map Cu=(B.map (·.1)).map fK:=λB=>by unfold eC;rw[Bd,Bd];rfl
 refine xI rfl (xI rfl (xI rfl ⟨rs,rfl,by lia,aZ.frz ⟨rs,[],rfl,g.g,⟨(λ_ h=>nomatch h),Bf _⟩,λB hB=>jN.frz ⟨eC fK iX B,[false,false],rfl,λp hp=>?_,?_,λL hp=>?_⟩⟩⟩))
 .obtain⟨e,_,rfl⟩:=Au.mp hp;rfl
 .have:=NA g.g hB;unfold eC;rw[Aa];lia
 .rw[et]at hp;obtain⟨fs,efs⟩:∃fs:List cT,L=fs.map fK:=by
   have:∀l:List (List aC),(∀k∈l,∃f:cT,k=fK f)->∃fs:List cT,l=fs.map fK:=λl=>by
    induction l with
    | nil=>exact λ_=>⟨[],rfl⟩
    | cons k l ih=>
     intro h;obtain⟨f,rfl⟩:=h k Ai;obtain⟨fs,rfl⟩:=ih λz hz=>h z (Af _ hz);exact⟨f::fs,rfl⟩
   refine this L λk hk=>?_;obtain⟨f,_,e⟩:=Au.mp (hp.mem_iff.mp hk);exact⟨f,e.symm⟩
  subst efs;have z:=r fs (by
   have:=hp.length_eq;rw[Aa,Aa,Aa]at this;have:=NA g.g hB;lia) λX=>by
    rw[zco hB];have hm:∀f:cT,f∈fs↔f∈B.map (·.1):=λf=>by
     have:=hp.mem_iff (a:=fK f);have back:∀l:List cT,fK f∈l.map fK↔f∈l:=λl=>⟨λh=>by
      obtain⟨g,h1,h2⟩:=Au.mp h;rw[<-yN _ _ h2];exact h1,λh=>Au.mpr ⟨f,h,rfl⟩⟩
     rw[back,back]at this;exact this
    exact⟨λ⟨f,h1,h2⟩=>⟨f,(hm f).mp h1,h2⟩,λ⟨f,h1,h2⟩=>⟨f,(hm f).mpr h1,h2⟩⟩
  rw[Bd];exact λp hp=>⟨_,Sub.refl _,z p hp⟩
theorem ze0{ws:List W}{M:Mm}{R:K3}(h:u0 ws M R):zed (bQ R) (bY zec ws) M:=by
 obtain⟨zs,k,rfl,hl,hk,r⟩:=h;refine xI rfl (xI rfl (xI rfl (bW (λz=>?_) λ_=>⟨_,Sub.refl _,r 0⟩)));have z:=of_decide_eq_true z;obtain⟨j,rfl⟩:=Hf hk;rw[Aa]at z;have hj:j<zs.length:=by lia
 exact xI rfl (xI rfl ⟨_,KP (Bc hj),_,Sub.refl _,r _⟩)
theorem nQ:∀{lk:fH} {x:Str×List Str},(lk.map (·.1)).Nodup->x∈lk->aV (dB lk) (Sum.inr x.1:aC)=some (.rl (x.2.map W.str))
 | y::lk,x,nd,h=>by
  show aV ((Sum.inr y.1,W.rl (y.2.map W.str))::dB lk) _=_;rw[lH];rw[Ay,Ee]at nd;rcases Bj.mp h with rfl|h
  .rw[if_pos rfl]
  .rw[if_neg (λe=>nd.1 (by rw[Jv e];exact Fz h)),nQ nd.2 h]
structure ze1(lk:fH)(D0 D left seen:List Str):Prop where
 nd:D.Nodup
 sb:∀X∈D,X∈lk.map (·.1)
 ch:∀pre X post,D=pre++X::post->∀x∈lk,x.1=X->∀Y∈x.2,Y∈pre
 ls:∀X∈left,X∈seen
 sn:∀X∈seen,X∈D\/X∈left
 nl:∀X∈left,X∉D\/True
 ln:left.length<=seen.length
 st:left.length=seen.length->D=D0/\∀x∈lk,x.1∈seen->∃Y∈x.2,Y∉D0
 up:∀X∈D0,X∈D
def u7(D:List Str):W->W
 | .str t=>.bl (decide (t∈D))
 | w=>w
theorem ze2{lk:fH}{D:List Str}{X0:Str}(h:∀pre X post,D=pre++X::post->∀x∈lk,x.1=X->∀Y∈x.2,Y∈pre)(h0:∀x∈lk,x.1=X0->∀Y∈x.2,Y∈D):∀pre X post,D++[X0]=pre++X::post->∀x∈lk,x.1=X->∀Y∈x.2,Y∈pre:=λpre X post e=>by
 rcases List.append_eq_append_iff.mp e.symm with⟨m,h1,h2⟩|⟨m,h1,h2⟩
 .cases m with
  | nil=>
   rw[Ci]at h2;cases h2;rw[Cf]at h1;rw[<-h1];exact h0
  | cons y m=>
   cases h2;exact h pre _ m h1
 .cases m with
  | nil=>
   rw[Ci]at h2;cases h2;rw[Cf]at h1;rw[h1];exact h0
  | cons y m=>simp at h2
theorem ze3{ws:List W}{M:Mm}{R:K3}(h:L5 ws M R):zdm (bQ R) (bY zdf ws) M:=by
 obtain⟨a,lk,rfl,ea,nd,hl,hx,r⟩:=h;refine λq hq=>xI rfl ?_;have hqa:a≠q:=λe=>by rw[e,hq]at ea;cases ea
 have aq:∀{X:MO},put M q X a=some (.dK (dB lk)):=λ{X}=>by rw[aK hqa];exact ea
 refine .inr ⟨_,aq,?_⟩;have ek:((dB lk).map λkv=>wK kv.1)=(lk.map (·.1)).map W.str:=by unfold dB;rw[Bd,Bd];rfl
 rw[ek];refine xZ (λm τ M'=>∃(D rest:List Str) (going:Bool) (o:Option W×Option W),τ=[some (.ref a),some (.ref q),some (.rl (rest.map W.str)),some (.bl going),o.1,o.2]/\M'=put M q (.dK (D.map bR))/\D.Nodup/\(∀X∈D,X∈lk.map (·.1))/\(∀pre X post,D=pre++X::post->∀x∈lk,x.1=X->∀Y∈x.2,Y∈pre)/\(∀X∈lk.map (·.1),X∈D\/X∈rest)/\(∀X∈rest,X∈lk.map (·.1))/\rest.length<=100/\(going=false->∀x∈lk,x.1∉D->∃Y∈x.2,Y∉D)/\m=2*rest.length+going.toNat)
  ⟨_,[],lk.map (·.1),true,(_,_),rfl,rfl,Gf,(λ_ h=>nomatch h),(λpre X post e=>by simp at e),λX h=>.inr h,λX h=>h,by rw[Aa];exact hl,(λh=>nomatch h),rfl⟩ ?_
 rintro m τ M' ⟨D,rest,going,o,rfl,rfl,dn,ds,dc,dr,rl,rf,dg,rfl⟩ D' hD;refine xI rfl (bW (b:=going) (λz=>?_) λz=>?_)
 .subst z;refine⟨z0,λl hl'=>xI rfl (fU ?_)⟩;have hlq:l≠q:=λe=>by rw[e,aS]at hl';cases hl'
  have hl0:M l=none:=by rw[aK hlq]at hl';exact hl'
  have atq:∀{X Y:MO},put (put M q X) l Y q=some X:=λ{X Y}=>by rw[aK (Co hlq),aS]
  have ata:∀{X Y:MO},put (put M q X) l Y a=some (.dK (dB lk)):=λ{X Y}=>by rw[aK (λe=>by rw[<-e,ea]at hl0;cases hl0)];exact aq
  have setq:∀{X X' Y:MO},put (put (put M q X) l Y) q X'=put (put M q X') l Y:=λ{X X' Y}=>by rw[VB hlq,gK]
  refine d9 (λi τ M'=>∃(D2 left:List Str) (o5:Option W),τ=[some (.ref a),some (.ref q),some (.rl (rest.map W.str)),some (.bl true),some (.ref l),o5]/\M'=put (put M q (.dK (D2.map bR))) l (.lst (left.map W.str))/\ze1 lk D D2 left (rest.take i)) ⟨D,[],_,rfl,rfl,⟨dn,ds,dc,(λ_ h=>nomatch h),(λ_ h=>nomatch h),(λ_ _=>.inr trivial),Ag _,λ_=>⟨rfl,λ_ _ h=>nomatch h⟩,λ_ h=>h⟩⟩ ?_ ?_
  .rintro i x τ M' hx' ⟨D2,left,o5,rfl,rfl,g⟩ D3 hD3;rw[Ax]at hx';obtain⟨t,ht,rfl⟩:=Bb.mp hx';have htr:=Bl ht;have hi:=(Ak.mp ht).1;obtain⟨x,hxm,hxt⟩:=Au.mp (rl t htr);subst hxt;have hD100:D2.length<=100:=Ah (len_sub g.nd g.sb) (by rw[Aa];exact hl);have hL100:left.length<=100:=Ah g.ln (by rw[Ce];lia);refine xI rfl (xI rfl ⟨_,.inl ⟨_,.inr x.1,ata,rfl,(nQ nd hxm).symm⟩,fU (jZ (rest:=[some (.ref q)]) (u7 D2) (small (by rw[Aa];have:=hx x hxm;lia)) (λ_ _=>trivial) (λv hv M' C sb h1=>?_) (aZ.frz ?_))⟩)
   .obtain⟨y,hy,rfl⟩:=Au.mp hv;refine xI rfl (xI rfl (.inr ⟨_,.inl ⟨_,.inr y,sb _ _ atq,rfl,rfl⟩,?_⟩));show C (.bl (aV (D2.map bR) (Sum.inr y:aC)).isSome) M';rw[mJ];exact h1
   .refine⟨x.2.map λy=>decide (y∈D2),by show Ja (u7 D2) (x.2.map W.str)=(x.2.map _).map W.bl;rw[Bd,Bd];rfl,?_⟩;have tk:rest.take (i+1)=rest.take i++[x.1]:=gE ht;refine bW (b:=(x.2.map λy=>decide (y∈D2)).all id) (λz=>?_) λz=>?_
    .have z:∀y∈x.2,y∈D2:=λy hy=>by
      rw[Kl,Gb]at z;exact of_decide_eq_true (z y hy)
     have z':∀x'∈lk,x'.1=x.1->∀Y∈x'.2,Y∈D2:=λx' h1 h2 Y hY=>by
      have e1:=nQ nd h1;have e2:=nQ nd hxm;rw[h2,e2]at e1;have e3:x.2.map W.str=x'.2.map W.str:=W.rl.inj (Cj e1);have e4:x.2=x'.2:=List.map_inj_right (λa b h=>W.str.inj h) |>.mp e3;exact z Y (by rw[e4];exact hY)
     refine xI rfl (xI rfl (sW (k:=x.1) atq (dW (by rw[Aa];lia)) ?_));rw[qV,setq];refine hD3 _ _ ⟨cZ D2 x.1,left,_,rfl,rfl,?_⟩;rw[tk]
     by_cases hin:x.1∈D2
     .rw[show cZ D2 x.1=D2 from if_pos hin];exact⟨g.nd,g.sb,g.ch,λX h=>Bh _ (g.ls X h),λX h=>(Aw.mp h).elim (g.sn X) λh=>.inl (by rw[An.mp h];exact hin),(λ_ _=>.inr trivial),by rw[Ar];have:=g.ln;lia,λh=>by rw[Ar,Bz]at h;have:=g.ln;lia,g.up⟩
     .rw[show cZ D2 x.1=D2++[x.1] from if_neg hin];exact⟨Ck.mpr ⟨g.nd,by simp,λa ha b hb e=>hin (by rw[<-An.mp hb,<-e];exact ha)⟩,λX h=>(Aw.mp h).elim (g.sb X) λh=>by rw[An.mp h];exact Fz hxm,ze2 g.ch z',λX h=>Bh _ (g.ls X h),λX h=>(Aw.mp h).elim (λh=>(g.sn X h).imp (Bh _) id) λh=>.inl (Ba _ h),(λ_ _=>.inr trivial),by rw[Ar];have:=g.ln;lia,λh=>by rw[Ar,Bz]at h;have:=g.ln;lia,λX h=>Bh _ (g.up X h)⟩
    .obtain⟨y,hy,hyn⟩:∃y∈x.2,y∉D2:=by
      refine Cr λhc=>?_;have:(x.2.map λy=>decide (y∈D2)).all id=true:=by
       rw[Kl,Gb];exact λy hy=>decide_eq_true (Cr λhn=>hc ⟨y,hy,hn⟩)
      rw[this]at z;cases z
     refine xI rfl ⟨gO aS,xI rfl ⟨_,aS,dW (by rw[Aa];lia),?_⟩⟩;rw[gK];refine hD3 _ _ ⟨D2,left++[x.1],_,rfl,by rw[Bk];rfl,?_⟩;rw[tk];refine⟨g.nd,g.sb,g.ch,λX h=>(Aw.mp h).elim (λh=>Bh _ (g.ls X h)) (Ba _),λX h=>(Aw.mp h).elim (λh=>(g.sn X h).imp id (Bh _)) λh=>.inr (Ba _ h),(λ_ _=>.inr trivial),by rw[Ar,Ar,Bz];exact Jy g.ln,λh=>?_,g.up⟩;rw[Ar,Ar,Bz]at h;obtain⟨e1,e2⟩:=g.st (by lia);refine⟨e1,λx' h1 h2=>?_⟩;rcases Aw.mp h2 with h2|h2
     .exact e2 x' h1 h2
     .have e1':=nQ nd h1;have e2':=nQ nd hxm;rw[An.mp h2,e2']at e1';have e3:x.2.map W.str=x'.2.map W.str:=W.rl.inj (Cj e1');have e4:x.2=x'.2:=List.map_inj_right (λa b h=>W.str.inj h) |>.mp e3;exact⟨y,by rw[<-e4];exact hy,by rw[<-e1];exact hyn⟩
  .rintro τ M' ⟨D2,left,o5,rfl,rfl,g⟩;rw[Aa,Cb]at g;have hL:=g.ln;refine xI rfl (.inl ⟨_,aS,xI rfl (xI rfl (.inl ⟨_,aS,?_⟩))⟩);rw[i6 (by rw[aK hlq];exact hl0)];refine hD _ _ _ ?_ ⟨D2,left,decide (((left.map W.str).length:Int)<(rest.map W.str).length),(_,_),rfl,rfl,g.nd,g.sb,g.ch,λX h=>?_,λX h=>rl X (g.ls X h),by lia,λhg x h1 h2=>?_,rfl⟩
   .rw[Aa,Aa]
    by_cases e:left.length<rest.length
    .rw[decide_eq_true (by lia)];show 2*left.length+1<2*rest.length+1;lia
    .rw[decide_eq_false (by lia)];show 2*left.length+0<2*rest.length+1;lia
   .rcases dr X h with h|h
    .exact .inl (g.up X h)
    .exact g.sn X h
   .rw[Aa,Aa]at hg;have hg:=of_decide_eq_false hg;obtain⟨e1,e2⟩:=g.st (by lia);rw[e1];refine e2 x h1 ?_;rcases dr x.1 (Fz h1) with h|h
    .exact absurd (g.up _ h) h2
    .exact h
 .subst z;exact xI rfl ⟨_,Sub.refl _,r D dn ds dc (dg rfl) q hq⟩
structure NB(M1 M:Mm)(l:List Str)(A:Str->Addr)(ini:List W):Prop where
 sub:L3.Sub M1 M
 new:∀t∈l,M1 (A t)=none
 at_:∀t∈l,M (A t)=some (.lst ini)
 inj:∀t∈l,∀u∈l,A t=A u->t=u
theorem AF{ts:List Str}{keep:Mm->Prop}{o:Option W}{M1:Mm}{R:K3}{te:dP}{ini:List W}(hl:ts.length<=100)(nd:ts.Nodup)(hk:∀M,keep M)(hte:∀τ M Q,(ini.length<=Ap->Q ini M)->te τ M Q)(hi:ini.length<=100)(r:∀A M,NB M1 M ts A ini->aZ (ts.map λt=>.tup [.str t,.ref (A t)]) M R):nD (ts.map W.str) keep (bC 0) fY (bP (aB (aA 0) (aB (g9 te) aE))) [o] M1 R:=by
 intro p hp;refine⟨λi τ acc M=>∃(o:Option W) (A:Str->Addr),τ=[o]/\acc=(ts.take i).map (λt=>W.tup [.str t,.ref (A t)])/\NB M1 M (ts.take i) A ini,⟨o,λ_=>0,rfl,rfl,Sub.refl _,(λ_ h=>nomatch h),(λ_ h=>nomatch h),λ_ h=>nomatch h⟩,λ_ _ _ _ _ _ _ _=>hk _,?_,?_⟩
 .rintro vs i w τ acc M hw hMp ⟨o,A,rfl,rfl,al⟩;rw[Ax]at hw;obtain⟨t,ht,rfl⟩:=Bb.mp hw;have hti:=(Ak.mp ht).1;refine xI rfl (hte _ _ _ λhs=>⟨hs,λa ha=>⟨z2,?_⟩⟩);have hap:a≠p:=λe=>by rw[e,aS]at ha;cases ha
  have ha0:M a=none:=by rw[aK hap]at ha;exact ha
  have tk:ts.take (i+1)=ts.take i++[t]:=gE ht;have htn:t∉ts.take i:=λhm=>by
   have:=nd;rw[<-Gi (i+1) ts,tk]at this;have:=(Ck.mp (Ck.mp this).1).2.2 t hm t (Fe _);exact this rfl
  obtain⟨A',hA'⟩:∃A':Str->Addr,∀u,A' u=if u=t then a else A u:=⟨_,λ_=>rfl⟩;have eA:∀u∈ts.take i,A' u=A u:=λu hu=>by rw[hA',if_neg λe=>htn (by rw[<-e];exact hu)]
  have eT:A' t=a:=by rw[hA',if_pos rfl]
  refine⟨by rw[aK (Co hap)];exact aS,dW (by rw[Aa,Ce];lia),put M a (.lst ini),?_,some (.str t),A',rfl,?_,?_⟩
  .intro b o e
   by_cases hb:b=a
   .subst hb;rw[aS]at e;rw[iU hap,aS];exact e
   .rw[aK hb]at e;have hbp:b≠p:=λz=>by rw[z,hMp]at e;cases e
    rw[iU hbp,aK hb,aK hbp];exact e
  .rw[tk,Bk];congr 1
   .exact Cy λu hu=>by rw[eA u hu]
   .show [W.tup [.str t,.ref a]]=[W.tup [.str t,.ref (A' t)]];rw[eT]
  .rw[tk];refine⟨λb o e=>?_,λu hu=>?_,λu hu=>?_,λu hu v hv e=>?_⟩
   .have hb:b≠a:=λz=>by have:=al.sub b o e;rw[z,ha0]at this;cases this
    rw[aK hb];exact al.sub b o e
   .rcases Aw.mp hu with hu|hu
    .rw[eA u hu];exact al.new u hu
    .rw[An.mp hu,eT];cases z:M1 a with
     | none=>rfl
     | some o=>rw[al.sub a o z]at ha0;cases ha0
   .rcases Aw.mp hu with hu|hu
    .rw[eA u hu,aK (λz=>by have:=al.at_ u hu;rw[z,ha0]at this;cases this)];exact al.at_ u hu
    .rw[An.mp hu,eT];exact aS
   .have na:∀w∈ts.take i,A w≠a:=λw hw z=>by have:=al.at_ w hw;rw[z,ha0]at this;cases this
    rcases Aw.mp hu with hu|hu
    .rcases Aw.mp hv with hv|hv
     .rw[eA u hu,eA v hv]at e;exact al.inj u hu v hv e
     .rw[eA u hu,An.mp hv,eT]at e;exact absurd e (na u hu)
    .rcases Aw.mp hv with hv|hv
     .rw[eA v hv,An.mp hu,eT]at e;exact absurd e.symm (na v hv)
     .rw[An.mp hu,An.mp hv]
 .rintro τ acc M hMp ⟨o,A,rfl,rfl,al⟩;rw[Aa,Cb]at al⊢;exact r A M al p hMp
theorem AG:∀{l acc:List Str},(acc++l).Nodup->l.foldl cZ acc=acc++l
 | [],acc,_=>by simp
 | t::l,acc,h=>by
  have hn:t∉acc:=λz=>(Ck.mp h).2.2 t z t Ai rfl;rw[Ex,show cZ acc t=acc++[t] from if_neg hn,AG (by rw[Dj];exact h),Dj];rfl
theorem ze4(rs:List aP):(namesOf rs).foldl cZ []=namesOf rs:=by
 have:=AG (l:=namesOf rs) (acc:=[]) (by rw[Ci];exact lK rs);rwa [Ci]at this
theorem mL:∀{ps acc:List (aC×W)},((acc++ps).map (·.1)).Nodup->j4 acc ps=acc++ps
 | [],acc,_=>by rw[Cf];rfl
 | p::ps,acc,h=>by
  have hn:aV acc p.1=none:=by
   rw[Bk,Ck]at h;exact oR λe he z=>h.2.2 _ (Au.mpr ⟨e,he,rfl⟩) p.1 (by simp) z
  have e:bS acc p.1 p.2=acc++[p]:=by
   unfold bS;rw[if_neg (by rw[show(acc.any λkv=>decide (kv.1=p.1))=(aV acc p.1).isSome from mC acc p.1,hn];decide)]
  show j4 (bS acc p.1 p.2) ps=_;rw[e,mL (by rw[Dj];exact h),Dj];rfl
def eO(ts:List Str)(A:Str->Addr):List (aC×W):=ts.map λt=>(Sum.inr t,.ref (A t))
theorem AH{A:Str->Addr}:∀{ts:List Str} {t:Str},t∈ts->aV (eO ts A) (Sum.inr t:aC)=some (.ref (A t))
 | u::ts,t,h=>by
  show aV ((Sum.inr u,W.ref (A u))::eO ts A) _=_;rw[lH]
  by_cases e:u=t
  .rw[if_pos (by rw[e]),e]
  .rw[if_neg (λz=>e (Jv z))];exact AH ((Bj.mp h).resolve_left λz=>e z.symm)
theorem u9{ts:List Str}{A:Str->Addr}(h:ts.Nodup):((eO ts A).map (·.1)).Nodup:=by
 unfold eO;rw[Bd,Cz,Hu];rw[Cz]at h;exact h.imp λhne e=>hne (Jv e)
def pH(rs:List aP)(r:aP)(Y:Str)(j:Nat):Prop:=∃k,k<j/\r.parts[k]? = some Y/\a7 rs Y=true/\∀z∈r.parts.take k++r.parts.drop (k+1),j7 rs z
theorem ze5{rs:List aP}{X Y:Str}:Lk rs X Y↔∃r∈rs,r.name=X/\pH rs r Y r.parts.length:=by
 constructor
 .rintro⟨r,hr,hn,a,b,e,ho,hz⟩;refine⟨r,hr,hn,a.length,by rw[e];simp,by rw[e,Kt (Ag _),Nat.sub_self];rfl,ho,λz h=>hz z ?_⟩;rw[e,List.take_left,show a.length+1=(a++[Y]).length by simp,show a++Y::b=(a++[Y])++b by simp,List.drop_left]at h;exact h
 .rintro⟨r,hr,hn,k,hk,e,ho,hz⟩;refine⟨r,hr,hn,r.parts.take k,r.parts.drop (k+1),?_,ho,hz⟩;have:=(Ak.mp e).2;rw[<-this,<-Gn,Gi]
structure TB(rs:List aP)(M0 M:Mm)(d:Addr)(A:Str->Addr)(f:Str->List Str):Prop where
 sub:L3.Sub M0 M
 nd:M0 d=none
 na:∀t∈namesOf rs,M0 (A t)=none
 od:M d=some (.dK (eO (namesOf rs) A))
 oa:∀t∈namesOf rs,M (A t)=some (.lst ((f t).map W.str))
 inj:∀t∈namesOf rs,∀u∈namesOf rs,A t=A u->t=u
theorem TB.app{rs:List aP}{M0 M:Mm}{d:Addr}{A:Str->Addr}{f:Str->List Str}(h:TB rs M0 M d A f){X Y:Str}(hX:X∈namesOf rs):TB rs M0 (put M (A X) (.lst ((f X).map W.str++[.str Y]))) d A (λZ=>if Z=X then f X++[Y] else f Z):=by
 refine⟨λb o e=>?_,h.nd,h.na,?_,λt ht=>?_,h.inj⟩
 .have hb:b≠A X:=λz=>by rw[z,h.na X hX]at e;cases e
  rw[aK hb];exact h.sub b o e
 .rw[aK (λz=>by have:=h.od;rw[z,h.oa X hX]at this;cases this)];exact h.od
 .by_cases e:t=X
  .rw[e,aS,if_pos rfl,Bk];rfl
  .rw[aK (λz=>e (h.inj t ht X hX z)),if_neg e];exact h.oa t ht
theorem AI{l:List Str}{M:Mm}{R:List W->(Mm->Prop)->Mm->Prop}(h:R (l.map W.str) (λ_=>True) M):jI (.fk (l.map bR)) M R:=by
 show R ((l.map bR).map λp=>wK p.1) _ _;rw[Bd];exact h
def NC(em:List (aC×W)):W->W
 | .str t=>.bl (aV em (Sum.inr t:aC)).isSome
 | w=>w
theorem ze6{C:Cc}{ws:List W}{M:Mm}{R:K3}(h:L7 C ws M R):zdy C (bQ R) (bY zdr ws) M:=by
 obtain⟨rs,rfl,g,r⟩:=h;have hf:=g.few;have h3:=nP g;refine xI rfl ⟨rs,rfl,by lia,aZ.frz ⟨namesOf rs,rfl,by lia,λq0 hq0=>⟨q0,rfl,.inl ⟨_,aS,?_⟩⟩⟩⟩;rw[i6 hq0,ze4];refine xI rfl ⟨Bf _,rs,rfl,g,λfs fl fe=>aZ.frz (fU (jZ (rest:=[]) (λw=>match w with|.tup (a::_)=>a|w=>w) (small (by rw[Aa];lia)) (λ_ _=>trivial) (λv hv M' C sb h1=>?_) (aZ.frz ?_)))⟩
 .obtain⟨f,_,rfl⟩:=Au.mp hv;exact xI rfl (xI rfl h1)
 rw[Bd];refine⟨fs.map (·.1),by rw[Bd];rfl,by rw[Aa];lia,λq1 hq1=>⟨q1,rfl,.inl ⟨_,aS,?_⟩⟩⟩;rw[i6 hq1];obtain⟨em,hem⟩:∃em,em=((fs.map (·.1)).foldl cZ []).map bR:=⟨_,rfl⟩;rw[<-hem];have emi:∀t,(aV em (Sum.inr t:aC)).isSome=true↔j7 rs t:=λt=>by
  rw[hem,mJ,decide_eq_true_eq,sY,<-fe t];simp only[List.not_mem_nil,false_or,Au]
 refine xI rfl (AI ?_);refine AF (ini:=[]) (by lia) (lK rs) (λ_=>trivial) (λτ M Q h=>h (Bf _)) (Bf _) λA M1 al=>aZ.frz ⟨eO (namesOf rs) A,?_,small (by rw[Aa];lia),?_⟩
 .unfold iN eO;rw[Bd];rfl
 rw[mL (by rw[Ci];exact u9 (lK rs)),Ci];intro d hd;have tb0:TB rs M (put M1 d (.dK (eO (namesOf rs) A))) d A (λ_=>[]):=by
  refine⟨λb o e=>?_,?_,al.new,aS,λt ht=>?_,al.inj⟩
  .have:=al.sub b o e;rw[aK (λz=>by rw[z,hd]at this;cases this)];exact this
  .cases z:M d with
   | none=>rfl
   | some o=>rw[al.sub d o z]at hd;cases hd
  .have:=al.at_ t ht;rw[aK (λz=>by rw[z,hd]at this;cases this)];exact this
 refine xI rfl (fU (d9 (λi τ M'=>∃(f:Str->List Str) (o:Option W×Option W×Option W),τ=[some (bL rs),some (.fk ((namesOf rs).map bR)),some (.fk em),some (.ref d),o.1,o.2.1,o.2.2]/\TB rs M M' d A f/\(∀X,(f X).length<=3*i)/\∀X Y,Y∈f X↔∃r∈rs.take i,r.name=X/\pH rs r Y r.parts.length) ⟨λ_=>[],(_,_,_),rfl,tb0,λ_=>Bf _,λX Y=>by simp⟩ ?_ ?_))
 .rintro i x τ M' hx ⟨f,o,rfl,tb,fl,fm⟩ D hD;rw[Ax]at hx;obtain⟨ru,hr,rfl⟩:=Bb.mp hx;have hrm:=Bl hr;have hi:=(Ak.mp hr).1;have hp3:=g.g.fp ru hrm;have hXn:ru.name∈namesOf rs:=jC.mpr ⟨ru,hrm,rfl⟩;have tk:rs.take (i+1)=rs.take i++[ru]:=gE hr;refine xI rfl (xI rfl ⟨_,rfl,?_⟩);refine d9 (λj τ M'=>∃(f:Str->List Str) (o:Option W×Option W),τ=[some (bL rs),some (.fk ((namesOf rs).map bR)),some (.fk em),some (.ref d),some (eX ru),o.1,o.2]/\TB rs M M' d A f/\(∀X,(f X).length<=3*i+j)/\∀X Y,Y∈f X↔(∃r∈rs.take i,r.name=X/\pH rs r Y r.parts.length)\/(ru.name=X/\pH rs ru Y j)) ⟨f,(_,_),rfl,tb,fl,λX Y=>by rw[fm];exact⟨.inl,λh=>h.elim id λ⟨_,k,hk,_⟩=>nomatch hk⟩⟩ ?_ ?_
  .rintro j x τ M' hx ⟨f,o,rfl,tb,fl,fm⟩ D2 hD2;rw[sX,Ax]at hx;cases hs:ru.parts[j]? with
   | none=>rw[hs]at hx;cases hx
   | some t=>
    rw[hs]at hx;cases hx;rw[Il];have hj:=(Ak.mp hs).1;have step:∀Y,pH rs ru Y (j+1)↔pH rs ru Y j\/(Y=t/\a7 rs t=true/\∀z∈ru.parts.take j++ru.parts.drop (j+1),j7 rs z):=λY=>by
     constructor
     .rintro⟨k,hk,h1,h2,h3⟩
      by_cases e:k=j
      .subst e;rw[hs]at h1;cases h1;exact .inr ⟨rfl,h2,h3⟩
      .exact .inl ⟨k,by lia,h1,h2,h3⟩
     .rintro(⟨k,hk,h⟩|⟨rfl,h2,h3⟩)
      .exact⟨k,by lia,h⟩
      .exact⟨j,by lia,hs,h2,h3⟩
    have no:¬(a7 rs t=true/\∀z∈ru.parts.take j++ru.parts.drop (j+1),j7 rs z)->D2.nx [some (bL rs),some (.fk ((namesOf rs).map bR)),some (.fk em),some (.ref d),some (eX ru),some (.int (j:Nat)),some (.str t)] M':=λhn=>hD2 _ _ ⟨f,(_,_),rfl,tb,λX=>Lo (fl X),λX Y=>by
     rw[fm,step];exact⟨λh=>h.imp id λ⟨a,b⟩=>⟨a,.inl b⟩,λh=>h.imp id λ⟨a,b⟩=>⟨a,b.elim id λ⟨_,q⟩=>absurd q hn⟩⟩⟩
    refine⟨rfl,rfl,xI rfl (xI rfl ⟨_,⟨.inr t,rfl,rfl⟩,xI rfl (bW (λz=>?_) λz=>?_)⟩)⟩
    .have z:a7 rs t=true:=by
      have z:(aV ((namesOf rs).map bR) (Sum.inr t:aC)).isSome=true:=z;rw[mJ]at z;exact z
     have e1:fX (ru.parts.map W.str) none (some ((j:Nat):Int))=(ru.parts.take j).map W.str:=by
      unfold fX;rw[HT.sIx_none,HT.sIx_nat,Aa,Fm (by lia),Nat.sub_zero,List.drop_zero,Ng]
     have e2:fX (ru.parts.map W.str) (some (((j:Nat):Int)+1)) none=(ru.parts.drop (j+1)).map W.str:=by
      rw[show((j:Nat):Int)+1=((j+1:Nat):Int) from rfl];unfold fX;rw[HT.sIx_none,HT.sIx_nat,Aa,Fm (by lia),Hh (by rw[Fq,Aa];exact Ag _),List.map_drop]
     refine xI rfl (xI rfl (xI rfl (xI rfl ⟨λ⟨_,q⟩=>?_,?_⟩)))
     .rw[HT.sIx_nat,Aa]at q;lia
     refine xI rfl (xI rfl (xI rfl (xI rfl ⟨λ⟨q,_⟩=>?_,_,_,rfl,rfl,?_,?_⟩)))
     .rw[show((j:Nat):Int)+1=((j+1:Nat):Int) from rfl,HT.sIx_nat,Aa]at q;lia
     .rw[e1,e2,Aa,Aa,Ce,Fq];exact small (by lia)
     rw[e1,e2,<-Bk];have hlr:(ru.parts.take j++ru.parts.drop (j+1)).length<=10:=by rw[Ar,Ce,Fq];lia
     generalize hot:ru.parts.take j++ru.parts.drop (j+1)=ot at hlr no step⊢;refine zbZ (jZ (rest:=[some (.fk em)]) (NC em) (small (by rw[Aa];lia)) (λ_ _=>trivial) (λv hv M' C sb h1=>?_) (aZ.frz ?_))
     .obtain⟨y,hy,rfl⟩:=Au.mp hv;exact xI rfl (xI rfl ⟨_,⟨.inr y,rfl,rfl⟩,h1⟩)
     refine⟨ot.map λy=>(aV em (Sum.inr y:aC)).isSome,by show Ja (NC em) (ot.map W.str)=(ot.map _).map W.bl;rw[Bd,Bd];rfl,?_⟩;refine bW (b:=(ot.map λy=>(aV em (Sum.inr y:aC)).isSome).all id) (λz2=>?_) λz2=>?_
     .have z2:∀y∈ot,j7 rs y:=λy hy=>by
       rw[Kl,Gb]at z2;exact(emi y).mp (z2 y hy)
      refine xI rfl (xI rfl (xI rfl ⟨_,.inl ⟨_,.inr ru.name,tb.od,rfl,(AH hXn).symm⟩,gO (tb.oa _ hXn),xI rfl ⟨_,tb.oa _ hXn,dW (by rw[Aa];have:=fl ru.name;lia),?_⟩⟩));refine hD2 _ _ ⟨_,(_,_),rfl,tb.app hXn,λX=>?_,λX Y=>?_⟩
      .have:=fl X;split
       .rename_i e;rw[Ar,Bz,<-e];lia
       .lia
      .by_cases e:X=ru.name
       .subst e;rw[if_pos rfl,Aw,fm,step,An];constructor
        .rintro(h|h)
         .exact h.imp id λ⟨a,b⟩=>⟨a,.inl b⟩
         .exact .inr ⟨rfl,.inr ⟨h,z,z2⟩⟩
        .rintro(h|⟨a,b|⟨b,_⟩⟩)
         .exact .inl (.inl h)
         .exact .inl (.inr ⟨a,b⟩)
         .exact .inr b
       .rw[if_neg e,fm];exact⟨λh=>h.imp id λ⟨a,b⟩=>absurd a.symm e,λh=>h.imp id λ⟨a,b⟩=>absurd a.symm e⟩
     .refine no λq=>?_;have:(ot.map λy=>(aV em (Sum.inr y:aC)).isSome).all id=true:=by
       rw[Kl,Gb];exact λy hy=>(emi y).mpr (q.2 y hy)
      rw[this]at z2;cases z2
    .exact no λq=>by
      have z:(aV ((namesOf rs).map bR) (Sum.inr t:aC)).isSome=false:=z;rw[mJ]at z;have:=of_decide_eq_false z;exact this (of_decide_eq_true q.1)
  .rintro τ M' ⟨f,o,rfl,tb,fl,fm⟩;rw[mB,Aa]at fl fm;refine hD _ _ ⟨f,(_,_,_),rfl,tb,λX=>Ah (fl X) (by lia),λX Y=>?_⟩;rw[fm,tk];constructor
   .rintro(⟨r,h1,h2⟩|⟨h1,h2⟩)
    .exact⟨r,Bh _ h1,h2⟩
    .exact⟨ru,Ba _ (Fe _),h1,h2⟩
   .rintro⟨r,h1,h2,h3⟩;rcases Aw.mp h1 with h1|h1
    .exact .inl ⟨r,h1,h2,h3⟩
    .rw[An.mp h1]at h2 h3;exact .inr ⟨h2,h3⟩
 .rintro τ M' ⟨f,o,rfl,tb,fl,fm⟩;rw[Aa,Cb]at fm;rw[Aa]at fl;refine xI rfl ⟨_,Sub.refl _,r ((namesOf rs).map λX=>(X,f X)) A d M' ⟨by rw[Bd];exact List.map_id _,λx hx Y=>?_,λx hx=>?_⟩ tb.sub tb.nd (λx hx=>?_) ?_ λx hx=>?_⟩
  .obtain⟨X,_,rfl⟩:=Au.mp hx;rw[ze5];exact fm X Y
  .obtain⟨X,_,rfl⟩:=Au.mp hx;exact Ah (fl X) (by lia)
  .obtain⟨X,hX,rfl⟩:=Au.mp hx;exact tb.na X hX
  .rw[tb.od,Bd];rfl
  .obtain⟨X,hX,rfl⟩:=Au.mp hx;exact tb.oa X hX
theorem ND{B:Nat}:∀{l:List On} {b:Nat},sO l=some b->(∀o∈l,∀v,o=some v->v<=B)->b<=l.length*B
 | [],b,h,_=>by cases h;exact Bf _
 | none::l,b,h,_=>nomatch h
 | some a::l,b,h,hl=>by
  have h:aO (some a) (sO l)=some b:=h;cases e:sO l with
  | none=>rw[e]at h;cases h
  | some c=>
   rw[e]at h;cases h;have h1:=ND e λo ho=>hl o (Af _ ho);have h2:=hl (some a) Ai a rfl;rw[Az,Im];lia
theorem NF{own:Str->Bool}{c:Nd->On}(hc:∀p v,cw own c p=some v->p.2<=4->v<=10 ^ 540):∀{ts:List Str} {n b:Nat},n<=4->eM own c ts n=some b->b<=10 ^ (545*ts.length)
 | [],n,b,_,h=>by
  have h:some (if n=0 then 1 else 0)=some b:=h;cases h;split
  .exact Ag _
  .exact Bf _
 | t::ts,n,b,hn,h=>by
  have:=ND (B:=10 ^ 540*10 ^ (545*ts.length)) h λo ho v hv=>by
   obtain⟨m,hm,rfl⟩:=Au.mp ho;have hm:=Cv.mp hm
   by_cases hz:cw own c (t,m)=some 0\/eM own c ts (n-m)=some 0
   .rw[uJ.mpr hz]at hv;cases hv;exact Bf _
   .cases e1:cw own c (t,m) with
    | none=>rw[e1,oZ (λz=>hz (.inr z))]at hv;cases hv
    | some x=>
     cases e2:eM own c ts (n-m) with
     | none=>rw[e1,e2,o9 (λz=>hz (.inl (e1.trans z)))]at hv;cases hv
     | some y=>
      rw[e1,e2,mI]at hv;cases hv;exact Eu (hc (t,m) x e1 (show m<=4 by lia)) (NF hc (show n-m<=4 by lia) e2)
  rw[Aa,Cm]at this;have h5:n+1<=10 ^ 5:=Ah (Jy hn) (by decide);refine Ah this (Ah (Gy _ h5) ?_);rw[<-Jk,<-Jk,Az];exact Dq (by decide) (by lia)
theorem nR{x k:Nat}(h:x<=10 ^ k)(hk:k<=20000):x.log2<100000:=by
 by_cases h0:x=0
 .rw[h0];decide
 .refine(Nat.log2_lt h0).mpr (Gh h ?_);refine Gh (Nat.pow_le_pow_left (show 10<=2 ^ 4 by decide) k) ?_;rw[<-Nat.pow_mul];exact Nat.pow_lt_pow_right (by decide) (by lia)
section
variable {rs:List aP}{L:Nat}{D:List Str}
theorem AJ(g:fG rs){p:Nd}{v:Nat}(h:cM (PR rs) p=some v)(hp:p.2<=4):v<=10 ^ 540:=by
 have hu:¬Ub (PR rs) p:=λz=>by rw[rF.mpr z]at h;cases h
 have e:=uL (KY (rs:=rs) (most:=4)) (x:=p)
 by_cases ho:a7 rs p.1=true
 .have:=e (uQ.mpr ⟨of_decide_eq_true ho,hp⟩) h (Ag _);rw[<-this];refine Ah (LC g p.2 hp p.1 hu _) (Dq (by decide) ?_);unfold hx;split<;>lia
 .rw[show p=(p.1,p.2) from rfl,zP (by cases z:a7 rs p.1;rfl;exact absurd z ho)]at h;cases h;exact Bf _
theorem ze7(g:fG rs){p:Nd}{v:Nat}(h:cw (a7 rs) (cD rs L D) p=some v)(hp:p.2<=4):v<=10 ^ 540:=by
 unfold cw at h;split at h
 .unfold cD at h;split at h
  .exact AJ g h hp
  .cases h;exact Bf _
 .split at h
  .cases h;exact Nat.pow_pos (by decide)
  .cases h;exact Bf _
theorem ze8(g:fG rs){ts:List Str}(ht:ts.length<=3){n:Nat}(hn:n<=4):Sh (eM (a7 rs) (cD rs L D) ts n):=λx h=>
 nR (NF (λp v=>ze7 g) hn h) (by lia)
theorem ze9(g:fG rs)(hL:L<=4){t:Str}{p:Nat×On}(h:p∈eN rs L D t):Sh p.2:=λx hx=>by
 unfold eN at h;split at h
 .unfold gA at h;rcases Aw.mp h with h|h
  .obtain⟨m,hm,e⟩:=Ks.mp h;have hm:=Cv.mp hm;unfold f9 ev at e;split at e
   .cases e
   .cases e;exact nR (AJ g (p:=(t,m)) hx (show m<=4 by lia)) (by decide)
  .split at h
   .rw[An.mp h]at hx;exact nR (AJ g (p:=(t,L)) hx hL) (by decide)
   .cases h
 .rw[An.mp h]at hx;cases hx;decide
theorem AK(hL:L<=4){t:Str}:(eN rs L D t).length<=100:=by
 unfold eN;split
 .unfold gA;rw[Ar];have:=Lp (f9 λm=>cM (PR rs) (t,m)) (Bp L);rw[Cm]at this;split
  .rw[Bz];lia
  .rw[Mr];lia
 .decide
end
section
variable {C:Cc}{rs:List aP}{lk:fH}{ts:List Str}{M0 M:Mm}{A:LA}{L:Nat}{D:List Str}{kv kv':List (List aC×W)}
theorem zfa:Bu ("grammar" : Str) (lf rs lk A)=some (bL rs):=by kernel_rfl
theorem vA:Bu ("links" : Str) (lf rs lk A)=some (.fk (dB lk)):=by kernel_rfl
theorem NG:Bu ("numbers" : Str) (lf rs lk A)=some (.dk (iY rs)):=by kernel_rfl
theorem vB:Bu ("sizes" : Str) (lf rs lk A)=some (.ref A.z):=by kernel_rfl
theorem vD:Bu ("tails" : Str) (lf rs lk A)=some (.ref A.t):=by kernel_rfl
theorem zfb:Bu ("fill_rule" : Str) (lf rs lk A)=none:=by kernel_rfl
theorem AL:Bu ("count_by_rules" : Str) (lf rs lk A)=none:=by kernel_rfl
theorem zfc:Bu ("held_at" : Str) (lf rs lk A)=none:=by kernel_rfl
theorem zfd:Bu ("add_length" : Str) (lf rs lk A)=none:=by kernel_rfl
theorem LS.put_t(h:LS C rs lk ts M0 M A L D kv):LS C rs lk ts M0 (put M A.t (.dT kv')) A L D kv':=by
 refine⟨λb o e=>?_,h.ns,h.nz,h.nt,h.nl,h.inj,?_,?_,aS,λt ht=>?_⟩
 .rw[aK (λz=>by rw[z,h.nt]at e;cases e)];exact h.sub b o e
 .rw[aK (λz=>by have:=h.os;rw[z,h.ot]at this;cases this)];exact h.os
 .rw[aK (λz=>by have:=h.oz;rw[z,h.ot]at this;cases this)];exact h.oz
 .rw[aK (λz=>by have:=h.ol t ht;rw[z,h.ot]at this;cases this)];exact h.ol t ht
theorem LS.more(h:LS C rs lk ts M0 M A L D kv){l:Addr}{X:MO}(hl:M l=none):LS C rs lk ts M0 (put M l X) A L D kv:=by
 have ne:∀{b o},M b=some o->b≠l:=λ{b o} e z=>by rw[z,hl]at e;cases e
 refine⟨λb o e=>?_,h.ns,h.nz,h.nt,h.nl,h.inj,?_,?_,?_,λt ht=>?_⟩
 .rw[aK (ne (h.sub b o e))];exact h.sub b o e
 .rw[aK (ne h.os)];exact h.os
 .rw[aK (ne h.oz)];exact h.oz
 .rw[aK (ne h.ot)];exact h.ot
 .rw[aK (ne (h.ol t ht))];exact h.ol t ht
end
theorem zfe{ws:List W}{keep:Mm->Prop}{g:eI}{tb:aH}{D:D3}{τ:S3}{M:Mm}(Pv:Nat->S3->Mm->Prop)(h0:Pv 0 τ M)(hk:∀i τ M,Pv i τ M->keep M)(hs:∀i w τ M,ws[i]? = some w->Pv i τ M->∀D':D3,(∀τ M,Pv (i+1) τ M->D'.nx τ M)->g w τ M λτ2 M2=>tb D' τ2 M2)(hd:∀τ M,Pv ws.length τ M->D.nx τ M):qB ws keep g tb D τ M:=nC Pv h0 (λi τ M _ p=>hk i τ M p) (λi w τ M e p=>hs i w τ M e p _ λ_ M z=>⟨M,Sub.refl _,z⟩) hd
theorem rL{i k l i' k' l':Nat}(h:kT i k l=kT i' k' l'):i=i'/\k=k'/\l=l':=by
 unfold kT at h;simp only[Dn,Ju,and_true]at h;obtain⟨h1,h2,h3⟩:=h;exact⟨by lia,by lia,by lia⟩
theorem mM{kv:List (List aC×W)}{k k':List aC}{w:W}:aV (bS kv k w) k'=if k=k' then some w else aV kv k':=kI kv _ _ _
theorem NH{M:Mm}{a:Addr}{kv:List (List aC×W)}{i k l:Nat}{x y z:Int}{w:W}{R:K3}(h:M a=some (.dT kv))(e1:x=i)(e2:y=k)(e3:z=l)(hl:aV kv (kT i k l)=some w)(r:R w M):L3.aX (.ref a) (.tup [.int x,.int y,.int z]) M R:=by
 subst e1 e2 e3;exact oU (k:=kT i k l) h hl r
theorem NI{M:Mm}{a:Addr}{kv:List (List aC×W)}{i k l:Nat}{x y z:Int}{v:W}{Q:Mm->Prop}(h:M a=some (.dT kv))(e1:x=i)(e2:y=k)(e3:z=l)(hl:kv.length<Ap)(q:Q (put M a (.dT (bS kv (kT i k l) v)))):qA (.ref a) (.tup [.int x,.int y,.int z]) v M Q:=by
 subst e1 e2 e3;exact oJ (k:=kT i k l) h hl q
theorem vE{ts:List Str}{A:Str->Addr}{t:Str}(h:t∈ts):aV (ts.map λt=>((Sum.inr t:aC),W.ref (A t))) (Sum.inr t:aC)=some (.ref (A t)):=AH (A:=A) h
theorem zff{C:Cc}{ws:List W}{M:Mm}{R:K3}(h:L9 C ws M R):zdJ C (bQ R) (bY zdG ws) M:=by
 obtain⟨rs,lk,ts,M0,A,L,D,kv,i,r,rfl,lg,ls,hr,tk,hD,hkv,rr⟩:=h;have g:=lg.g;have hL:=lg.l4;have hrm:=Bl hr;have hi:=(Ak.mp hr).1;have hn:=g.g.fp r hrm;obtain⟨r',hr',hat⟩:=yX hi;rw[hr]at hr';cases hr';obtain⟨ps,hps⟩:∃ps,ps=r.parts:=⟨_,rfl⟩;obtain⟨val,hval⟩:∃val:Nat->On,∀k,val k=eM (a7 rs) (cD rs L D) (ps.drop k) L:=⟨_,λ_=>rfl⟩;rw[<-hps]at hn;have low:∀k l,k<=ps.length->l<L->aV kv (kT i k l)=some (cE (eM (a7 rs) (cD rs L D) (ps.drop k) l)):=λk l hk hl=>by
  rw[hps]at hk⊢;rw[tk i r hr k hk l hl];congr 2;refine zU λt _ m hm=>?_;unfold cw;split
  .exact(rH (p:=(t,m)) (show m<L by lia)).symm
  .rfl
 have nlow:∀{k l k':Nat},l<L->kT i k' L≠kT i k l:=λ{k l k'} hl e=>by have:=(rL e).2.2;lia
 refine xI rfl ⟨_,_,_,_,rfl,ls.os,zfa,xI rfl ⟨_,hat,xI rfl ?_⟩⟩;show(aM (MG C) (AB C)) (bQ R) [some (.ref A.s),some (.int (i:Nat)),some (.int (L:Nat)),some (.tup (r.parts.map W.str)),none,none,none,none] M;rw[<-hps];have v0:∀x,x=(if L=0 then 1 else 0:Int)->(hZ (bO C.f (aA 0) "tails") (bP (aB (aA 1) (aB (bN dQ (aB (aA 3) aE)) (aB (aA 2) aE))))) (.int x) [some (.ref A.s),some (.int (i:Nat)),some (.int (L:Nat)),some (.tup (ps.map W.str)),none,none,none,none] M (λτ2 M2=>AB C (bQ R) τ2 M2):=λx hx=>by
  subst hx;refine xI rfl ⟨_,_,_,_,rfl,ls.os,vD,xI rfl (xI rfl (xI rfl ⟨z3,NI (k:=ps.length) ls.ot rfl (by rw[Aa]) rfl (dW (by lia)) ?_⟩))⟩;obtain⟨kv1,hkv1⟩:∃kv1,kv1=bS kv (kT i ps.length L) (W.int (if L=0 then 1 else 0:Int)):=⟨_,rfl⟩;rw[<-hkv1];have hl1:kv1.length<=kv.length+1:=by rw[hkv1];exact mD kv _ _
  have hv0:W.int (if L=0 then 1 else 0:Int)=cE (val ps.length):=by
   rw[hval,List.drop_length];show _=cE (some (if L=0 then 1 else 0));split<;>rfl
  refine xI rfl ⟨_,_,rfl,⟨by rw[Aa];lia,by rw[Aa];lia,by decide,by decide⟩,?_⟩;have em:kQ (((ps.map W.str).length:Int)-1) (-1)=ps.length:=by unfold kQ;rw[Aa];lia
  rw[em];refine d9 (λj τ M'=>∃(kv':List (List aC×W)) (o:Option W×Option W×Option W×Option W),τ=[some (.ref A.s),some (.int (i:Nat)),some (.int (L:Nat)),some (.tup (ps.map W.str)),o.1,o.2.1,o.2.2.1,o.2.2.2]/\M'=put M A.t (.dT kv')/\(∀key,(∀k,key≠kT i k L)->aV kv' key=aV kv key)/\(∀k,ps.length<=k+j->k<=ps.length->aV kv' (kT i k L)=some (cE (val k)))/\kv'.length<=kv.length+1+j) ⟨kv1,(_,_,_,_),rfl,rfl,λkey hk=>by rw[hkv1,mM,if_neg (λe=>hk _ e.symm)],λk h1 h2=>by rw[show k=ps.length by lia,hkv1,mM,if_pos rfl,hv0],by lia⟩ ?_ ?_
  .rintro j w τ M' hw ⟨kv',o,rfl,rfl,same,done,hlen⟩ D1 hD1;have hj:j<ps.length:=by
    have:=(Ak.mp hw).1;unfold kR at this;rw[Aa,Cm]at this;exact this
   obtain⟨k,hk⟩:∃k,k+j+1=ps.length:=⟨ps.length-1-j,by lia⟩;have ew:w=.int (k:Nat):=by
    unfold kR at hw;rw[Ax,List.getElem?_range hj]at hw;have hw:W.int (((ps.map W.str).length:Int)-1+(j:Nat)*(-1))=w:=Cj hw;rw[<-hw,Aa];congr 1;lia
   subst ew;have hkl:k<ps.length:=by lia
   obtain⟨t,ht⟩:∃t,ps[k]? = some t:=⟨_,Bc hkl⟩;have htt:t∈ts:=lg.ts.prt r hrm t (by rw[<-hps];exact Bl ht);have hdrop:ps.drop k=t::ps.drop (k+1):=by
    rw[Gn hkl];rw[Bc hkl]at ht;cases ht;rfl
   have ls':LS C rs lk ts M0 (put M A.t (.dT kv')) A L D kv':=ls.put_t;refine⟨z0,λl hl=>?_⟩;have lsl:∀{X:MO},LS C rs lk ts M0 (put (put M A.t (.dT kv')) l X) A L D kv':=λ{X}=>ls'.more hl;obtain⟨F,hF⟩:∃F:Nat×On->On,∀p,F p=tO p.2 (eM (a7 rs) (cD rs L D) (ps.drop (k+1)) (L-p.1)):=⟨_,λ_=>rfl⟩;have hsz:=AK (rs:=rs) (L:=L) (D:=D) hL (t:=t);refine xI rfl ⟨_,_,_,_,rfl,lsl.os,vB,xI rfl (xI rfl ⟨.str t,kA (by rw[Ax,ht];rfl),_,.inl ⟨_,.inr t,lsl.oz,rfl,(vE htt).symm⟩,_,lsl.ol t htt,?_⟩)⟩;refine zfe (λm τ M'=>∃o:Option W×Option W,τ=[some (.ref A.s),some (.int (i:Nat)),some (.int (L:Nat)),some (.tup (ps.map W.str)),some (.int (k:Nat)),some (.ref l),o.1,o.2]/\M'=put (put M A.t (.dT kv')) l (.lst (((((eN rs L D t).take m).filter λp=>decide (p.1<=L)).map F).map cE))) ⟨(_,_),rfl,rfl⟩ (λm τ M' ⟨o,_,e⟩=>by rw[e];exact lsl.ol t htt) ?_ ?_
   .rintro m x τ M' hx ⟨o,rfl,rfl⟩ D2 hD2;rw[Ax]at hx;obtain⟨p,hp,rfl⟩:=Bb.mp hx;have hpm:=Bl hp;have tkm:(eN rs L D t).take (m+1)=(eN rs L D t).take m++[p]:=gE hp;refine⟨rfl,rfl,xI rfl (xI rfl (xI rfl (bW (λz=>?_) λz=>?_)))⟩
    .have z:=of_decide_eq_true z;have hpL:p.1<=L:=by lia
     have hlk:aV kv' (kT i (k+1) (L-p.1))=some (cE (eM (a7 rs) (cD rs L D) (ps.drop (k+1)) (L-p.1))):=by
      by_cases h0:p.1=0
      .rw[h0,Nat.sub_zero,done (k+1) (by lia) (by lia),hval]
      .rw[same _ λk' e=>nlow (show L-p.1<L by lia) e.symm,low (k+1) (L-p.1) (by lia) (by lia)]
     refine xI rfl ⟨gO aS,xI rfl (xI rfl ⟨_,_,_,_,rfl,lsl.os,vD,xI rfl (xI rfl (xI rfl (xI rfl ⟨z3,NH (k:=k+1) (l:=L-p.1) lsl.ot rfl rfl (by lia) hlk ⟨p.2,_,rfl,ze9 g hL hpm,ze8 g (by rw[Fq];lia) (by lia),_,aS,dW ?_,?_⟩⟩)))⟩)⟩
     .rw[Aa,Aa];have h1:=Ef (λp:Nat×On=>decide (p.1<=L)) ((eN rs L D t).take m);rw[Ce]at h1;lia
     rw[gK];refine hD2 _ _ ⟨(_,_),rfl,?_⟩;rw[tkm,Fb,Bk,Bk,Bx,if_pos (decide_eq_true hpL)];show _=put _ l (.lst (_++[cE (F p)]));rw[hF]
    .have z:=of_decide_eq_false z;refine hD2 _ _ ⟨(_,_),rfl,?_⟩;rw[tkm,Fb,Bx,if_neg (λq=>z (by have:=of_decide_eq_true q;lia))];rw[Jd,Cf]
   .rintro τ M' ⟨o,rfl,rfl⟩;rw[Aa,Cb];refine xI rfl (.inl ⟨_,aS,?_⟩);rw[i6 hl];refine⟨((eN rs L D t).filter λp=>decide (p.1<=L)).map F,rfl,?_⟩;have es:sO (((eN rs L D t).filter λp=>decide (p.1<=L)).map F)=val k:=by
     rw[show F=λp=>tO p.2 (eM (a7 rs) (cD rs L D) (ps.drop (k+1)) (L-p.1)) from funext hF,zcs (Ag L) hD (f:=λm=>eM (a7 rs) (cD rs L D) (ps.drop (k+1)) m),hval,hdrop];rfl
    rw[es];refine xI rfl ⟨_,_,_,_,rfl,ls'.os,vD,xI rfl (xI rfl (xI rfl ⟨z3,NI (k:=k) ls'.ot rfl rfl rfl (dW (by lia)) ?_⟩))⟩;rw[gK];refine hD1 _ _ ⟨bS kv' (kT i k L) (cE (val k)),(_,_,_,_),rfl,rfl,λkey hk'=>by rw[mM,if_neg (λe=>hk' _ e.symm)];exact same key hk',λk' h1 h2=>?_,Ah (mD kv' _ _) (by lia)⟩;rw[mM]
    by_cases e:k=k'
    .rw[if_pos (by rw[e]),e]
    .rw[if_neg (λz=>e (rL z).2.1)];exact done k' (by lia) h2
  .rintro τ M' ⟨kv',o,rfl,rfl,same,done,hlen⟩;have el:(kR (((ps.map W.str).length:Int)-1) ps.length).length=ps.length:=by unfold kR;rw[Aa,Cm]
   rw[el]at done hlen;refine⟨_,Sub.refl _,rr _ kv' ls.put_t same (λk hk=>?_) (by lia)⟩;rw[<-hps]at hk⊢;rw[done k (by lia) hk,hval]
 refine xI rfl (xI rfl (bW (λz=>?_) λz=>?_))
 .have z:=of_decide_eq_true z;exact v0 1 (by rw[if_pos (by lia)])
 .have z:=of_decide_eq_false z;exact v0 0 (by rw[if_neg (by lia)])
section
variable {C:Cc}{rs:List aP}{lk:fH}{ts:List Str}{M0 M:Mm}{A:LA}{L:Nat}{D:List Str}{kv:List (List aC×W)}
theorem LS.push(h:LS C rs lk ts M0 M A L D kv){p:Addr}{X:MO}(hp:M p=none):LS C rs lk ts (put M0 p X) (put M p X) A L D kv:=by
 have ne:∀{b o},M b=some o->b≠p:=λ{b o} e z=>by rw[z,hp]at e;cases e
 have l:=h.more (X:=X) hp;refine⟨λb o e=>?_,?_,?_,?_,λt ht=>?_,h.inj,l.os,l.oz,l.ot,l.ol⟩
 .by_cases hb:b=p
  .rw[hb,aS]at e⊢;exact e
  .rw[aK hb]at e;exact l.sub b o e
 .rw[aK (ne h.os)];exact h.ns
 .rw[aK (ne h.oz)];exact h.nz
 .rw[aK (ne h.ot)];exact h.nt
 .rw[aK (ne (h.ol t ht))];exact h.nl t ht
theorem LS.pop{p:Addr}{X:MO}(h:LS C rs lk ts (put M0 p X) M A L D kv)(hp:M0 p=none):LS C rs lk ts M0 (del M p) A L D kv/\M p=some X:=by
 have ne:∀{b},put M0 p X b=none->b≠p:=λ{b} e z=>by rw[z,aS]at e;cases e
 refine⟨⟨λb o e=>?_,?_,?_,?_,λt ht=>?_,h.inj,?_,?_,?_,λt ht=>?_⟩,h.sub p X aS⟩
 .have hb:b≠p:=λz=>by rw[z,hp]at e;cases e
  rw[iU hb];exact h.sub b o (by rw[aK hb];exact e)
 .have:=h.ns;rwa [aK (ne this)]at this
 .have:=h.nz;rwa [aK (ne this)]at this
 .have:=h.nt;rwa [aK (ne this)]at this
 .have:=h.nl t ht;rwa [aK (ne this)]at this
 .rw[iU (ne h.ns)];exact h.os
 .rw[iU (ne h.nz)];exact h.oz
 .rw[iU (ne h.nt)];exact h.ot
 .rw[iU (ne (h.nl t ht))];exact h.ol t ht
end
theorem NJ{rs:List aP}{X:Str}(h:X∈namesOf rs):aV (iY rs) (Sum.inr X:aC)=some (.rl ((numsOf rs X).map λ(n:Nat)=>W.int n)):=by
 unfold iY;generalize namesOf rs=l at h⊢
 induction l with
 | nil=>cases h
 | cons Y l ih=>
  rw[Ay,lH]
  by_cases e:Y=X
  .rw[if_pos (by rw[e]),e]
  .rw[if_neg (λz=>e (Jv z))];exact ih ((Bj.mp h).resolve_left λz=>e z.symm)
theorem zfg{rs:List aP}{X:Str}:(numsOf rs X).length<=rs.length:=by
 unfold numsOf;rw[Aa];exact Ah (Ef _ _) (by rw[List.length_zipIdx];exact Ag _)
def hN(rs:List aP)(c:Nd->On)(L n:Nat):On:=match rs[n]? with
 | some r=>eM (a7 rs) c r.parts L
 | none=>some 0
theorem zfh{J:Type}{rs:List aP}{X:Str}{h:Nat->J}{f:aP->J}(hh:∀n r,rs[n]? = some r->h n=f r):(numsOf rs X).map h=(rs.filter λr=>decide (r.name=X)).map f:=by
 have:∀(l:List aP) (k:Nat),(∀n r,l[n]? = some r->h (k+n)=f r)->(((l.zipIdx k).filter λx=>decide (x.1.name=X)).map (·.2)).map h=(l.filter λr=>decide (r.name=X)).map f:=λl=>by
  induction l with
  | nil=>exact λ_ _=>rfl
  | cons r l ih=>
   intro k hk;have h0:=hk 0 r rfl;rw[Nat.add_zero]at h0;have i:=ih (k+1) λn r' e=>by rw[show k+1+n=k+(n+1) by lia];exact hk (n+1) r' e
   rw[Ij,Bx,Bx]
   by_cases e:r.name=X
   .rw[if_pos (decide_eq_true e),if_pos (decide_eq_true e),Ay,Ay,Ay,i,h0]
   .rw[if_neg (by rw[decide_eq_false e];exact Av),if_neg (by rw[decide_eq_false e];exact Av),i]
 exact this rs 0 λn r e=>by rw[Il];exact hh n r e
theorem zfi{rs:List aP}{L:Nat}{D:List Str}{X:Str}:sO ((numsOf rs X).map (hN rs (cD rs L D) L))=cnt rs L D X:=by
 rw[zfh (f:=λr=>eM (a7 rs) (cD rs L D) r.parts L) λn r e=>by unfold hN;rw[e]];unfold cnt PR;rw[J9];congr 1;exact Cy λr _=>zM
theorem zfj{C:Cc}{ws:List W}{M:Mm}{R:K3}(h:uZ C ws M R):zdL C (bQ R) (bY zdK ws) M:=by
 obtain⟨rs,lk,ts,M0,A,L,D,kv,X,rfl,lg,ls,hX,tk,hD,hkv,rr⟩:=h;have g:=lg.g;have hf:=g.few;have hnf:=zfg (rs:=rs) (X:=X);refine xI rfl ⟨_,_,_,_,rfl,ls.os,NG,xI rfl ⟨_,⟨.inr X,rfl,(NJ hX).symm⟩,fU ?_⟩⟩;refine d9 (λj τ M'=>∃(kv':List (List aC×W)) (o:Option W),τ=[some (.ref A.s),some (.str X),some (.int (L:Nat)),o]/\LS C rs lk ts M0 M' A L D kv'/\TK rs kv' L/\FD rs kv' L D ((numsOf rs X).take j)/\(∀ns,FD rs kv L D ns->FD rs kv' L D ns)/\kv'.length<=kv.length+4*j) ⟨kv,_,rfl,ls,tk,(λ_ h=>nomatch h),λ_ h=>h,Ag _⟩ ?_ ?_
 .rintro j w τ M' hw ⟨kv',o,rfl,ls',tk',fd,fo,hl⟩ D1 hD1;rw[Ax]at hw;obtain⟨n,hn,rfl⟩:=Bb.mp hw;have hnm:=Bl hn;have hj:=(Ak.mp hn).1;obtain⟨r,hr,hrn⟩:=AE.mp hnm;refine xI rfl ⟨_,_,_,rfl,ls'.os,zfb,xI rfl (xI rfl ⟨rs,lk,ts,M0,A,L,D,kv',n,r,rfl,lg,ls',hr,tk',hD,by lia,λM'' kv'' ls'' same new hl''=>hD1 _ _ ⟨kv'',_,rfl,ls'',λi r' e k hk l hl=>?_,λi hi r' e k hk=>?_,λns fn i hi r' e k hk=>?_,by lia⟩⟩)⟩
  .rw[same _ λk' z=>by have:=(rL z).2.2;lia];exact tk' i r' e k hk l hl
  .by_cases ei:i=n
   .subst ei;rw[hr]at e;cases e;exact new k hk
   .rw[same _ λk' z=>ei (rL z).1];rw[gE hn]at hi;rcases Aw.mp hi with hi|hi
    .exact fd i hi r' e k hk
    .exact absurd (An.mp hi) ei
  .by_cases ei:i=n
   .subst ei;rw[hr]at e;cases e;exact new k hk
   .rw[same _ λk' z=>ei (rL z).1];exact fo ns fn i hi r' e k hk
 .rintro τ M' ⟨kv',o,rfl,ls',tk',fd,fo,hl⟩;rw[Aa,Cb]at fd;rw[Aa]at hl;refine xI rfl ⟨_,_,_,_,rfl,ls'.os,NG,xI rfl ⟨_,⟨.inr X,rfl,(NJ hX).symm⟩,fU ?_⟩⟩;refine jZ (rest:=[some (.ref A.s),some (.int (L:Nat))]) (λw=>match w with|.int n=>cE (hN rs (cD rs L D) L n.toNat)|w=>w) (small (by rw[Aa];lia)) (λ_ _=>trivial) (λv hv M2 C2 sb h1=>?_) (aZ.frz ?_)
  .obtain⟨n,hn,rfl⟩:=Au.mp hv;obtain⟨r,hr,hrn⟩:=AE.mp hn;have e:hN rs (cD rs L D) L n=eM (a7 rs) (cD rs L D) (r.parts.drop 0) L:=by unfold hN;rw[hr];rfl
   refine xI rfl ⟨_,_,_,_,rfl,sb _ _ ls'.os,vD,xI rfl (xI rfl ⟨z3,NH (k:=0) (sb _ _ ls'.ot) rfl rfl rfl (fd n hn r hr 0 (Bf _)) ?_⟩)⟩;rw[<-e];exact h1
  .rw[Bd];refine⟨(numsOf rs X).map (hN rs (cD rs L D) L),by rw[Bd];rfl,_,Sub.refl _,?_⟩;rw[zfi];exact rr M' kv' ls' tk' fd fo (by lia)
theorem zfk{a:On}{M:Mm}{R:K3}(h:R (.bl (!decide (a=some 0))) M):rEq true (cE a) (.int 0) M R:=by
 cases a with
 | none=>
  obtain⟨d1,s1,c1,k1⟩:=l9 (M:=M) (n:=0) (w:=.non) trivial;obtain⟨d2,s2,c2,k2⟩:=l9 (M:=M) (n:=0) (w:=.int 0) trivial;refine⟨d1,d2,s1,s2,⟨c1,Ah k1 (by decide)⟩,⟨c2,Ah k2 (by decide)⟩,?_⟩;have:Dw d1 d2=false:=by
   cases e:Dw d1 d2 with
   | false=>rfl
   | true=>exact nomatch (qH (n:=0) (x:=.non) (y:=.int 0) trivial trivial s1 s2).mp e
  rw[this];exact h
 | some x=>
  show R (.bl (!decide ((x:Int)=0))) M;have:decide ((x:Int)=0)=decide (some x=some 0):=by
   rw[Dk,decide_eq_true_eq,decide_eq_true_eq];simp
  rw[this];exact h
theorem rM{lk:fH}{M:Mm}{R:List W->(Mm->Prop)->Mm->Prop}(h:R ((lk.map (·.1)).map W.str) (λ_=>True) M):jI (.fk (dB lk)) M R:=by
 show R ((dB lk).map λp=>wK p.1) _ _;unfold dB;rw[Bd];rw[Bd]at h;exact h
theorem anyB{D:List Str}{l:List Str}:(l.map λy=>decide (y∈D)).any id=true↔∃y∈l,y∈D:=by
 rw[Mj,Mb];exact⟨λ⟨y,h1,h2⟩=>⟨y,h1,of_decide_eq_true h2⟩,λ⟨y,h1,h2⟩=>⟨y,h1,decide_eq_true h2⟩⟩
theorem zfl{C:Cc}{ws:List W}{M:Mm}{R:K3}(h:MA C ws M R):zdS C (bQ R) (bY zdM ws) M:=by
 obtain⟨rs,lk,ts,M0,A,L,kv,rfl,lg,ls,tk,hkv,rr⟩:=h;have g:=lg.g;have h3:=nP g;have nm:=lg.lk.nm;have ndn:=lK rs;obtain⟨dir,hdir⟩:∃dir:Str->Bool,∀X,dir X = !decide (cnt rs L [] X=some 0):=⟨_,λ_=>rfl⟩;refine xI rfl ⟨_,_,_,_,rfl,ls.os,vA,rM ?_⟩;rw[nm];intro p hp;refine⟨λi τ acc M'=>∃(kv':List (List aC×W)) (o:Option W),τ=[o,some (.int (L:Nat)),some (.ref A.s)]/\acc=(((namesOf rs).take i).filter dir).map W.str/\LS C rs lk ts M0 M' A L [] kv'/\TK rs kv' L/\kv'.length<=kv.length+28*i,⟨kv,_,rfl,rfl,ls,tk,Ag _⟩,λ_ _ _ _ _ _ _ _=>trivial,?_,?_⟩
 .rintro vs i w τ acc M' hw hMp ⟨kv',o,rfl,rfl,ls',tk',hl⟩;rw[Ax]at hw;obtain⟨X,hX,rfl⟩:=Bb.mp hw;have hi:=(Ak.mp hX).1;have hXm:=Bl hX;have tks:(namesOf rs).take (i+1)=(namesOf rs).take i++[X]:=gE hX;have lp:=ls'.push (X:=.fix vs) hMp;have hM0:M0 p=none:=by
   cases z:M0 p with
   | none=>rfl
   | some o=>rw[ls'.sub p o z]at hMp;cases hMp
  refine xI rfl ⟨_,_,_,rfl,lp.os,AL,xI rfl (xI rfl ⟨rs,lk,ts,_,A,L,[],kv',X,rfl,lg,lp,hXm,tk',(λ_ h=>nomatch h),by lia,λM2 kv2 ls2 tk2 _ _ hl2=>zfk (xI rfl ?_)⟩)⟩;obtain⟨lq,hq⟩:=ls2.pop hM0;rw[<-hdir];have hal:(((namesOf rs).take i).filter dir).length<=3:=Ah (Ef _ _) (by rw[Ce];lia);refine bW (λz=>xI rfl ⟨hq,dW (by rw[Aa];lia),_,Sub.refl _,kv2,_,rfl,?_,lq,tk2,by lia⟩) λz=>⟨hq,_,Sub.refl _,kv2,_,rfl,?_,lq,tk2,by lia⟩
  .rw[tks,Fb,Bx,if_pos z,Bk];rfl
  .rw[tks,Fb,Bx,if_neg (by rw[z];exact Av),Jd,Cf]
 rintro τ acc M1 hM1 ⟨kv1,o,rfl,rfl,ls1,tk1,hl1⟩;rw[Aa]at hl1;rw[Aa,Cb];refine .inl ⟨_,aS,?_⟩;rw[i6 hM1];obtain⟨ds,hds⟩:∃ds,ds=(namesOf rs).filter dir:=⟨_,rfl⟩;rw[<-hds];have dnd:ds.Nodup:=by rw[hds];exact ndn.filter _
 have dsb:∀X∈ds,X∈namesOf rs:=λX hX=>by rw[hds]at hX;exact(Dh.mp hX).1
 have dl:ds.length<=3:=Ah (len_sub dnd dsb) h3;refine⟨ds,rfl,by lia,λq hq=>?_⟩;rw[AG (by rw[Ci];exact dnd),Ci];have dpos:∀X∈ds,pos (PR rs) (X,L):=λX hX=>by
  rw[hds]at hX;have:=(Dh.mp hX).2;rw[hdir]at this;exact zca (of_decide_eq_false (by rw[<-Jr (decide _),this];rfl))
 have qs:∀{X:MO},LS C rs lk ts M0 (put M1 q X) A L [] kv1:=λ{X}=>ls1.more hq;have lknd:(lk.map (·.1)).Nodup:=by rw[nm];exact ndn
 refine xZ (λm τ M'=>∃(hs:List Str) (size:Int) (o:Option W×Option W),τ=[some (.ref A.s),some (.int (L:Nat)),some (.ref q),some (.int size),o.1,o.2]/\M'=put M1 q (.dK (hs.map bR))/\hs.Nodup/\(∀X∈hs,X∈namesOf rs)/\(∀X∈hs,pos (PR rs) (X,L))/\(∀X∈ds,X∈hs)/\(size<hs.length\/∀x∈lk,(∃Y∈x.2,Y∈hs)->x.1∈hs)/\-1<=size/\m=(3-size).toNat) ⟨_,ds,-1,(_,_),rfl,rfl,dnd,dsb,dpos,λ_ h=>h,.inl (by lia),by lia,rfl⟩ ?_;rintro m τ M' ⟨hs,size,o,rfl,rfl,hn,hsb,hpos,hd,hc,hs1,rfl⟩ D1 hD1;have hl3:hs.length<=3:=Ah (len_sub hn hsb) h3;refine xI rfl (xI rfl (.inr ⟨_,aS,xI rfl (bW (λz=>?_) λz=>?_)⟩))
 .have z:=of_decide_eq_true z;rw[Aa]at z;refine xI rfl (.inr ⟨_,aS,xI rfl ⟨_,_,_,_,rfl,qs.os,vA,_,rfl,?_⟩⟩);refine d9 (λi τ M'=>∃(hs2:List Str) (o:Option W×Option W),τ=[some (.ref A.s),some (.int (L:Nat)),some (.ref q),some (.int ((hs.map bR).length:Nat)),o.1,o.2]/\M'=put M1 q (.dK (hs2.map bR))/\hs2.Nodup/\(∀X∈hs2,X∈namesOf rs)/\(∀X∈hs2,pos (PR rs) (X,L))/\(∃l,hs2=hs++l)/\∀x∈lk.take i,(∃Y∈x.2,Y∈hs)->x.1∈hs2) ⟨hs,(_,_),rfl,rfl,hn,hsb,hpos,⟨[],(Cf _).symm⟩,(λ_ h=>nomatch h)⟩ ?_ ?_
  .rintro i w τ M' hw ⟨hs2,o,rfl,rfl,hn2,hsb2,hpos2,⟨l,hl⟩,hc2⟩ D2 hD2;rw[Ax]at hw;obtain⟨kvx,hkx,rfl⟩:=Bb.mp hw;unfold dB at hkx;rw[Ax]at hkx;obtain⟨x,hx,rfl⟩:=Bb.mp hkx;have hxm:=Bl hx;have hl32:hs2.length<=3:=Ah (len_sub hn2 hsb2) h3;have tkx:lk.take (i+1)=lk.take i++[x]:=gE hx;have hxn:x.1∈namesOf rs:=by rw[<-nm];exact Fz hxm
   refine⟨rfl,rfl,xI rfl (fU (jZ (rest:=[some (.ref q)]) (u7 hs2) (small (by rw[Aa];have:=lg.lk.few x hxm;lia)) (λ_ _=>trivial) (λv hv M' C sb h1=>?_) (aZ.frz ?_)))⟩
   .obtain⟨y,hy,rfl⟩:=Au.mp hv;refine xI rfl (xI rfl (.inr ⟨_,.inl ⟨_,.inr y,sb _ _ aS,rfl,rfl⟩,?_⟩));show C (.bl (aV (hs2.map bR) (Sum.inr y:aC)).isSome) M';rw[mJ];exact h1
   refine⟨x.2.map λy=>decide (y∈hs2),by show Ja (u7 hs2) (x.2.map W.str)=(x.2.map _).map W.bl;rw[Bd,Bd];rfl,?_⟩;refine bW (b:=(x.2.map λy=>decide (y∈hs2)).any id) (λz2=>?_) λz2=>?_
   .obtain⟨y,hy1,hy2⟩:=anyB.mp z2;have hpx:pos (PR rs) (x.1,L):=zcb ((lg.lk.mem x hxm y).mp hy1) (hpos2 y hy2);refine xI rfl (xI rfl (sW (k:=x.1) aS (dW (by rw[Aa];lia)) ?_));rw[qV,gK]
    by_cases hin:x.1∈hs2
    .rw[show cZ hs2 x.1=hs2 from if_pos hin];refine hD2 _ _ ⟨hs2,(_,_),rfl,rfl,hn2,hsb2,hpos2,⟨l,hl⟩,λx' hx' h=>?_⟩;rw[tkx]at hx';rcases Aw.mp hx' with hx'|hx'
     .exact hc2 x' hx' h
     .rw[An.mp hx'];exact hin
    .rw[show cZ hs2 x.1=hs2++[x.1] from if_neg hin];refine hD2 _ _ ⟨hs2++[x.1],(_,_),rfl,rfl,Ck.mpr ⟨hn2,by simp,λa ha b hb e=>hin (by rw[<-An.mp hb,<-e];exact ha)⟩,λX h=>(Aw.mp h).elim (hsb2 X) λh=>by rw[An.mp h];exact hxn,λX h=>(Aw.mp h).elim (hpos2 X) λh=>by rw[An.mp h];exact hpx,⟨l++[x.1],by rw[hl,Dj]⟩,λx' hx' h=>?_⟩;rw[tkx]at hx';rcases Aw.mp hx' with hx'|hx'
     .exact Bh _ (hc2 x' hx' h)
     .rw[An.mp hx'];exact Ba _ (Fe _)
   .refine hD2 _ _ ⟨hs2,(_,_),rfl,rfl,hn2,hsb2,hpos2,⟨l,hl⟩,λx' hx' h=>?_⟩;rw[tkx]at hx';rcases Aw.mp hx' with hx'|hx'
    .exact hc2 x' hx' h
    .rw[An.mp hx']at h;obtain⟨y,h1,h2⟩:=h;rw[anyB.mpr ⟨y,h1,by rw[hl];exact Bh _ h2⟩]at z2;cases z2
  .rintro τ M' ⟨hs2,o,rfl,rfl,hn2,hsb2,hpos2,⟨l,hl⟩,hc2⟩;have el:((dB lk).map λp=>W.tup [wK p.1,p.2]).length=lk.length:=by unfold dB;rw[Aa,Aa]
   rw[el,Cb]at hc2;refine hD1 _ _ _ ?_ ⟨hs2,((hs.map bR).length:Nat),(_,_),rfl,rfl,hn2,hsb2,hpos2,λX h=>by rw[hl];exact Bh _ (hd X h),?_,by lia,rfl⟩
   .rw[Aa];lia
   .rw[Aa]
    by_cases e:l=[]
    .right;rw[e,Cf]at hl;rw[hl]at hc2⊢;exact hc2
    .left;have:=El.mpr e;rw[hl,Ar];lia
 .have z:=of_decide_eq_false z;rw[Aa]at z;have cl:=hc.resolve_left z;refine xI rfl ⟨_,Sub.refl _,rr M1 kv1 hs ls1 tk1 (by lia) hn (λX=>⟨hpos X,λ⟨k,hk⟩=>?_⟩) q hq⟩;refine K0 (λX=>X∈hs) (λX ho hcn=>hd X ?_) (λX Y hlk hY=>?_) hk
  .rw[hds];exact Dh.mpr ⟨of_decide_eq_true ho,by rw[hdir,decide_eq_false hcn];rfl⟩
  .have hXn:X∈lk.map (·.1):=by
    rw[nm];obtain⟨r,hr,hn',_⟩:=hlk;exact jC.mpr ⟨r,hr,hn'⟩
   obtain⟨x,hx,rfl⟩:=Au.mp hXn;exact cl x hx ⟨Y,(lg.lk.mem x hx Y).mpr hlk,hY⟩
theorem zfm{rs:List aP}{L:Nat}{D:List Str}{X t:Str}(ho:a7 rs X=true)(hX:X∉D):eN rs L (D++[X]) t=if t=X then eN rs L D X++[(L,cM (PR rs) (X,L))] else eN rs L D t:=by
 by_cases e:t=X
 .rw[if_pos e,e];unfold eN;rw[if_pos ho,if_pos ho];unfold gA;rw[if_pos (Ba _ (Fe X)),if_neg hX,Cf]
 .rw[if_neg e];unfold eN gA;have:t∈D++[X]↔t∈D:=by
   rw[Aw,An];exact⟨λh=>h.resolve_right e,.inl⟩
  by_cases h:t∈D
  .rw[if_pos (this.mpr h),if_pos h]
  .rw[if_neg (λz=>h (this.mp z)),if_neg h]
section
variable {C:Cc}{rs:List aP}{lk:fH}{ts:List Str}{M0 M:Mm}{A:LA}{L:Nat}{D:List Str}{kv:List (List aC×W)}
theorem LS.app(h:LS C rs lk ts M0 M A L D kv){X:Str}(hX:X∈ts)(ho:a7 rs X=true)(hn:X∉D){w:W}(hw:w=pW (L,cM (PR rs) (X,L))):LS C rs lk ts M0 (put M (A.A X) (.lst ((eN rs L D X).map pW++[w]))) A L (D++[X]) kv:=by
 subst hw;refine⟨λb o e=>?_,h.ns,h.nz,h.nt,h.nl,h.inj,?_,?_,?_,λt ht=>?_⟩
 .rw[aK (λz=>by rw[z,h.nl X hX]at e;cases e)];exact h.sub b o e
 .rw[aK (λz=>by have:=h.os;rw[z,h.ol X hX]at this;cases this)];exact h.os
 .rw[aK (λz=>by have:=h.oz;rw[z,h.ol X hX]at this;cases this)];exact h.oz
 .rw[aK (λz=>by have:=h.ot;rw[z,h.ol X hX]at this;cases this)];exact h.ot
 .rw[zfm ho hn]
  by_cases e:t=X
  .rw[if_pos e,e,aS,Bk];rfl
  .rw[if_neg e,aK (λz=>e (h.inj t ht X hX z))];exact h.ol t ht
theorem LS.next(h:LS C rs lk ts M0 M A L D kv)(hD:∀X,X∈D↔pos (PR rs) (X,L)):LS C rs lk ts M0 M A (L+1) [] kv:=by
 refine⟨h.sub,h.ns,h.nz,h.nt,h.nl,h.inj,h.os,h.oz,h.ot,λt ht=>?_⟩;rw[h.ol t ht];unfold eN;split
 .rw[zcq (hD t).mp (hD t).mpr]
 .rfl
end
theorem zfn{rs:List aP}{kv:List (List aC×W)}{L:Nat}{D:List Str}(tk:TK rs kv L)(fd:∀i,FD rs kv L D [i])(hD:∀X,X∈D↔pos (PR rs) (X,L)):TK rs kv (L+1):=λi r hr k hk l hl=>by
 by_cases e:l=L
 .subst e;rw[fd i i (Fe _) r hr k hk];congr 2;refine zU λt _ m hm=>?_;unfold cw;split
  .by_cases hml:m<l
   .exact rH (p:=(t,m)) hml
   .have:m=l:=by lia
    subst this
    by_cases ht:t∈D
    .exact zO (p:=(t,m)) rfl ht
    .rw[KZ (p:=(t,m)) rfl ht];exact(j6.mpr λz=>ht ((hD t).mpr z)).symm
  .rfl
 .exact tk i r hr k hk l (by lia)
def nS(lk:fH)(X:Str):List Str:=((lk.find? λx=>decide (x.1=X)).map (·.2)).getD []
theorem vF:∀{lk:fH} {x:Str×List Str},(lk.map (·.1)).Nodup->x∈lk->nS lk x.1=x.2
 | y::lk,x,nd,h=>by
  rw[Ay,Ee]at nd;unfold nS;rw[Ey];rcases Bj.mp h with rfl|h
  .rw[decide_eq_true rfl];rfl
  .rw[decide_eq_false (λe=>nd.1 (by rw[e];exact Fz h))];exact vF nd.2 h
def vG(hs:List Str):W->Option W
 | .str y=>if y∈hs then some (.str y) else none
 | _=>none
theorem NK(hs l:List Str):(l.map W.str).filterMap (vG hs)=(l.filter λy=>decide (y∈hs)).map W.str:=by
 induction l with
 | nil=>rfl
 | cons y l ih=>
  rw[Ay,Cp,Bx,ih]
  by_cases h:y∈hs
  .rw[show vG hs (.str y)=some (.str y) from if_pos h,if_pos (decide_eq_true h)];rfl
  .rw[show vG hs (.str y)=none from if_neg h,if_neg (λz=>h (of_decide_eq_true z))]
theorem zfo{C:Cc}{ws:List W}{M:Mm}{R:K3}(h:MB C ws M R):zd3 C (bQ R) (bY zdT ws) M:=by
 obtain⟨rs,lk,ts,M0,A,L,kv,rfl,lg,ls,tk,hkv,rr⟩:=h;have g:=lg.g;have h3:=nP g;have nm:=lg.lk.nm;have ndn:=lK rs;have lknd:(lk.map (·.1)).Nodup:=by rw[nm];exact ndn
 refine xI rfl ⟨_,_,_,rfl,ls.os,zfc,xI rfl ⟨rs,lk,ts,M0,A,L,kv,rfl,lg,ls,tk,by lia,λM1 kv1 hs ls1 tk1 hl1 hsn hsp p0 hp0=>⟨p0,rfl,.inl ⟨_,aS,?_⟩⟩⟩⟩;rw[i6 hp0];have hown:∀X∈hs,a7 rs X=true:=λX hX=>by
  cases z:a7 rs X with
  | true=>rfl
  | false=>exact absurd ((hsp X).mp hX) (j6.mp (zP z))
 have hnames:∀X∈hs,X∈namesOf rs:=λX hX=>of_decide_eq_true (hown X hX);have hhl:hs.length<=3:=Ah (len_sub hsn hnames) h3;have hts:∀X∈hs,X∈ts:=λX hX=>lg.ts.own X (hnames X hX);obtain⟨lk2,hlk2⟩:∃lk2:fH,lk2=hs.map λX=>(X,(nS lk X).filter λy=>decide (y∈hs)):=⟨_,rfl⟩;have nm2:lk2.map (·.1)=hs:=by rw[hlk2,Bd];exact List.map_id _
 have mem2:∀x∈lk2,∀Y,Y∈x.2↔Lk rs x.1 Y/\Y∈hs:=λx hx Y=>by
  rw[hlk2]at hx;obtain⟨X,hX,rfl⟩:=Au.mp hx;obtain⟨y,hy,rfl⟩:=Au.mp (show X∈lk.map (·.1) by rw[nm];exact hnames X hX);show Y∈(nS lk y.1).filter _↔_;rw[Dh,vF lknd hy,lg.lk.mem y hy Y,decide_eq_true_eq]
 have few2:∀x∈lk2,x.2.length<=100:=λx hx=>by
  rw[hlk2]at hx;obtain⟨X,hX,rfl⟩:=Au.mp hx;obtain⟨y,hy,rfl⟩:=Au.mp (show X∈lk.map (·.1) by rw[nm];exact hnames X hX);show((nS lk y.1).filter _).length<=100;rw[vF lknd hy];exact Ah (Ef _ _) (lg.lk.few y hy)
 refine xI rfl (AI (jZ (rest:=[some (.fk (hs.map bR)),some (.ref A.s)]) (λw=>match w with|.str X=>.tup [.str X,.rl (((nS lk X).filter λy=>decide (y∈hs)).map W.str)]|w=>w) (small (by rw[Aa];lia)) (λ_ _=>trivial) (λv hv M' C2 sb h1=>?_) (aZ.frz ?_)))
 .obtain⟨X,hX,rfl⟩:=Au.mp hv;obtain⟨y,hy,rfl⟩:=Au.mp (show X∈lk.map (·.1) by rw[nm];exact hnames X hX);refine xI rfl (xI rfl ⟨_,_,_,_,rfl,sb _ _ ls1.os,vA,xI rfl ⟨_,⟨.inr y.1,rfl,(nQ lknd hy).symm⟩,fU (GW (rest:=[some (.fk (hs.map bR))]) (vG hs) (small (by rw[Aa];have:=lg.lk.few y hy;lia)) (λ_ _=>trivial) (λu hu M3 C3 D3 sb3 g1 g2=>?_) (aZ.frz ⟨z2,?_⟩))⟩⟩)
  .obtain⟨z,hz,rfl⟩:=Au.mp hu;refine xI rfl (xI rfl ⟨_,⟨.inr z,rfl,rfl⟩,xI rfl ?_⟩);show if (aV (hs.map bR) (Sum.inr z:aC)).isSome=true then _ else _;rw[mJ];exact bW (λq=>xI rfl (g1 _ (if_pos (of_decide_eq_true q)))) λq=>g2 (if_neg (of_decide_eq_false q))
  .rw[NK,<-vF lknd hy];exact h1
 have epw:((hs.map W.str).map λw=>match w with|.str X=>W.tup [.str X,.rl (((nS lk X).filter λy=>decide (y∈hs)).map W.str)]|w=>w)=iN (dB lk2):=by
  rw[hlk2];unfold iN dB;rw[Bd,Bd,Bd];rfl
 refine⟨dB lk2,epw,small (by rw[Aa,Aa];lia),?_⟩;have lkn2:((dB lk2).map (·.1)).Nodup:=by
  unfold dB;rw[Bd,Cz,Hu];have:(lk2.map (·.1)).Nodup:=by rw[nm2];exact hsn
  rw[Cz,Hu]at this;exact this.imp λhne e=>hne (Jv e)
 rw[mL (by rw[Ci];exact lkn2),Ci];intro a ha;have lp:=ls1.push (X:=.dK (dB lk2)) ha;have hM0:M0 a=none:=by
  cases z:M0 a with
  | none=>rfl
  | some o=>rw[ls1.sub a o z]at ha;cases ha
 refine xI rfl ⟨a,lk2,rfl,aS,by rw[nm2];exact hsn,by rw[hlk2,Aa];lia,few2,λD dn ds dc dr p1 hp1=>⟨p1,rfl,.inl ⟨_,aS,?_⟩⟩⟩;rw[i6 hp1];rw[nm2]at ds;have hdl:D.length<=3:=Ah (len_sub dn ds) hhl;have at2:∀X∈hs,∃x∈lk2,x.1=X:=λX hX=>Au.mp (by rw[nm2];exact hX);refine xI rfl (AI (d9 (λi τ M'=>∃(kv':List (List aC×W)) (o:Option W),τ=[some (.ref A.s),some (.int (L:Nat)),some (.fk (hs.map bR)),some (.ref a),some (.fk (D.map bR)),o]/\LS C rs lk ts (put M0 a (.dK (dB lk2))) M' A L (D.take i) kv'/\TK rs kv' L/\kv'.length<=kv1.length+28*i) ⟨kv1,_,rfl,lp,tk1,Ag _⟩ ?_ ?_))
 .rintro i w τ M' hw ⟨kv',o,rfl,ls',tk',hl'⟩ D1 hD1;rw[Ax]at hw;obtain⟨X,hX,rfl⟩:=Bb.mp hw;have hi:=(Ak.mp hX).1;have hXD:=Bl hX;have hXh:=ds X hXD;have tkD:D.take (i+1)=D.take i++[X]:=gE hX;have eD:D=D.take i++X::D.drop (i+1):=by
   have e:=(Ak.mp hX).2;rw[<-e,<-Gn,Gi]
  have hXn:X∉D.take i:=λhm=>by
   rw[eD]at dn;exact(Ck.mp dn).2.2 X hm X Ai rfl
  have hDp:∀Y∈D.take i,pos (PR rs) (Y,L):=λY hY=>(hsp Y).mp (ds Y (Ke hY));obtain⟨x,hx,hx1⟩:=at2 X hXh;have hc:cnt rs L (D.take i) X=cM (PR rs) (X,L):=zcc (λY hl hp=>dc _ X _ eD x hx hx1 Y ((mem2 x hx Y).mpr ⟨by rw[hx1];exact hl,(hsp Y).mpr hp⟩)) hDp;refine xI rfl ⟨_,_,_,_,rfl,ls'.os,vB,xI rfl ⟨_,.inl ⟨_,.inr X,ls'.oz,rfl,(vE (hts X hXh)).symm⟩,gO (ls'.ol X (hts X hXh)),xI rfl (xI rfl ⟨_,_,_,rfl,ls'.os,AL,xI rfl (xI rfl ⟨rs,lk,ts,_,A,L,D.take i,kv',X,rfl,lg,ls',hnames X hXh,tk',hDp,by lia,λM2 kv2 ls2 tk2 _ _ hl2=>⟨z2,_,ls2.ol X (hts X hXh),dW (by rw[Aa];have:=AK (rs:=rs) (D:=D.take i) lg.l4 (t:=X);lia),?_⟩⟩)⟩)⟩⟩;refine hD1 _ _ ⟨kv2,_,rfl,?_,tk2,by lia⟩;rw[tkD];exact ls2.app (hts X hXh) (hown X hXh) hXn (by rw[hc];rfl)
 rintro τ M2 ⟨kv2,o,rfl,ls2,tk2,hl2⟩;rw[Aa,Cb]at ls2;rw[Aa]at hl2;obtain⟨ls3,hma⟩:=ls2.pop hM0;have ring:∀X∈hs,X∉D->cM (PR rs) (X,L)=none:=λX h1 h2=>zcd (W:=λX=>X∈hs/\X∉D) (λX ⟨h1,h2⟩=>by
  obtain⟨x,hx,rfl⟩:=at2 X h1;obtain⟨Y,hY,hYD⟩:=dr x hx h2;obtain⟨m1,m2⟩:=(mem2 x hx Y).mp hY;exact⟨(hsp x.1).mp h1,Y,⟨m2,hYD⟩,m1⟩) ⟨h1,h2⟩
 refine⟨a,_,rfl,hma,xI rfl (rM ?_)⟩;rw[nm2];refine d9 (λi τ M'=>∃o:Option W,τ=[some (.ref A.s),some (.int (L:Nat)),some (.fk (hs.map bR)),some (.fk (dB lk2)),some (.fk (D.map bR)),o]/\LS C rs lk ts M0 M' A L (D++(hs.take i).filter λX=>!decide (X∈D)) kv2) ⟨_,rfl,by rw[List.take_zero,Jd,Cf];exact ls3⟩ ?_ ?_
 .rintro i w τ M' hw ⟨o,rfl,ls'⟩ D1 hD1;rw[Ax]at hw;obtain⟨X,hX,rfl⟩:=Bb.mp hw;have hXh:=Bl hX;have tkh:hs.take (i+1)=hs.take i++[X]:=gE hX;refine xI rfl (xI rfl ⟨_,⟨.inr X,rfl,rfl⟩,xI rfl ?_⟩);show if (!(aV (D.map bR) (Sum.inr X:aC)).isSome)=true then _ else _;rw[mJ];refine bW (λz=>?_) λz=>?_
  .have zD:X∉D:=of_decide_eq_false (by rw[<-Jr (decide _),z];rfl);have hXn:X∉D++(hs.take i).filter λX=>!decide (X∈D):=λhm=>by
    rcases Aw.mp hm with hm|hm
    .exact zD hm
    .have:=(Dh.mp hm).1;have nd2:=hsn;rw[<-Gi (i+1) hs,tkh]at nd2;exact(Ck.mp (Ck.mp nd2).1).2.2 X this X (Fe _) rfl
   refine xI rfl ⟨_,_,_,_,rfl,ls'.os,vB,xI rfl ⟨_,.inl ⟨_,.inr X,ls'.oz,rfl,(vE (hts X hXh)).symm⟩,gO (ls'.ol X (hts X hXh)),xI rfl ⟨z2,_,ls'.ol X (hts X hXh),dW (by rw[Aa];have:=AK (rs:=rs) (D:=D++(hs.take i).filter λX=>!decide (X∈D)) lg.l4 (t:=X);lia),?_⟩⟩⟩;refine hD1 _ _ ⟨_,rfl,?_⟩;rw[tkh,Fb,Bx,if_pos z,<-Dj];exact ls'.app (hts X hXh) (hown X hXh) hXn (by rw[ring X hXh zD];rfl)
  .refine hD1 _ _ ⟨_,rfl,?_⟩;rw[tkh,Fb,Bx,if_neg (by rw[z];exact Av),Jd,Cf];exact ls'
 rintro τ M3 ⟨o,rfl,ls4⟩;rw[Aa,Cb]at ls4;obtain⟨E,hE⟩:∃E,E=D++hs.filter λX=>!decide (X∈D):=⟨_,rfl⟩;rw[<-hE]at ls4;have hEp:∀X,X∈E↔pos (PR rs) (X,L):=λX=>by
  rw[hE,Aw,<-hsp X,Dh];constructor
  .rintro(h|h)
   .exact ds X h
   .exact h.1
  .intro h
   by_cases hd:X∈D
   .exact .inl hd
   .exact .inr ⟨h,by rw[decide_eq_false hd];rfl⟩
 refine xI rfl ⟨_,_,_,_,rfl,ls4.os,vA,rM ?_⟩;rw[nm];refine d9 (λi τ M'=>∃(kv':List (List aC×W)) (o:Option W×Option W×Option W×Option W),τ=[some (.ref A.s),some (.int (L:Nat)),o.1,o.2.1,o.2.2.1,o.2.2.2]/\LS C rs lk ts M0 M' A L E kv'/\TK rs kv' L/\(∀X∈(namesOf rs).take i,FD rs kv' L E (numsOf rs X))/\kv'.length<=kv2.length+28*i) ⟨kv2,(_,_,_,_),rfl,ls4,tk2,(λ_ h=>nomatch h),Ag _⟩ ?_ ?_
 .rintro i w τ M' hw ⟨kv',o,rfl,ls',tk',fd,hl'⟩ D1 hD1;rw[Ax]at hw;obtain⟨X,hX,rfl⟩:=Bb.mp hw;have hi:=(Ak.mp hX).1;have hXm:=Bl hX;refine xI rfl ⟨_,_,_,rfl,ls'.os,AL,xI rfl (xI rfl ⟨rs,lk,ts,M0,A,L,E,kv',X,rfl,lg,ls',hXm,tk',λY hY=>(hEp Y).mp hY,by lia,λM4 kv4 ls5 tk5 fd5 fo5 hl5=>hD1 _ _ ⟨kv4,(o.1,o.2.1,o.2.2.1,some (.str X)),rfl,ls5,tk5,λY hY=>?_,by lia⟩⟩)⟩;rw[gE hX]at hY;rcases Aw.mp hY with hY|hY
  .exact fo5 _ (fd Y hY)
  .rw[An.mp hY];exact fd5
 .rintro τ M4 ⟨kv4,o,rfl,ls5,tk5,fd5,hl5⟩;rw[Aa,Cb]at fd5;rw[Aa]at hl5;refine⟨_,Sub.refl _,rr M4 kv4 (ls5.next hEp) (zfn tk5 (λi j hj r hr k hk=>?_) hEp) (by lia)⟩;rw[An.mp hj]at hr⊢;exact fd5 r.name (jC.mpr ⟨r,Bl hr,rfl⟩) i (AE.mpr ⟨r,hr,rfl⟩) r hr k hk
theorem zfp{rs:List aP}{lk:fH}{A:LA}:bD "tails" (.ref A.t) (bD "sizes" (.ref A.z) (bD "numbers" (.dk (iY rs)) (bD "links" (.fk (dB lk)) ([("grammar",bL rs)]:List (Str×W)))))=lf rs lk A:=by kernel_rfl
theorem zfq{rs:List aP}{lk:fH}:Bu ("links" : Str) (bD "links" (.fk (dB lk)) ([("grammar",bL rs)]:List (Str×W)))=some (.fk (dB lk)):=by kernel_rfl
theorem zfr{rs:List aP}{lk:fH}{z:Addr}:Bu ("links" : Str) (bD "sizes" (.ref z) (bD "numbers" (.dk (iY rs)) (bD "links" (.fk (dB lk)) ([("grammar",bL rs)]:List (Str×W)))))=some (.fk (dB lk)):=by kernel_rfl
theorem zfs{rs:List aP}{lk:fH}{z:Addr}:Bu ("sizes" : Str) (bD "sizes" (.ref z) (bD "numbers" (.dk (iY rs)) (bD "links" (.fk (dB lk)) ([("grammar",bL rs)]:List (Str×W)))))=some (.ref z):=by kernel_rfl
theorem NL{M:Mm}{a:Addr}{kvs:List (aC×W)}(h:M a=some (.dK kvs)):kG "dict" (.ref a) M:=.inr ⟨rfl,.inl ⟨_,h⟩⟩
theorem NM:∀{l:List Addr} {M:Mm} {b:Addr},b∉l->lL M l b=M b
 | [],_,_,_=>rfl
 | a::l,M,b,h=>by
  show lL (del M a) l b=_;rw[NM (λz=>h (Af _ z)),iU (λz=>h (by rw[z];exact Ai))]
theorem zft{t:Str}(h:t∈gF):kN t=false:=by
 have:∀t∈gF,kN t=false:=by unfold gF kN f6;decide +kernel
 exact this t h
theorem zfu{rs:List aP}:((iY rs).map (·.1)).Nodup:=by
 unfold iY;rw[Bd,Cz,Hu];have:=lK rs;rw[Cz]at this;exact this.imp λhne e=>hne (Jv e)
theorem zfv{C:Cc}{ws:List W}{M:Mm}{R:K3}(h:L8 C ws M R):zdF C (bQ R) (bY zdz ws) M:=by
 obtain⟨M0,s,dx,rs,rfl,g,rfl,h0,r⟩:=h;have hf:=g.few;have h3:=nP g;have ndn:=lK rs;refine xI rfl (xI rfl ⟨s,dx,xI rfl ⟨aS,by decide,?_⟩⟩);rw[gK];show(aM (MF C) _) (bQ R) _ (put M0 s (.ins C.f dx [("grammar",bL rs)]));refine xI rfl ⟨rs,rfl,g,λlk A0 d M' lko sb nd0 na0 hd hal=>⟨d,lk.map λx=>(Sum.inr x.1,A0 x.1,x.2.map W.str),rfl,by rw[hd,Bd];rfl,λx hx=>?_,?_⟩⟩
 .obtain⟨y,hy,rfl⟩:=Au.mp hx;exact hal y hy
 have ev:((lk.map λx=>((Sum.inr x.1:aC),A0 x.1,x.2.map W.str)).map λx=>(x.1,W.rl x.2.2))=dB lk:=by rw[Bd];rfl
 rw[ev];obtain⟨M1,hM1⟩:∃M1,M1=lL (del M' d) ((lk.map λx=>((Sum.inr x.1:aC),A0 x.1,x.2.map W.str)).map λx=>x.2.1):=⟨_,rfl⟩;rw[<-hM1];have sb1:L3.Sub (put M0 s (.ins C.f dx [("grammar",bL rs)])) M1:=λb o e=>by
  rw[hM1,NM (λhb=>?_),iU (λz=>by rw[z,nd0]at e;cases e)]
  .exact sb b o e
  .rw[Bd]at hb;obtain⟨y,hy,rfl⟩:=Au.mp hb;have:=na0 y hy;rw[show((λx:aC×Addr×List W=>x.2.1) ∘ λx:Str×List Str=>((Sum.inr x.1:aC),A0 x.1,x.2.map W.str)) y=A0 y.1 from rfl,this]at e;cases e
 have s1:M1 s=some (.ins C.f dx [("grammar",bL rs)]):=sb1 s _ aS;have m01:∀b o,M0 b=some o->b≠s/\M1 b=some o:=λb o e=>by
  have hb:b≠s:=λz=>by rw[z,h0]at e;cases e
  exact⟨hb,sb1 b o (by rw[aK hb];exact e)⟩
 refine xI rfl ⟨s,dx,_,rfl,s1,(show(1:Nat)<1000 by decide),?_⟩;obtain⟨F2,hF2⟩:∃F:List (Str×W),F=bD "links" (.fk (dB lk)) ([("grammar",bL rs)]:List (Str×W)):=⟨_,rfl⟩;rw[<-hF2];have l2:F2.length<=2:=by rw[hF2];exact mE _ _ _
 refine xI rfl ⟨_,_,_,_,rfl,aS,by rw[hF2];exact zfq,rM ?_⟩;rw[lko.nm];refine jZ (rest:=[some (bL rs)]) (λw=>match w with|.str X=>.tup [.str X,.rl ((numsOf rs X).map λ(n:Nat)=>W.int n)]|w=>w) (small (by rw[Aa];lia)) (λ_ _=>trivial) (λv hv M' C2 sb h1=>?_) (aZ.frz ?_)
 .obtain⟨X,hX,rfl⟩:=Au.mp hv;exact xI rfl (xI rfl (xI rfl ⟨rs,X,rfl,by lia,aZ.frz ⟨z2,h1⟩⟩))
 refine⟨iY rs,by unfold iN iY;rw[Bd,Bd];rfl,small (by rw[Aa,Aa];lia),?_⟩;rw[mL (by rw[Ci];exact zfu),Ci];refine xI rfl ⟨s,dx,_,rfl,aS,by lia,?_⟩;rw[gK];obtain⟨F3,hF3⟩:∃F:List (Str×W),F=bD "numbers" (.dk (iY rs)) F2:=⟨_,rfl⟩;rw[<-hF3];have l3:F3.length<=3:=by rw[hF3];exact Ah (mE _ _ _) (by lia)
 obtain⟨N3,hN3⟩:∃N,N=put M1 s (.ins C.f dx F3):=⟨_,rfl⟩;rw[<-hN3];have s3:N3 s=some (.ins C.f dx F3):=by rw[hN3];exact aS
 have m03:∀b o,M0 b=some o->N3 b=some o:=λb o e=>by
  obtain⟨hb,e1⟩:=m01 b o e;rw[hN3,aK hb];exact e1
 refine xI rfl ⟨rs,gF,rfl,by lia,by decide,λq hq t ht ho=>?_,λss aw sn su=>fU ?_⟩
 .rcases g.g.pt q hq t ht with h|h
  .rw[g.g.ow q hq t ht]at ho;exact absurd h (of_decide_eq_false ho)
  .exact h
 have hsl:ss.length<=3:=len_sub sn su;refine AF (ini:=[pW (1,some 1)]) (by lia) sn (λ_=>trivial) (λτ M Q h=>⟨z2,h (by decide)⟩) (by decide) λA1 M3 al1=>aZ.frz ⟨eO ss A1,by unfold iN eO;rw[Bd];rfl,small (by rw[Aa];lia),?_⟩;rw[mL (by rw[Ci];exact u9 sn),Ci];intro z hz;have s3':M3 s=some (.ins C.f dx F3):=al1.sub s _ s3;have zs:z≠s:=λe=>by rw[e,s3']at hz;cases hz
 have m0z:M0 z=none:=by
  cases e:M0 z with
  | none=>rfl
  | some o=>rw[al1.sub z o (m03 z o e)]at hz;cases hz
 refine xI rfl ⟨s,dx,_,rfl,by rw[aK (Co zs)];exact s3',by lia,?_⟩;obtain⟨F4,hF4⟩:∃F:List (Str×W),F=bD "sizes" (.ref z) F3:=⟨_,rfl⟩;rw[<-hF4];have l4:F4.length<=4:=by rw[hF4];exact Ah (mE _ _ _) (by lia)
 obtain⟨N4,hN4⟩:∃N,N=put (put M3 z (.dK (eO ss A1))) s (.ins C.f dx F4):=⟨_,rfl⟩;rw[<-hN4];have s4:N4 s=some (.ins C.f dx F4):=by rw[hN4];exact aS
 have z4:N4 z=some (.dK (eO ss A1)):=by rw[hN4,aK zs];exact aS
 have a4:∀t∈ss,N4 (A1 t)=some (.lst [pW (1,some 1)]):=λt ht=>by
  have:=al1.at_ t ht;rw[hN4,aK (λe=>by rw[e,s3']at this;cases this),aK (λe=>by rw[e,hz]at this;cases this)];exact this
 have m04:∀b o,M0 b=some o->N4 b=some o:=λb o e=>by
  rw[hN4,aK (m01 b o e).1,aK (λq=>by rw[q,m0z]at e;cases e)];exact al1.sub b o (m03 b o e)
 refine xI rfl ⟨_,_,_,.ref z,rfl,s4,by rw[hF4,hF3,hF2];exact zfs,NL z4,xI rfl ⟨_,_,_,_,rfl,s4,by rw[hF4,hF3,hF2];exact zfr,rM ?_⟩⟩;rw[lko.nm];refine AF (ini:=[]) (by lia) ndn (λ_=>trivial) (λτ M Q h=>h (Bf _)) (Bf _) λA2 M5 al2=>aZ.frz ⟨eO (namesOf rs) A2,by unfold iN eO;rw[Bd];rfl,small (by rw[Aa];lia),?_⟩;rw[mL (by rw[Ci];exact u9 ndn),Ci];intro y hy;have hzy:z≠y:=λe=>by have:=al2.sub z _ z4;rw[e,hy]at this;cases this
 have sy:s≠y:=λe=>by have:=al2.sub s _ s4;rw[e,hy]at this;cases this
 have z5:put M5 y (.dK (eO (namesOf rs) A2)) z=some (.dK (eO ss A1)):=by rw[aK hzy];exact al2.sub z _ z4
 have nin:∀t∈ss,t∉namesOf rs:=λt ht hn=>by
  have h1:=zft (su t ht);obtain⟨q,hq,e⟩:=jC.mp hn;have:=g.g.nm q hq;rw[e]at this;rw[show kN t=true from decide_eq_true this]at h1;cases h1
 refine⟨_,_,z5,aS,hzy,small (by unfold eO;rw[Aa,Aa];lia),?_⟩;have ndt:(ss++namesOf rs).Nodup:=Ck.mpr ⟨sn,ndn,λa ha b hb e=>nin a ha (by rw[e];exact hb)⟩;obtain⟨AA,hAA⟩:∃AA:Str->Addr,∀t,AA t=if t∈namesOf rs then A2 t else A1 t:=⟨_,λ_=>rfl⟩;have eA1:∀t∈ss,AA t=A1 t:=λt ht=>by rw[hAA,if_neg (nin t ht)]
 have eA2:∀t∈namesOf rs,AA t=A2 t:=λt ht=>by rw[hAA,if_pos ht]
 have et:eO ss A1++eO (namesOf rs) A2=eO (ss++namesOf rs) AA:=by
  unfold eO;rw[Bk];congr 1
  .exact Cy λt ht=>by rw[eA1 t ht]
  .exact Cy λt ht=>by rw[eA2 t ht]
 rw[mL (by rw[et];exact u9 ndt),et];obtain⟨N6,hN6⟩:∃N,N=put (put M5 y (.dK (eO (namesOf rs) A2))) z (.dK (eO (ss++namesOf rs) AA)):=⟨_,rfl⟩;rw[<-hN6];have s6:N6 s=some (.ins C.f dx F4):=by rw[hN6,aK (Co zs),aK sy];exact al2.sub s _ s4
 have z6:N6 z=some (.dK (eO (ss++namesOf rs) AA)):=by rw[hN6];exact aS
 have up6:∀b o,M5 b=some o->b≠z->N6 b=some o:=λb o e hb=>by
  rw[hN6,aK hb,aK (λq=>by rw[q,hy]at e;cases e)];exact e
 have a6:∀t∈ss,N6 (A1 t)=some (.lst [pW (1,some 1)]):=λt ht=>up6 _ _ (al2.sub _ _ (a4 t ht)) λq=>by have:=a4 t ht;rw[q,z4]at this;cases this
 have b6:∀t∈namesOf rs,N6 (A2 t)=some (.lst []):=λt ht=>up6 _ _ (al2.at_ t ht) λq=>by have:=al2.at_ t ht;rw[q,al2.sub z _ z4]at this;cases this
 have m06:∀b o,M0 b=some o->N6 b=some o:=λb o e=>up6 b o (al2.sub b o (m04 b o e)) λq=>by rw[q,m0z]at e;cases e
 refine λt ht=>xI rfl ⟨s,dx,F4,rfl,?_,by lia,_,Sub.refl _,r _ ⟨s,dx,z,t,AA⟩ lk (ss++namesOf rs) rfl ⟨g,lko,⟨λX hX=>Ba _ hX,λq hq u hu=>?_,ndt,by rw[Ar];lia⟩,Bf _⟩ ?_⟩
 .rw[aK (λq=>by rw[<-q,s6]at ht;cases ht)];exact s6
 .cases ho:a7 rs u with
  | true=>exact Ba _ (of_decide_eq_true ho)
  | false=>exact Bh _ (aw q hq u hu ho)
 have ts6:t≠s:=λq=>by rw[q,s6]at ht;cases ht
 have fin:∀b o,N6 b=some o->b≠s->put (put N6 t (.dT [])) s (.ins C.f dx (bD "tails" (.ref t) F4)) b=some o:=λb o e hb=>by
  rw[aK hb,aK (λq=>by rw[q,ht]at e;cases e)];exact e
 have non:∀{b o},N6 b=some o->(∀o',M0 b=some o'->o'≠o)->M0 b=none:=λ{b o} e hh=>by
  cases q:M0 b with
  | none=>rfl
  | some o'=>have:=m06 b o' q;rw[e]at this;cases this;exact absurd rfl (hh _ q)
 refine⟨λb o e=>fin b o (m06 b o e) (m01 b o e).1,h0,m0z,?_,λu hu=>?_,λu hu v hv e=>?_,?_,fin z _ z6 zs,by rw[aK ts6];exact aS,λu hu=>?_⟩
 .cases q:M0 t with
  | none=>rfl
  | some o=>rw[m06 t o q]at ht;cases ht
 .rcases Aw.mp hu with hu|hu
  .show M0 (AA u)=none;rw[eA1 u hu];have:=al1.new u hu;cases q:M0 (A1 u) with
   | none=>rfl
   | some o=>rw[m03 _ o q]at this;cases this
  .show M0 (AA u)=none;rw[eA2 u hu];have:=al2.new u hu;cases q:M0 (A2 u) with
   | none=>rfl
   | some o=>rw[m04 _ o q]at this;cases this
 .have e:AA u=AA v:=e;have cross:∀a∈ss,∀b∈namesOf rs,A1 a≠A2 b:=λa ha b hb q=>by
   have:=al2.new b hb;rw[<-q,a4 a ha]at this;cases this
  rcases Aw.mp hu with hu|hu
  .rcases Aw.mp hv with hv|hv
   .rw[eA1 u hu,eA1 v hv]at e;exact al1.inj u hu v hv e
   .rw[eA1 u hu,eA2 v hv]at e;exact absurd e (cross u hu v hv)
  .rcases Aw.mp hv with hv|hv
   .rw[eA2 u hu,eA1 v hv]at e;exact absurd e.symm (cross v hv u hu)
   .rw[eA2 u hu,eA2 v hv]at e;exact al2.inj u hu v hv e
 .show put (put N6 t (.dT [])) s (.ins C.f dx (bD "tails" (.ref t) F4)) s=_;rw[aS,hF4,hF3,hF2];rw[show bD "tails" (.ref t) (bD "sizes" (.ref z) (bD "numbers" (.dk (iY rs)) (bD "links" (.fk (dB lk)) ([("grammar",bL rs)]:List (Str×W)))))=lf rs lk ⟨s,dx,z,t,AA⟩ from zfp (A:=⟨s,dx,z,t,AA⟩)]
 .show put (put N6 t (.dT [])) s (.ins C.f dx (bD "tails" (.ref t) F4)) (AA u)=_;rcases Aw.mp hu with hu|hu
  .rw[eA1 u hu,fin _ _ (a6 u hu) λq=>by have:=a6 u hu;rw[q,s6]at this;cases this];unfold eN;rw[if_neg (show ¬a7 rs u=true from λho=>nin u hu (of_decide_eq_true ho))];rfl
  .rw[eA2 u hu,fin _ _ (b6 u hu) λq=>by have:=b6 u hu;rw[q,s6]at this;cases this];unfold eN gA;rw[if_pos (show a7 rs u=true from decide_eq_true hu),if_neg (show u∉([]:List Str) from λh=>nomatch h)];rfl
end M74
namespace Rg
open PySem Spec PyProof.Rows L2 L3
theorem nT{lo:Int}{n i:Nat}{w:W}(h:(eV lo n)[i]? = some w):i<n/\w=.int (lo+i):=by
 unfold eV at h;rw[Ax]at h;obtain⟨j,hj,rfl⟩:=Bb.mp h;obtain⟨h1,h2⟩:=Ak.mp hj;simp at h1 h2;subst h2;exact⟨h1,rfl⟩
end Rg
namespace M74
open PySem Spec PyProof.Rows L2 L3 Rg M47
theorem zfw{ws:List W}{j:Nat}(h:j<=ws.length):fX ws none (some (j:Int))=ws.take j:=by
 unfold fX;rw[HT.sIx_none,HT.sIx_nat,Fm h];simp
theorem zfx{ts:List Str}{j:Nat}{M:Mm}{R:K3}(h:j<=ts.length)(r:R (.rl ((ts.take j).map W.str)) M):oH (.rl (ts.map W.str)) none (some (j:Int)) M R:=by
 show R (.rl (fX (ts.map W.str) none (some (j:Int)))) M;rw[zfw (by rw[Aa];exact h),<-Ng];exact r
theorem big{j:Int}(h:j<=1000):j<2 ^ 4096:=Int.lt_of_le_of_lt h (by decide)
theorem zfy{is:List Int}{k:Int}(h0:0<=k)(h1:k<is.length):∃v,cX (is.map W.int) k=some (.int v)/\v∈is:=by
 obtain⟨j,rfl⟩:=Hf h0;have hj:j<is.length:=by lia
 exact⟨is[j],KP (Bc hj),Ma hj⟩
theorem zfz{ws:List W}{M:Mm}{R:K3}(h:u5 ws M R):zej (bQ R) (bY zee ws) M:=by
 obtain⟨d,hs,rfl,hne,hl,r⟩:=h;have hpos:=El.mpr hne;obtain⟨v,ev,mv⟩:=zfy (is:=[0,1,2,2,3,1]) (k:=d % 6) (Fw _ (by decide)) (Fu _ (by decide));have hv:0<=v/\v<=3:=by
  have:∀v∈([0,1,2,2,3,1]:List Int),0<=v/\v<=3:=by decide
  exact this v mv
 refine⟨z0,λq hq=>⟨small (by decide),xI rfl ⟨show(0:Int)<6 by decide,_,ev,xI rfl ⟨by lia,by lia,?_⟩⟩⟩⟩;refine d9 (λi τ M'=>∃(ts:List Str) (o:Option W×Option W),τ=[some (.int d),some (.rl (hs.map W.str)),some (.ref q),o.1,o.2]/\M'=put M q (.lst (ts.map W.str))/\ts.length=i/\∀t∈ts,t∈hs\/t∈gF) ⟨[],(_,_),rfl,rfl,rfl,λ_ h=>nomatch h⟩ ?_ ?_
 .rintro i w τ M' hw ⟨ts,o,rfl,rfl,hi,ht⟩ D hD;obtain⟨hi2,rfl⟩:=nT hw;have hap:(ts.map W.str).length<Ap:=dW (by rw[Aa];lia);have go:∀(t:Str) (o4:Option W),(t∈hs\/t∈gF)->D.nx [some (.int d),some (.rl (hs.map W.str)),some (.ref q),some (.int (0+(i:Nat))),o4] (put (put M q (.lst (ts.map W.str))) q (.lst (ts.map W.str++[.str t]))):=λt o4 h=>by
   refine hD _ _ ⟨ts++[t],(some (.int (0+(i:Nat))),o4),rfl,by rw[gK,Bk];rfl,by rw[Ar,hi];rfl,λx hx=>?_⟩;rcases Aw.mp hx with hx|hx
   .exact ht x hx
   .rw[An.mp hx];exact h
  refine xI rfl (xI rfl ⟨.inl (.inl ⟨by decide,by decide⟩),⟨by lia,big (by lia)⟩,show(0:Int)<15 by decide,?_⟩);refine xI rfl (xI rfl (bW (λz=>?_) λz=>?_))
  .obtain⟨t,et,mt⟩:=zH (ts:=gF) (k:=(d/(6+90*(0+(i:Nat)))) % 15 % 3) (Fw _ (by decide)) (Fu _ (by decide));exact xI rfl ⟨gO aS,z3,xI rfl ⟨show(0:Int)<3 by decide,_,et,_,aS,hap,go t _ (.inr mt)⟩⟩
  .obtain⟨t,et,mt⟩:=zH (ts:=hs) (k:=(d/(6+90*(0+(i:Nat)))) % 15 % (hs.map W.str).length) (Fw _ (by rw[Aa];lia)) (by rw[Aa];exact Fu _ (by lia));exact xI rfl ⟨gO aS,xI rfl (xI rfl (xI rfl ⟨by rw[Aa];lia,_,et,_,aS,hap,go t _ (.inl mt)⟩))⟩
 .rintro τ M' ⟨ts,o,rfl,rfl,hi,ht⟩;have hi:ts.length=v.toNat:=by rw[hi];unfold eV;simp
  exact xI rfl ⟨_,aS,M,Sub.new hq,r ts (by lia) ht⟩
theorem zfA{ts:List Str}{j:Nat}{i:Int}{M:Mm}{R:K3}(ei:i=j)(h:j<=ts.length)(r:R (.rl ((ts.take j).map W.str)) M):oH (.rl (ts.map W.str)) none (some i) M R:=by
 subst ei;exact zfx h r
theorem NN{t:Str}(h:t∈gF):kN t=false:=by
 have:∀t∈gF,kN t=false:=by unfold gF kN f6;decide +kernel
 exact this t h
theorem zfB{rs:List aP}{hs:List Str}(h1:∀t∈hs,t∈f6)(h2:∀r∈rs,r.name∈hs/\r.parts.length<=3/\∀t∈r.parts,t∈hs\/t∈gF)(h3:∀t∈hs,∃r∈rs,r.name=t)(h4:rs≠[])(h5:rs.length<=9):oY rs:=by
 have nm:∀r∈rs,r.name∈f6:=λr hr=>h1 _ (h2 r hr).1;refine⟨h4,h5,nm,λr hr t ht=>((h2 r hr).2.2 t ht).imp (h1 t) id,λr hr=>(h2 r hr).2.1,λr hr t ht=>?_⟩;rcases(h2 r hr).2.2 t ht with h|h
 .rw[show kN t=true from decide_eq_true (h1 t h)];exact decide_eq_true (jC.mpr (h3 t h))
 .rw[NN h];refine decide_eq_false λz=>?_;obtain⟨r',hr',rfl⟩:=jC.mp z;have:=NN h;rw[show kN r'.name=true from decide_eq_true (nm r' hr')]at this;cases this
theorem zfC{ws:List W}{M:Mm}{R:K3}(h:ME ws M R):zes (bQ R) (bY zek ws) M:=by
 obtain⟨zs,rfl,hz,r⟩:=h;refine xI rfl ⟨zs,0,rfl,hz,Ig 0,λc=>?_⟩;obtain⟨j,hj⟩:∃j:Nat,1+c/2 % 3=(j:Int):=Hf (by have:=Fw (c/2) (show(3:Int)≠0 by decide);lia);have hj1:1<=j/\j<=3:=by
  have a:=Fw (c/2) (show(3:Int)≠0 by decide);have b:=Fu (c/2) (show(0:Int)<3 by decide);lia
 refine⟨z3,xI rfl ⟨⟨by decide,by decide⟩,show(0:Int)<3 by decide,xI rfl (zfA (ts:=N3) hj hj1.2 ?_)⟩⟩;obtain⟨hs,hhs⟩:∃hs:List Str,hs=List.take j N3:=⟨_,rfl⟩;rw[<-hhs];have hl:hs.length=j:=by rw[hhs,Ce];exact Fm hj1.2
 have hn8:∀t∈hs,t∈f6:=λt ht=>by
  rw[hhs]at ht;have:∀t∈N3,t∈f6:=by unfold N3 f6;decide +kernel
  exact this t (Ke ht)
 have hne:hs≠[]:=λe=>by rw[e]at hl;simp at hl;lia
 have b5a:=Fw (c/6) (show(5:Int)≠0 by decide);have b5b:=Fu (c/6) (show(0:Int)<5 by decide);refine⟨z0,λq hq=>xI rfl (xI rfl ⟨⟨by decide,by decide⟩,show(0:Int)<5 by decide,xI rfl ⟨by rw[Aa];lia,by rw[Aa];lia,?_⟩⟩)⟩;refine d9 (λi τ M'=>∃(rs:List aP) (o:Option W×Option W×Option W),τ=[some (.sc (zs.map W.int)),some (.int c),some (.rl (hs.map W.str)),some (.ref q),o.1,o.2.1,o.2.2]/\M'=put M q (.lst (rs.map eX))/\rs.length=i/\(∀r∈rs,r.name∈hs/\r.parts.length<=3/\∀t∈r.parts,t∈hs\/t∈gF)/\∀k,k<i->k<hs.length->∃r,rs[k]? = some r/\hs[k]? = some r.name) ⟨[],(_,_,_),rfl,rfl,rfl,(λ_ h=>nomatch h),λk h=>nomatch h⟩ ?_ ?_
 .rintro i w τ M' hw ⟨rs,o,rfl,rfl,hi,hrs,hcov⟩ D hD;obtain⟨hi2,rfl⟩:=nT hw;rw[Aa]at hi2;have hap:(rs.map eX).length<Ap:=dW (by rw[Aa];lia);rw[Iq];refine xI rfl (xI rfl ⟨zs,_,rfl,hz,by lia,λd0=>?_⟩);have hpos:(0:Int)<(hs.map W.str).length:=by rw[Aa];lia
  have go:∀(d:Int),(aM (bB 6 (aF aX (aA 2) (aF gR (aA 5) (bN dQ (aB (aA 2) aE))))) (aM (dR (b5 (aF lW (aA 4) (bN dQ (aB (aA 2) aE)))) (bB 6 (aF aX (aA 2) (aA 4))) eU) (dE (dX "list" fQ (aA 3) (aB (bP (aB (aA 6) (aB (b9 u5 (aB (aF iV (aA 5) (vC (.int 3))) (aB (aA 2) aE))) (aB (aF gR (aF iV (aA 5) (vC (.int 900))) (vC (.int 4))) aE)))) aE))))) D [some (.sc (zs.map W.int)),some (.int c),some (.rl (hs.map W.str)),some (.ref q),some (.int (i:Nat)),some (.int d),o.2.2] (put M q (.lst (rs.map eX))):=λd=>by
   have fin:∀(nm:Str),nm∈hs->(i<hs.length->hs[i]? = some nm)->(dE (dX "list" fQ (aA 3) (aB (bP (aB (aA 6) (aB (b9 u5 (aB (aF iV (aA 5) (vC (.int 3))) (aB (aA 2) aE))) (aB (aF gR (aF iV (aA 5) (vC (.int 900))) (vC (.int 4))) aE)))) aE))) D [some (.sc (zs.map W.int)),some (.int c),some (.rl (hs.map W.str)),some (.ref q),some (.int (i:Nat)),some (.int d),some (.str nm)] (put M q (.lst (rs.map eX))):=λnm h1 h2=>by
    refine xI rfl ⟨gO aS,xI rfl (xI rfl ⟨⟨by decide,by decide⟩,xI rfl ⟨_,hs,rfl,hne,by lia,λts tl tm=>xI rfl ⟨⟨by decide,by decide⟩,show(0:Int)<4 by decide,z3,_,aS,hap,?_⟩⟩⟩)⟩;refine hD _ _ ⟨rs++[⟨nm,ts,d/900 % 4⟩],(some (.int (i:Nat)),some (.int d),some (.str nm)),rfl,by rw[gK,Bk];rfl,by rw[Ar,hi];rfl,λx hx=>?_,λk hk hkl=>?_⟩
    .rcases Aw.mp hx with hx|hx
     .exact hrs x hx
     .rw[An.mp hx];exact⟨h1,tl,tm⟩
    .by_cases e:k=i
     .subst e;exact⟨⟨nm,ts,d/900 % 4⟩,by rw[Kt (by lia),hi,Nat.sub_self];rfl,h2 hkl⟩
     .obtain⟨r0,a1,a2⟩:=hcov k (by lia) hkl;exact⟨r0,by rw[Lh (by lia)];exact a1,a2⟩
   obtain⟨t,et,mt⟩:=zH (ts:=hs) (k:=d % (hs.map W.str).length) (Fw _ (by lia)) (by rw[Aa]at hpos⊢;exact Fu _ hpos);refine xI rfl (xI rfl (xI rfl ⟨hpos,_,et,xI rfl (xI rfl (xI rfl (bW (λz=>?_) λz=>?_)))⟩))
   .have z:=of_decide_eq_true z;rw[Aa]at z;have hil:i<hs.length:=by lia
    exact xI rfl (xI rfl ⟨_,kA (by rw[Ax,Bc hil];rfl),fin _ (Ma hil) λ_=>Bc hil⟩)
   .have z:=of_decide_eq_false z;rw[Aa]at z;exact fin t mt λh=>absurd h (by lia)
  refine xI rfl ⟨show(0:Int)<2 by decide,xI rfl (bW (λz=>?_) λz=>go d0)⟩;have a0:0<=d0 % 10 ^ 40:=Fw _ (by decide);have a1:d0 % 10 ^ 40<10 ^ 40:=Fu _ (by decide);have b1:(d0 % 10 ^ (40:Int).toNat+(i:Nat)).natAbs<2 ^ 4096:=E2 (m:=140) (show(d0 % 10 ^ 40+(i:Nat)).natAbs<_ by lia) (by decide);have b2:(d0 % 10 ^ (40:Int).toNat+5*(i:Nat)+2).natAbs<2 ^ 4096:=E2 (m:=140) (show(d0 % 10 ^ 40+5*(i:Nat)+2).natAbs<_ by lia) (by decide);exact xI rfl ⟨⟨by decide,by decide,by decide⟩,show(0:Int)<10 ^ (40:Int).toNat by decide,xI rfl (xI rfl ⟨⟨by decide,by decide,by decide⟩,show(0:Int)<10 ^ (40:Int).toNat by decide,xI rfl ⟨.inl (.inl ⟨by decide,by decide⟩),.inr ⟨b1,b2⟩,⟨by decide,by decide⟩,go _⟩⟩)⟩
 .rintro τ M' ⟨rs,o,rfl,rfl,hi,hrs,hcov⟩;have hi:rs.length=(((hs.map W.str).length:Int)+c/6 % 5).toNat:=by rw[hi];unfold eV;simp
  rw[Aa]at hi;refine xI rfl ⟨_,Sub.refl _,r rs ⟨zfB hn8 hrs (λt ht=>?_) (λe=>by rw[e]at hi;simp at hi;lia) (by lia),by lia,λq hq=>by
   have:=(hrs q hq).1;rw[hhs]at this;exact Ke this⟩ q hq⟩
  obtain⟨k,hk⟩:=List.getElem?_of_mem ht;have hkl:=(Ak.mp hk).1;obtain⟨r0,h1,h2⟩:=hcov k (by unfold eV;simp;lia) hkl;rw[hk]at h2;cases h2;exact⟨r0,Bl h1,rfl⟩
theorem Lg.at{rs:List aP}{lk:fH}{ts:List Str}{L L':Nat}(h:Lg rs lk ts L)(hL:L'<=4):Lg rs lk ts L':=⟨h.g,h.lk,h.ts,hL⟩
theorem zfD{C:Cc}{ws:List W}{M:Mm}{R:K3}(h:MC C ws M R):zd9 C (bQ R) (bY zd4 ws) M:=by
 obtain⟨rs,most,rfl,g,hm,r⟩:=h;refine xI rfl λa dx ha hdx hne=>⟨M,a,dx,rs,rfl,g,rfl,ha,λM1 A lk ts hA lg ls=>⟨rfl,?_⟩⟩
 subst hA;refine xI rfl (xI rfl ⟨by lia,by lia,?_⟩);refine d9 (λi τ M'=>∃(kv:List (List aC×W)) (o:Option W),τ=[some (bL rs),some (.int (most:Nat)),some (.ref A.s),o]/\LS C rs lk ts M M' A i [] kv/\TK rs kv i/\kv.length<=300*i) ⟨[],_,rfl,ls,(λi r hr k hk l hl=>nomatch hl),Bf _⟩ ?_ ?_
 .rintro i w τ M' hw ⟨kv,o,rfl,ls',tk,hl⟩ D hD;obtain⟨hi,rfl⟩:=nT hw;have hi4:i<=4:=by lia
  rw[Iq];exact xI rfl ⟨_,_,_,rfl,ls'.os,zfd,xI rfl ⟨rs,lk,ts,M,A,i,kv,rfl,lg.at hi4,ls',tk,by lia,λM2 kv2 ls2 tk2 hl2=>hD _ _ ⟨kv2,_,rfl,ls2,tk2,by lia⟩⟩⟩
 .rintro τ M' ⟨kv,o,rfl,ls',tk,hl⟩;have e:(eV 0 ((most:Int)+1).toNat).length=most+1:=by unfold eV;rw[Aa,Cm];lia
  rw[e]at ls';exact xI rfl ⟨_,Sub.refl _,r M' A lk ts kv lg ls'.ns ls'⟩
theorem zfE{rs:List aP}{X:Str}{n:Nat}:(gA rs n [] X).length<=n:=by
 unfold gA;rw[if_neg (show X∉([]:List Str) from λh=>nomatch h),Cf];have:=Lp (f9 λm=>cM (PR rs) (X,m)) (Bp n);rwa [Cm]at this
theorem zfF{rs:List aP}{X:Str}{n:Nat}:(aV (((gA rs (n+1) [] X).map λp=>((Sum.inl (p.1:Int):aC),cE p.2))) (Sum.inl (n:Int):aC)).getD (.int 0)=cE (cM (PR rs) (X,n)):=by
 unfold gA;rw[if_neg (show X∉([]:List Str) from λh=>nomatch h),Cf,Gs,Jx,Bk];show(aI _ _).getD _=_;rw[t7,oR (t:=((Bp n).filterMap (f9 λm=>cM (PR rs) (X,m))).map λp=>((Sum.inl (p.1:Int):aC),cE p.2)) λe he z=>?_]
 .show(aI (((f9 (λm=>cM (PR rs) (X,m)) n).toList).map λp=>((Sum.inl (p.1:Int):aC),cE p.2)) _).getD _=_;unfold f9 ev
  by_cases h:cM (PR rs) (X,n)=some 0
  .rw[if_pos h,h];rfl
  .rw[if_neg h];show(aI [((Sum.inl (n:Int):aC),cE (cM (PR rs) (X,n)))] _).getD _=_;rw[dG,if_pos rfl];rfl
 .obtain⟨p,hp,rfl⟩:=Au.mp he;obtain⟨m,hm,e⟩:=Ks.mp hp;have hm:=Cv.mp hm;unfold f9 ev at e;split at e
  .cases e
  .cases e;have:=Sum.inl.inj z;lia
theorem zfG{rs:List aP}{X:Str}{n:Nat}:(((gA rs n [] X).map λp=>((Sum.inl (p.1:Int):aC),cE p.2)).map (·.1)).Nodup:=by
 unfold gA;rw[if_neg (show X∉([]:List Str) from λh=>nomatch h),Cf,Bd,Cz,Hu,List.pairwise_filterMap];have:=List.nodup_range (n:=n);rw[Cz]at this;refine this.imp λhne p hp q hq e=>hne ?_;unfold f9 ev at hp hq;split at hp
 .cases hp
 .split at hq
  .cases hq
  .cases hp;cases hq;have:=Sum.inl.inj (show(Sum.inl _:aC)=Sum.inl _ from e);lia
theorem zfH{C:Cc}{ws:List W}{M:Mm}{R:K3}(h:MD C ws M R):zeb C (bQ R) (bY zea ws) M:=by
 obtain⟨rs,X,most,rfl,g,hX,hm,r⟩:=h;refine xI rfl (xI rfl ⟨rs,most,rfl,g,hm,λM1 A lk ts kv lg ns ls=>?_⟩);have hXt:=lg.ts.own X hX;have e1:eN rs (most+1) [] X=gA rs (most+1) [] X:=by unfold eN;rw[if_pos (show a7 rs X=true from decide_eq_true hX)]
 have hl:=zfE (rs:=rs) (X:=X) (n:=most+1);refine⟨_,_,_,.ref A.z,rfl,ls.os,vB,NL ls.oz,xI rfl ⟨Bf _,_,.inl ⟨_,.inr X,ls.oz,rfl,(vE hXt).symm⟩,.inl ⟨_,ls.ol X hXt,?_⟩⟩⟩;rw[e1];refine⟨(gA rs (most+1) [] X).map λp=>((Sum.inl (p.1:Int):aC),cE p.2),by unfold iN;rw[Bd];rfl,small (by rw[Aa];lia),?_⟩;rw[mL (by rw[Ci];exact zfG),Ci];refine xI rfl ⟨rfl,xI rfl ⟨_,⟨.inl (most:Int),rfl,rfl⟩,?_⟩⟩;rw[zfF];have fin:(bQ R).rt (cE (cM (PR rs) (X,most))) (del M1 (A.A X)):=⟨M,λb o e=>by
  rw[iU (λz=>by rw[z,ls.nl X hXt]at e;cases e)];exact ls.sub b o e,r⟩
 cases q:cM (PR rs) (X,most) with
 | none=>rw[q]at fin;exact fin
 | some v=>rw[q]at fin;exact fin
theorem CV.up{rs:List aP}{most:Nat}{c:Nd->Nat}{x:W}{M M':Mm}(h:CV rs most c x M)(sb:L3.Sub M M'):CV rs most c x M':=by
 obtain⟨kvs,h1,h2⟩:=h;exact⟨kvs,h1.imp id λ⟨a,e,e2⟩=>⟨a,e,sb _ _ e2⟩,h2⟩
theorem CV.ix{rs:List aP}{most:Nat}{c:Nd->Nat}{x:W}{M:Mm}(h:CV rs most c x M){X:Str}(hX:X∈namesOf rs){m:Nat}(hm:m<=most){j:Int}(ej:j=(m:Int)){R:K3}(r:R (.int (c (X,m))) M):L3.aX x (.tup [.str X,.int j]) M R:=by
 subst ej;obtain⟨kvs,rfl|⟨a,rfl,e⟩,hl⟩:=h
 .exact⟨_,⟨eK (X,(m:Int)),rfl,(hl X hX m hm).symm⟩,r⟩
 .exact⟨_,.inr ⟨kvs,eK (X,(m:Int)),e,rfl,(hl X hX m hm).symm⟩,r⟩
theorem zfI{ts:List Str}(hs:∀t∈ts,lE t){M:Mm}{R:K3}(h:R (.bl (decide (ts=[]))) M):rEq false (.tup (ts.map W.str)) (.tup []) M R:=by
 have p1:Pl 1 (.tup (ts.map W.str)):=λw hw=>by
  obtain⟨t,ht,rfl⟩:=Au.mp hw;exact hs t ht
 have p2:Pl 1 (.tup []):=λw hw=>nomatch hw;obtain⟨d1,s1,c1,k1⟩:=l9 (M:=M) p1;obtain⟨d2,s2,c2,k2⟩:=l9 (M:=M) p2;refine⟨d1,d2,s1,s2,⟨c1,Ah k1 (by decide)⟩,⟨c2,Ah k2 (by decide)⟩,?_⟩;have:Dw d1 d2=decide (ts=[]):=by
  rw[Dk,qH p1 p2 s1 s2,decide_eq_true_eq];refine⟨λe=>?_,λe=>by rw[e];rfl⟩;cases ts with
  | nil=>rfl
  | cons t ts=>cases e
 rw[this];exact h
theorem NO{B:Nat}:∀{l:List Nat},(∀x∈l,x<=B)->l.sum<=l.length*B
 | [],_=>Bf _
 | x::l,h=>by
  have h1:=h x Ai;have h2:=NO λy hy=>h y (Af _ hy);rw[Dy,Az,Im];lia
theorem NP{own:Str->Bool}{c:Nd->Nat}{t:Str}{ts:List Str}(h:own t=false):eZ own c (t::ts) 0=0:=if_neg (by rw[h];exact Av)
theorem NQ{own:Str->Bool}{c:Nd->Nat}{t:Str}{ts:List Str}{n:Nat}(h:own t=false):eZ own c (t::ts) (n+1)=eZ own c ts n:=if_neg (by rw[h];exact Av)
theorem AN{own:Str->Bool}{c:Nd->Nat}(hc:∀y,c y<=TT):∀{ts:List Str} {n:Nat},n<=4->eZ own c ts n<=10 ^ (1505*ts.length)
 | [],n,_=>by
  show(if n=0 then 1 else 0)<=1;split
  .exact Ag _
  .exact Bf _
 | t::ts,n,hn=>by
  cases ho:own t with
  | true=>
   rw[show eZ own c (t::ts) n=((Bp (n+1)).map λm=>c (t,m)*eZ own c ts (n-m)).sum from if_pos ho];have:=NO (B:=10 ^ 1500*10 ^ (1505*ts.length)) (l:=(Bp (n+1)).map λm=>c (t,m)*eZ own c ts (n-m)) λx hx=>by
    obtain⟨m,hm,rfl⟩:=Au.mp hx;exact Eu (hc _) (AN hc (by lia))
   rw[Aa,Cm]at this;have h5:n+1<=10 ^ 5:=Ah (Jy hn) (by decide);refine Ah this (Ah (Gy _ h5) ?_);rw[<-Jk,<-Jk,Az];exact Dq (by decide) (by lia)
  | false=>
   cases n with
   | zero=>rw[NP ho];exact Bf _
   | succ n=>rw[NQ ho];exact Ah (AN hc (by lia)) (Dq (by decide) (by rw[Az];lia))
theorem zfJ{t:Str}{ts:List Str}{M:Mm}{R:K3}(r:R (.bl (!decide (t∈ts))) M):rIn true (.str t) (.rl (ts.map W.str)) M R:=⟨rfl,IQ ts,by
 show R (.bl (!inW (.str t) (ts.map W.str))) M;rw[IP];exact r⟩
theorem zfK{ts:List Str}{t:Str}{M:Mm}{R:K3}(r:R (.tup (ts.map W.str)) M):oH (.tup ((t::ts).map W.str)) (some 1) none M R:=by
 refine⟨λ⟨h,_⟩=>?_,?_⟩
 .rw[show(some (1:Int))=some ((1:Nat):Int) from rfl,HT.sIx_nat]at h;simp at h
 .have:fX ((t::ts).map W.str) (some 1) none=ts.map W.str:=by
   rw[show(some (1:Int))=some ((1:Nat):Int) from rfl];unfold fX;rw[HT.sIx_none,HT.sIx_nat,Ay,Az,Fm (by lia),List.drop_succ_cons,List.drop_zero,Ld,Cb]
  rw[this];exact r
theorem NR{ts:List Str}{t:Str}{τ:S3}{M:Mm}{R:K3}(r:R (.tup (ts.map W.str)) M):nB τ M λu M3=>oH (.tup ((t::ts).map W.str)) (some 1) u M3 R:=by
 exact zfK r
theorem zfL{d:Nat}{ws:List W}{M:Mm}{R:K3}(h:pF (d+1) ws M R):zez (pF d) (bQ R) (bY MH ws) M:=by
 obtain⟨rs,ps,n,most,c,x,rfl,g,hl,hl3,hp,hn,hm,hc,cv,r⟩:=h;refine xI rfl ⟨Bf _,zfI (λt ht=>(hp t ht).1) (xI rfl (bW (λz=>?_) λz=>?_))⟩
 .have z:=of_decide_eq_true z;subst z;refine xI rfl ?_;show(bQ R).rt (.int (if decide ((n:Int)=0)=true then 1 else 0)) M;refine⟨_,Sub.refl _,?_⟩;have e:((if decide ((n:Int)=0)=true then 1 else 0:Int))=(eZ (a7 rs) c [] n:Nat):=by
   show _=((if n=0 then 1 else 0:Nat):Int)
   by_cases h0:n=0
   .rw[if_pos (decide_eq_true (by lia)),if_pos h0];rfl
   .rw[if_neg (λq=>h0 (by have:=of_decide_eq_true q;lia)),if_neg h0];rfl
  rw[e];exact r
 cases ps with
 | nil=>exact absurd rfl (of_decide_eq_false z)
 | cons t ps=>
  have hd:∃d',d=d'+1:=by
   cases d with
   | zero=>rw[Az]at hl;lia
   | succ d=>exact⟨d,rfl⟩
  obtain⟨d',rfl⟩:=hd;have hl':ps.length<=d':=by rw[Az]at hl;lia
  have hl3':ps.length<=3:=by rw[Az]at hl3;lia
  have hp':∀u∈ps,lE u/\(a7 rs u=true↔u∈N3):=λu hu=>hp u (Af _ hu);have at0':∀{M:Mm} {R:K3},R (.str t) M->L3.aX (.tup ((t::ps).map W.str)) (.int 0) M R:=λ{M R} h=>⟨_,kA (j:=0) rfl,h⟩
  have call:∀{m:Nat} {j:Int} {R2:K3},j=(m:Int)->m<=n->R2 (.int (eZ (a7 rs) c ps m)) M->pF (d'+1) [.tup (ps.map W.str),.int j,x] M R2:=λ{m j R2} ej hmn h=>by
   subst ej;exact⟨rs,ps,m,most,c,x,rfl,g,hl',hl3',hp',Ah hmn hn,hm,hc,cv,h⟩
  refine xI rfl (at0' ⟨z3,zfJ (ts:=N3) (xI rfl (bW (λz2=>?_) λz2=>?_))⟩)
  .have hno:a7 rs t=false:=by
    have:t∉N3:=of_decide_eq_false (by rw[<-Jr (decide _),z2];rfl);cases q:a7 rs t with
    | false=>rfl
    | true=>exact absurd ((hp t Ai).2.mp q) this
   refine xI rfl (xI rfl (bW (λz3=>?_) λz3=>?_))
   .have z3:=of_decide_eq_true z3;cases n with
    | zero=>rw[NP hno]at r;exact⟨_,Sub.refl _,r⟩
    | succ n=>exact absurd z3 (by lia)
   .have z3:=of_decide_eq_false z3;cases n with
    | zero=>exact absurd rfl z3
    | succ n=>rw[NQ hno]at r;exact xI rfl (xI rfl (NR (xI rfl (xI rfl (call (m:=n) (by lia) (by lia) ⟨_,Sub.refl _,r⟩)))))
  .have hin:t∈N3:=of_decide_eq_true (by rw[<-Jr (decide _),z2];rfl);have ho:a7 rs t=true:=(hp t Ai).2.mpr hin;have hX:t∈namesOf rs:=of_decide_eq_true ho;have e:eZ (a7 rs) c (t::ps) n=((Bp (n+1)).map λm=>c (t,m)*eZ (a7 rs) c ps (n-m)).sum:=if_pos ho;rw[e]at r;refine xI rfl (xI rfl ⟨by lia,by lia,?_⟩);refine d9 (λi τ M'=>∃o:Option W,τ=[some (.tup ((t::ps).map W.str)),some (.int (n:Nat)),some x,some (.int ((((Bp i).map λm=>c (t,m)*eZ (a7 rs) c ps (n-m)).sum:Nat):Int)),o]/\M'=M) ⟨_,rfl,rfl⟩ ?_ ?_
   .rintro i w τ M' hw ⟨o,rfl,rfl⟩ D hD;obtain⟨hi,rfl⟩:=nT hw;have hin':i<=n:=by lia
    rw[Iq];have es:((Bp (i+1)).map λm=>c (t,m)*eZ (a7 rs) c ps (n-m)).sum=((Bp i).map λm=>c (t,m)*eZ (a7 rs) c ps (n-m)).sum+c (t,i)*eZ (a7 rs) c ps (n-i):=by
     rw[Gs,Bk,List.sum_append];simp
    have ix:∀{R2:K3},R2 (.int (c (t,i))) M'->L3.aX x (.tup [.str t,.int (i:Int)]) M' R2:=λ{R2} h=>cv.ix hX (Ah hin' hn) rfl h;refine xI rfl (xI rfl ⟨.str t,kA (j:=0) rfl,xI rfl ⟨Rg.z2,ix (xI rfl (bW (λq=>?_) λq=>?_))⟩⟩)
    .refine xI rfl (xI rfl (xI rfl ⟨.str t,kA (j:=0) rfl,xI rfl ⟨Rg.z2,ix ?_⟩⟩));refine xI rfl (xI rfl (NR (xI rfl (xI rfl (xI rfl ⟨rs,ps,n-i,most,c,x,?_,g,hl',hl3',hp',by lia,hm,hc,cv,?_⟩)))))
     .show [W.tup (ps.map W.str),W.int ((n:Int)-(i:Int)),x]=_;rw[show(n:Int)-(i:Int)=((n-i:Nat):Int) by lia]
     refine⟨⟨pG (nR (hc _) (by decide)),pG (nR (AN hc (by lia)) (by lia))⟩,hD _ _ ⟨some (.int (i:Nat)),?_,rfl⟩⟩;rw[es];show [_,_,_,_,_]=[_,_,_,_,_];congr 4
    .have q:=of_decide_eq_false q;refine hD _ _ ⟨some (.int (i:Nat)),?_,rfl⟩;have:c (t,i)=0:=by lia
     rw[es,this,Js,Nat.add_zero];rfl
   .rintro τ M' ⟨o,rfl,rfl⟩;have el:(eV 0 ((n:Int)+1).toNat).length=n+1:=by unfold eV;rw[Aa,Cm];lia
    rw[el];exact xI rfl ⟨_,Sub.refl _,r⟩
theorem zfM{t:Str}(h:t∈N3):t∈f6:=by
 have:∀t∈N3,t∈f6:=by unfold N3 f6;decide +kernel
 exact this t h
theorem part_ok{rs:List aP}(g:fG rs){r:aP}(hr:r∈rs):∀t∈r.parts,lE t/\(a7 rs t=true↔t∈N3):=λt ht=>⟨y6 (g.g.pt r hr t ht),λh=>by
  obtain⟨q,hq,e⟩:=jC.mp (of_decide_eq_true h);rw[<-e];exact g.nm q hq,λh=>by
  rw[g.g.ow r hr t ht];exact decide_eq_true (zfM h)⟩
theorem zfN{rs:List aP}{c:Nd->Nat}{X:Str}{m:Nat}:((rs.filter λr=>decide (r.name=X)).map λr=>eZ (a7 rs) c r.parts m).sum=sm c (PR rs (X,m)):=by
 unfold PR;rw[KA];congr 1;exact Cy λr _=>zK
theorem zfO{a b:Nat}{M:Mm}{R:K3}(r:R (.int (min a b:Nat)) M):sN [.int (a:Nat),.int (b:Nat)] M R:=by
 show R (.int (if (b:Int)<(a:Int) then(b:Int) else(a:Int))) M;have:(if (b:Int)<(a:Int) then(b:Int) else(a:Int))=(min a b:Nat):=by split<;>lia
 rw[this];exact r
theorem zfP{ws:List W}{M:Mm}{R:K3}(h:z9 ws M R):zeF (bQ R) (bY zeA ws) M:=by
 obtain⟨rs,hs,most,c,x,T,rfl,g,hsn,hsm,hm,hc,cv,r⟩:=h;have h3:hs.length<=3:=Ah (len_sub hsn λX hX=>(hsm X).mp hX) (nP g);have hf:=g.few;obtain⟨val,hval⟩:∃val:Str->Nat->Nat,∀X m,val X m=min (sm c (PR rs (X,m))) T:=⟨_,λ_ _=>rfl⟩;refine λp hp=>xI rfl (fU ?_);have cvp:∀{Y:MO},CV rs most c x (put M p Y):=λ{Y}=>cv.up (Sub.new hp);refine d9 (λi τ M'=>∃(kvs:List (List aC×W)) (o:Option W×Option W×Option W×Option W×Option W×Option W),τ=[some (bL rs),some (.rl (hs.map W.str)),some (.int (most:Nat)),some x,some (.int (T:Nat)),some (.ref p),o.1,o.2.1,o.2.2.1,o.2.2.2.1,o.2.2.2.2.1,o.2.2.2.2.2]/\M'=put M p (.dT kvs)/\(∀X∈hs.take i,∀m,m<=most->aV kvs (eK (X,(m:Int)))=some (.int (val X m:Nat)))/\kvs.length<=5*i) ⟨[],(_,_,_,_,_,_),rfl,rfl,(λ_ h=>nomatch h),Bf _⟩ ?_ ?_
 .rintro i w τ M' hw ⟨kvs,o,rfl,rfl,hk,hl⟩ D hD;rw[Ax]at hw;obtain⟨X,hX,rfl⟩:=Bb.mp hw;have hi:=(Ak.mp hX).1;have tkh:hs.take (i+1)=hs.take i++[X]:=gE hX;have hXn:X∉hs.take i:=λhm=>by
   have nd2:=hsn;rw[<-Gi (i+1) hs,tkh]at nd2;exact(Ck.mp (Ck.mp nd2).1).2.2 X hm X (Fe _) rfl
  refine xI rfl (xI rfl ⟨by lia,by lia,?_⟩);refine d9 (λj τ M'=>∃(kvs:List (List aC×W)) (o:Option W×Option W×Option W×Option W×Option W),τ=[some (bL rs),some (.rl (hs.map W.str)),some (.int (most:Nat)),some x,some (.int (T:Nat)),some (.ref p),some (.str X),o.1,o.2.1,o.2.2.1,o.2.2.2.1,o.2.2.2.2]/\M'=put M p (.dT kvs)/\(∀Y∈hs.take i,∀m,m<=most->aV kvs (eK (Y,(m:Int)))=some (.int (val Y m:Nat)))/\(∀m,m<j->aV kvs (eK (X,(m:Int)))=some (.int (val X m:Nat)))/\kvs.length<=5*i+j) ⟨kvs,(_,_,_,_,_),rfl,rfl,hk,(λm h=>nomatch h),hl⟩ ?_ ?_
  .rintro m w τ M' hw ⟨kvs,o,rfl,rfl,hk,hk2,hl⟩ D1 hD1;obtain⟨hm',rfl⟩:=nT hw;have hmm:m<=most:=by lia
   rw[Iq];refine xI rfl ?_;refine d9 (ws:=rs.map eX) (λk τ M'=>∃(o:Option W×Option W×Option W),τ=[some (bL rs),some (.rl (hs.map W.str)),some (.int (most:Nat)),some x,some (.int (T:Nat)),some (.ref p),some (.str X),some (.int (m:Nat)),some (.int ((((rs.take k).filter λr=>decide (r.name=X)).map λr=>eZ (a7 rs) c r.parts m).sum:Nat)),o.1,o.2.1,o.2.2]/\M'=put M p (.dT kvs)) ⟨(_,_,_),rfl,rfl⟩ ?_ ?_
   .rintro k w τ M' hw ⟨o,rfl,rfl⟩ D2 hD2;rw[Ax]at hw;obtain⟨ru,hr,rfl⟩:=Bb.mp hw;have hrm:=Bl hr;have tkr:rs.take (k+1)=rs.take k++[ru]:=gE hr;refine⟨rfl,rfl,xI rfl (xI rfl (xI rfl (bW (λz=>?_) λz=>?_)))⟩
    .have z:=of_decide_eq_true z;refine xI rfl (xI rfl (xI rfl (xI rfl ⟨rs,ru.parts,m,most,c,x,rfl,g,Ah (g.g.fp ru hrm) (by decide),g.g.fp ru hrm,part_ok g hrm,hmm,hm,hc,cvp,hD2 _ _ ⟨(some (.str ru.name),some (.tup (ru.parts.map W.str)),some (.int ru.cost)),?_,rfl⟩⟩)));rw[tkr,Fb,Bx,if_pos (decide_eq_true z),Bk,List.sum_append];rw[show((Ja (λr=>eZ (a7 rs) c r.parts m) (ru::List.filter (λr=>decide (r.name=X)) [])).sum)=eZ (a7 rs) c ru.parts m from Nat.add_zero _,Jf];rfl
    .have z:=of_decide_eq_false z;refine hD2 _ _ ⟨(some (.str ru.name),some (.tup (ru.parts.map W.str)),some (.int ru.cost)),?_,rfl⟩;rw[tkr,Fb,Bx,if_neg (λq=>z (of_decide_eq_true q)),Jd,Cf];rfl
   .rintro τ M' ⟨o,rfl,rfl⟩;rw[Aa,Cb,zfN];refine xI rfl (xI rfl ?_);show sN [W.int ((sm c (PR rs (X,m)):Nat):Int),W.int ((T:Nat):Int)] (put M p (.dT kvs)) λx_2 M1=>hZ (aA 5) (bP (aB (aA 6) (aB (aA 7) aE))) x_2 _ M1 D1.nx;refine zfO ?_;rw[<-hval];refine xI rfl (xI rfl (xI rfl ⟨z2,oJ (k:=eK (X,(m:Int))) aS (dW (by lia)) ?_⟩));rw[gK];refine hD1 _ _ ⟨bS kvs (eK (X,(m:Int))) (.int (val X m:Nat)),(_,_,_,_,_),rfl,rfl,λY hY m' hm'=>?_,λm' hm'=>?_,Ah (mD kvs _ _) (by lia)⟩
    .rw[mM,if_neg (λe=>hXn (by have:=qW _ _ e;cases this;exact hY))];exact hk Y hY m' hm'
    .rw[mM]
     by_cases e:m=m'
     .rw[if_pos (by rw[e]),e]
     .rw[if_neg (λq=>e (by have:=congrArg Gu (qW _ _ q);have this:(m:Int)=m':=this;lia))];exact hk2 m' (by lia)
  .rintro τ M' ⟨kvs,o,rfl,rfl,hk,hk2,hl⟩;have el:(eV 0 ((most:Int)+1).toNat).length=most+1:=by unfold eV;rw[Aa,Cm];lia
   rw[el]at hk2 hl;refine hD _ _ ⟨kvs,(_,_,_,_,_,_),rfl,rfl,λY hY m' hm'=>?_,by lia⟩;rw[tkh]at hY;rcases Aw.mp hY with hY|hY
   .exact hk Y hY m' hm'
   .rw[An.mp hY];exact hk2 m' (by lia)
 .rintro τ M' ⟨kvs,o,rfl,rfl,hk,hl⟩;rw[Aa,Cb]at hk;refine xI rfl ⟨_,Sub.refl _,r p _ hp (Sub.new hp) ⟨kvs,.inr ⟨p,rfl,aS⟩,λX hX m' hm'=>?_⟩⟩;rw[hk X ((hsm X).mpr hX) m' hm',hval]
theorem zfQ{rs:List aP}(g:oY rs):Pl 3 (bL rs):=λx hx=>by
 obtain⟨q,hq,rfl⟩:=Au.mp hx;intro y hy;rcases Bj.mp hy with rfl|hy
 .exact y6 (.inl (g.nm q hq))
 rcases Bj.mp hy with rfl|hy
 .intro z hz;obtain⟨t,ht,rfl⟩:=Au.mp hz;exact y6 (g.pt q hq t ht)
 .rw[An.mp hy];trivial
theorem zfR{a b:Nat}{x y:Int}(ex:x=a)(ey:y=b)(ha:a.log2<100000)(hb:b.log2<100000){M:Mm}{R:K3}(r:R (.int (a*b:Nat)) M):rJ (.int x) (.int y) M R:=by
 subst ex ey;exact⟨⟨pG ha,pG hb⟩,by rw[<-Int.natCast_mul];exact r⟩
def fN(l:List Str):W->Option W
 | .str X=>if X∈l then some (.str X) else none
 | _=>none
theorem zfS(l ts:List Str):(ts.map W.str).filterMap (fN l)=(ts.filter λX=>decide (X∈l)).map W.str:=NK l ts
theorem NS{T:Nat}{P:Nd->List (List Nd)}:∀k y,ck T P k y<=T
 | 0,_=>Bf _
 | _+1,_=>Nat.min_le_right _ _
theorem zfT{C:Cc}{ws:List W}{M:Mm}{R:K3}(h:zc8 ws M R):zeP C (bQ R) (bY zeG ws) M:=by
 obtain⟨zs,rfl,hz,_,r⟩:=h;refine xI rfl ⟨zs,rfl,hz,λrs g=>aZ.frz ?_⟩;have hf:=g.few;have h3:=nP g;obtain⟨hs,hhs⟩:∃hs:List Str,hs=N3.filter λX=>decide (X∈rs.map (·.name)):=⟨_,rfl⟩;have hsm:∀X,X∈hs↔X∈namesOf rs:=λX=>by
  rw[hhs,Dh,decide_eq_true_eq,Au,jC];exact⟨λh=>h.2,λ⟨q,hq,e⟩=>⟨by rw[<-e];exact g.nm q hq,q,hq,e⟩⟩
 have hsn:hs.Nodup:=by
  have n3:N3.Nodup:=by unfold N3;decide +kernel
  rw[hhs];exact n3.filter _
 have hsl:hs.length=(namesOf rs).length:=Nat.le_antisymm (len_sub hsn λX hX=>(hsm X).mp hX) (len_sub (lK rs) λX hX=>(hsm X).mpr hX);refine⟨z3,fU (ws:=N3.map W.str) (GW (rest:=[some (bL rs)]) (fN (rs.map (·.name))) (small (by decide)) (λ_ _=>trivial) (λv hv M' C2 D2 sb h1 h2=>?_) (aZ.frz ?_))⟩
 .obtain⟨X,hX,rfl⟩:=Au.mp hv;refine xI rfl (xI rfl (fU (jZ (rest:=[]) (λw=>match w with|.tup (a::_)=>a|w=>w) (small (by rw[Aa];lia)) (λ_ _=>trivial) (λu hu M3 C3 sb3 g1=>?_) (aZ.frz ?_))))
  .obtain⟨q,hq,rfl⟩:=Au.mp hu;exact xI rfl (xI rfl g1)
  .have e:((rs.map eX).map λw=>match w with|.tup (a::_)=>a|w=>w)=(rs.map (·.name)).map W.str:=by rw[Bd,Bd];rfl
   rw[e];refine⟨rfl,IQ _,xI rfl ?_⟩;show if inW (.str X) ((rs.map (·.name)).map W.str)=true then _ else _;rw[IP];exact bW (λz=>xI rfl (h1 _ (if_pos (of_decide_eq_true z)))) λz=>h2 (if_neg (of_decide_eq_false z))
 rw[zfS,<-hhs];refine xI rfl ⟨zs,0,rfl,hz,Ig 0,λc=>?_⟩;obtain⟨mo,hmo⟩:∃mo:Nat,c/30 % 5=(mo:Int):=Hf (Fw _ (by decide));have hm4:mo<=4:=by
  have:=Fu (c/30) (show(0:Int)<5 by decide);lia
 refine⟨⟨by decide,by decide⟩,show(0:Int)<5 by decide,?_⟩;show(aM (MI C) _) (bQ R) [some (.sc (zs.map W.int)),some (bL rs),some (.rl (hs.map W.str)),some (.int (c/30 % 5)),none,none,none,none,none,none,none,none,none] M;rw[hmo];refine xI rfl (xI rfl ⟨.inl (.inl ⟨by lia,by rw[Aa];lia⟩),?_⟩);obtain⟨dp,hdp⟩:∃dp:Nat,dp=(namesOf rs).length*(mo+1)+1:=⟨_,rfl⟩;have edp:((hs.map W.str).length:Int)*((mo:Int)+1)+1=(dp:Nat):=by
  rw[hdp,Aa,hsl,Jf,Int.natCast_mul,Jf];rfl
 have hdl:dp<=16:=by
  rw[hdp];have:=Eu h3 (show mo+1<=5 by lia);lia
 show(aM (MJ C) (aM (MK C) (aM (ML C) (aM (MM C) (aM (MN C) (aM (MP C) (aM (MQ C) (aM (MR C) (aM (MS C) (MT C)))))))))) (bQ R) [some (.sc (zs.map W.int)),some (bL rs),some (.rl (hs.map W.str)),some (.int (mo:Nat)),some (.int (((hs.map W.str).length:Int)*((mo:Int)+1)+1)),none,none,none,none,none,none,none,none] M;rw[edp];refine⟨_,rfl,by decide,by decide,?_⟩;refine d9 (λi τ M'=>∃o:Option W,τ=[some (.sc (zs.map W.int)),some (bL rs),some (.rl (hs.map W.str)),some (.int (mo:Nat)),some (.int (dp:Nat)),some (.int ((10 ^ (60*i):Nat):Int)),o,none,none,none,none,none,none]/\M'=M) ⟨_,rfl,rfl⟩ ?_ ?_
 .rintro i w τ M' hw ⟨o,rfl,rfl⟩ D hD;obtain⟨hi,rfl⟩:=nT hw;have hi:i<25:=hi;refine xI rfl ⟨⟨by decide,by decide,by decide⟩,zfR (a:=10 ^ (60*i)) (b:=10 ^ 60) rfl (by decide) (nR (Ag _) (by lia)) (nR (Ag _) (by decide)) (hD _ _ ⟨some (.int (0+(i:Nat))),?_,rfl⟩)⟩;rw[<-Jk,show 60*i+60=60*(i+1) by lia];rfl
 rintro τ M' ⟨o6,rfl,rfl⟩;have e25:((10 ^ (60*(eV 0 (25:Int).toNat).length):Nat):Int)=(TT:Nat):=by
  have:(eV 0 (25:Int).toNat).length=25:=by unfold eV;rw[Aa,Cm];rfl
  rw[this];rfl
 rw[e25];refine λq hq=>xI rfl (fU ?_);have fr:∀{Y:MO},True:=λ{Y}=>trivial;refine d9 (λi τ M2=>∃(kvs:List (List aC×W)) (o:Option W×Option W),τ=[some (.sc (zs.map W.int)),some (bL rs),some (.rl (hs.map W.str)),some (.int (mo:Nat)),some (.int (dp:Nat)),some (.int (TT:Nat)),o6,some (.ref q),o.1,o.2,none,none,none]/\M2=put M' q (.dT kvs)/\(∀X∈hs.take i,∀m,m<=mo->aV kvs (eK (X,(m:Int)))=some (.int 0))/\kvs.length<=5*i) ⟨[],(_,_),rfl,rfl,(λ_ h=>nomatch h),Bf _⟩ ?_ ?_
 .rintro i w τ M2 hw ⟨kvs,o,rfl,rfl,hk,hl⟩ D hD;rw[Ax]at hw;obtain⟨X,hX,rfl⟩:=Bb.mp hw;have hi:=(Ak.mp hX).1;have tkh:hs.take (i+1)=hs.take i++[X]:=gE hX;refine xI rfl (xI rfl ⟨by lia,by lia,?_⟩);refine d9 (λj τ M2=>∃(kvs:List (List aC×W)) (o:Option W),τ=[some (.sc (zs.map W.int)),some (bL rs),some (.rl (hs.map W.str)),some (.int (mo:Nat)),some (.int (dp:Nat)),some (.int (TT:Nat)),o6,some (.ref q),some (.str X),o,none,none,none]/\M2=put M' q (.dT kvs)/\(∀Y∈hs.take i,∀m,m<=mo->aV kvs (eK (Y,(m:Int)))=some (.int 0))/\(∀m,m<j->aV kvs (eK (X,(m:Int)))=some (.int 0))/\kvs.length<=5*i+j) ⟨kvs,_,rfl,rfl,hk,(λm h=>nomatch h),hl⟩ ?_ ?_
  .rintro m w τ M2 hw ⟨kvs,o,rfl,rfl,hk,hk2,hl⟩ D1 hD1;obtain⟨hm',rfl⟩:=nT hw;rw[Iq];refine xI rfl (xI rfl (xI rfl ⟨z2,oJ (k:=eK (X,(m:Int))) aS (dW (by lia)) ?_⟩));rw[gK];refine hD1 _ _ ⟨bS kvs (eK (X,(m:Int))) (.int 0),_,rfl,rfl,λY hY m2 hm2=>?_,λm2 hm2=>?_,Ah (mD kvs _ _) (by lia)⟩
   .rw[mM];split
    .rfl
    .exact hk Y hY m2 hm2
   .rw[mM]
    by_cases e:m=m2
    .rw[if_pos (by rw[e])]
    .rw[if_neg (λq=>e (by have:=congrArg Gu (qW _ _ q);have this:(m:Int)=m2:=this;lia))];exact hk2 m2 (by lia)
  .rintro τ M2 ⟨kvs,o,rfl,rfl,hk,hk2,hl⟩;have el:(eV 0 ((mo:Int)+1).toNat).length=mo+1:=by unfold eV;rw[Aa,Cm];lia
   rw[el]at hk2 hl;refine hD _ _ ⟨kvs,(_,_),rfl,rfl,λY hY m2 hm2=>?_,by lia⟩;rw[tkh]at hY;rcases Aw.mp hY with hY|hY
   .exact hk Y hY m2 hm2
   .rw[An.mp hY];exact hk2 m2 (by lia)
 rintro τ M2 ⟨kvs,o2,rfl,rfl,hk,hl⟩;rw[Aa,Cb]at hk;have cv0:CV rs mo (ck TT (PR rs) 0) (.ref q) (put M' q (.dT kvs)):=⟨kvs,.inr ⟨q,rfl,aS⟩,λX hX m hm=>hk X ((hsm X).mpr hX) m hm⟩;obtain⟨M3,hM3⟩:∃M3,M3=put M' q (.dT kvs):=⟨_,rfl⟩;rw[<-hM3]at cv0⊢;have eld:(eV 0 ((dp:Nat):Int).toNat).length=dp:=by unfold eV;rw[Aa,Cm];rfl
 refine xI rfl ⟨_,rfl,by lia,by lia,?_⟩;refine d9 (λi τ M4=>∃(x:W) (o:Option W),τ=[some (.sc (zs.map W.int)),some (bL rs),some (.rl (hs.map W.str)),some (.int (mo:Nat)),some (.int (dp:Nat)),some (.int (TT:Nat)),o,some x,o2.1,o2.2,none,none,none]/\CV rs mo (ck TT (PR rs) i) x M4) ⟨.ref q,_,rfl,cv0⟩ ?_ ?_
 .rintro i w τ M4 hw ⟨x,o,rfl,cv⟩ D hD;exact xI rfl (xI rfl (xI rfl (xI rfl (xI rfl ⟨rs,hs,mo,ck TT (PR rs) i,x,TT,rfl,g,hsn,hsm,hm4,NS i,cv,λp M5 hp sb cv5=>hD _ _ ⟨.ref p,_,rfl,cv5⟩⟩))))
 rintro τ M4 ⟨x,o7,rfl,cv⟩;rw[eld]at cv;refine xI rfl (xI rfl ⟨_,rfl,by lia,by lia,?_⟩);refine d9 (λi τ M5=>∃(y:W) (o:Option W),τ=[some (.sc (zs.map W.int)),some (bL rs),some (.rl (hs.map W.str)),some (.int (mo:Nat)),some (.int (dp:Nat)),some (.int (TT:Nat)),o,some x,o2.1,o2.2,some y,none,none]/\CV rs mo (ck TT (PR rs) dp) x M5/\CV rs mo (ck TT (PR rs) (dp+i)) y M5) ⟨x,_,rfl,cv,cv⟩ ?_ ?_
 .rintro i w τ M5 hw ⟨y,o,rfl,cv5,cvy⟩ D hD;exact xI rfl (xI rfl (xI rfl (xI rfl (xI rfl ⟨rs,hs,mo,ck TT (PR rs) (dp+i),y,TT,rfl,g,hsn,hsm,hm4,NS _,cvy,λp M6 hp sb cv6=>.inr (.inr (.inr (hD _ _ ⟨.ref p,_,rfl,cv5.up sb,cv6⟩)))⟩))))
 rintro τ M5 ⟨y,o8,rfl,cvx,cvy⟩;rw[eld]at cvy;refine xI rfl (xI rfl (fU ?_));refine d9 (λi τ M6=>∃(o:Option W×Option W),τ=[some (.sc (zs.map W.int)),some (bL rs),some (.rl (hs.map W.str)),some (.int (mo:Nat)),some (.int (dp:Nat)),some (.int (TT:Nat)),o8,some x,o.1,o2.2,some y,some (bL rs),o.2]/\M6=M5) ⟨(o2.1,none),rfl,rfl⟩ ?_ ?_
 .rintro i w τ M6 hw ⟨o,rfl,rfl⟩ D hD;rw[Ax]at hw;obtain⟨X,hX,rfl⟩:=Bb.mp hw;have hXm:=(hsm X).mp (Bl hX);obtain⟨t1,t2⟩:=zcl g hm4 hXm hdp;have ixy:∀{R2:K3},R2 (.int (ck TT (PR rs) (dp+dp) (X,mo):Nat)) M6->L3.aX y (.tup [.str X,.int (mo:Int)]) M6 R2:=λ{R2} h=>cvy.ix hXm (Ag _) rfl h;have ixx:∀{R2:K3},R2 (.int (ck TT (PR rs) dp (X,mo):Nat)) M6->L3.aX x (.tup [.str X,.int (mo:Int)]) M6 R2:=λ{R2} h=>cvx.ix hXm (Ag _) rfl h;have fin:∀o:Option W×Option W,D.nx [some (.sc (zs.map W.int)),some (bL rs),some (.rl (hs.map W.str)),some (.int (mo:Nat)),some (.int (dp:Nat)),some (.int (TT:Nat)),o8,some x,o.1,o2.2,some y,some (bL rs),o.2] M6:=λo=>hD _ _ ⟨o,rfl,rfl⟩;refine xI rfl (xI rfl (xI rfl ⟨rs,X,mo,rfl,g,hXm,hm4,?_⟩));cases hlim:cM (PR rs) (X,mo) with
  | none=>
   have t1:=t1 hlim;have last:dR (b5 (aF (nA true) (aA 12) (vC .non))) (cL (vC (.bl false))) eU D [some (.sc (zs.map W.int)),some (bL rs),some (.rl (hs.map W.str)),some (.int (mo:Nat)),some (.int (dp:Nat)),some (.int (TT:Nat)),o8,some x,some (.str X),o2.2,some y,some (bL rs),some .non] M6:=xI rfl (xI rfl (bW (λh=>nomatch (show false=true from h)) λ_=>fin (_,_)));refine xI rfl (xI rfl (xI rfl ⟨z2,ixy (xI rfl (xI rfl (xI rfl ⟨z2,ixx (xI rfl (bW (λ_=>last) λq=>?_))⟩)))⟩));refine xI rfl (xI rfl (xI rfl ⟨z2,ixx (xI rfl (xI rfl (bW (λ_=>last) λq2=>?_)))⟩));exfalso;have q:ck TT (PR rs) (dp+dp) (X,mo)=ck TT (PR rs) dp (X,mo):=by
    have q:(!decide (((ck TT (PR rs) (dp+dp) (X,mo):Nat):Int)=(ck TT (PR rs) dp (X,mo):Nat)))=false:=q;have:=of_decide_eq_true (show decide (((ck TT (PR rs) (dp+dp) (X,mo):Nat):Int)=(ck TT (PR rs) dp (X,mo):Nat))=true by rw[<-Jr (decide _),q];rfl);exact Int.ofNat.inj this
   have q2:ck TT (PR rs) dp (X,mo)≠TT:=λe=>of_decide_eq_false q2 (by rw[e]);rcases t1 with t|t
   .exact t q
   .exact q2 t
  | some a=>
   obtain⟨u1,u2,u3⟩:=t2 a hlim;refine xI rfl (xI rfl (xI rfl ⟨z2,ixy (xI rfl (xI rfl (xI rfl ⟨z2,ixx (xI rfl (bW (λq=>?_) λ_=>?_))⟩)))⟩))
   .exfalso;have q:(!decide (((ck TT (PR rs) (dp+dp) (X,mo):Nat):Int)=(ck TT (PR rs) dp (X,mo):Nat)))=true:=q;rw[u1,decide_eq_true rfl]at q;cases q
   refine xI rfl (xI rfl (xI rfl ⟨z2,ixx (xI rfl (xI rfl (bW (λq=>?_) λ_=>?_)))⟩))
   .exact absurd (Int.ofNat.inj (of_decide_eq_true q)) u2
   refine xI rfl (KQ ⟨"int",true,rfl,by decide,xI rfl (KQ ⟨"int",false,rfl,by decide,?_⟩)⟩);refine xI rfl (xI rfl (xI rfl (xI rfl ⟨z2,ixx (xI rfl (bW (λq=>?_) λ_=>fin (_,_)))⟩)));have q:(!decide (((a:Nat):Int)=(ck TT (PR rs) dp (X,mo):Nat)))=true:=q;rw[u3,decide_eq_true rfl]at q;cases q
 .rintro τ M6 ⟨o,rfl,rfl⟩;exact xI rfl (xI rfl (W5 (neg:=false) 3 (by decide) (zfQ g.g) rfl ⟨_,Sub.refl _,r _⟩))
end M74
namespace M74
open PySem Spec PyProof.Rows L2 L3 Rg
structure Tx(mg:Str->Option Ae):Prop where
 all_:mg "all" = none
 any_:mg "any" = none
 bool_:mg "bool" = none
 dict_:mg "dict" = none
 enumerate_:mg "enumerate" = none
 int_:mg "int" = none
 isinstance_:mg "isinstance" = none
 len_:mg "len" = none
 list_:mg "list" = none
 min_:mg "min" = none
 range_:mg "range" = none
 sorted_:mg "sorted" = none
 sum_:mg "sum" = none
 tuple_:mg "tuple" = none
structure Kc(K:Ab)(mg:Str->Option Ae)(C:Cc):Prop where
 cls_Queue:gH K C.q
 at__Queue:mg "Queue" = some (.ref C.q)
 cls_Search:gH K C.s
 at__Search:mg "Search" = some (.ref C.s)
 cls_Lengths:gH K C.f
 at__Lengths:mg "Lengths" = some (.ref C.f)
 na_costs:eQ K C.q "costs"
 na_waiting:eQ K C.q "waiting"
 na_Search_grammar:eQ K C.s "grammar"
 na_Lengths_grammar:eQ K C.f "grammar"
 na_own:eQ K C.s "own"
 na_steps:eQ K C.s "steps"
 na_queue:eQ K C.s "queue"
 na_reached:eQ K C.s "reached"
 na_best:eQ K C.s "best"
 na_ends:eQ K C.s "ends"
 na_begun:eQ K C.s "begun"
 na_links:eQ K C.f "links"
 na_numbers:eQ K C.f "numbers"
 na_sizes:eQ K C.f "sizes"
 na_tails:eQ K C.f "tails"
structure Al(K:Ab)(mg:Str->Option Ae)(C:Cc)(fa:Nat->Addr)(fb:Nat->Bv):Prop extends Tx mg,Kc K mg C where
 x0:Df K mg "names" AY ["grammar"] (fa 0) (fb 0)
 x1:Df K mg "rules_of" AZ ["grammar","name"] (fa 1) (fb 1)
 x2:Df K mg "marks" A5 ["things"] (fa 2) (fb 2)
 x3:Df K mg "places_of" A6 ["row"] (fa 3) (fb 3)
 x4:Df K mg "row_steps" A7 ["row"] (fa 4) (fb 4)
 x5:Di K C.q "__init__" "Queue.__init__" A8 ["self"] (fa 5) (fb 5)
 x6:Dm K C.q "is_done" "Queue.is_done" A9 ["self"] (fa 6) (fb 6)
 x7:Dm K C.q "place_of" "Queue.place_of" BB ["self","cost"] (fa 7) (fb 7)
 x8:Dm K C.q "put" "Queue.put" BA ["self","cost","thing"] (fa 8) (fb 8)
 x9:Dm K C.q "take" "Queue.take" BC ["self"] (fa 9) (fb 9)
 x10:Df K mg "added" BD ["cost","other"] (fa 10) (fb 10)
 x11:Di K C.s "__init__" "Search.__init__" BE ["self","grammar","steps"] (fa 11) (fb 11)
 x12:Dm K C.s "reach" "Search.reach" BF ["self","number","cut","cost"] (fa 12) (fb 12)
 x13:Dm K C.s "settle" "Search.settle" BI ["self","number","cut","cost"] (fa 13) (fb 13)
 x14:Dm K C.s "step_by_name" "Search.step_by_name" BH ["self","number","cut","cost","key"] (fa 14) (fb 14)
 x15:Dm K C.s "take_next" "Search.take_next" BG ["self"] (fa 15) (fb 15)
 x16:Df K mg "least_trees" BJ ["grammar","places","steps","weights"] (fa 16) (fb 16)
 x17:Df K mg "row_trees" BK ["grammar","row","weights"] (fa 17) (fb 17)
 x18:Df K mg "no_weights" BL ["grammar"] (fa 18) (fb 18)
 x19:Df K mg "facts" BM ["grammar","row"] (fa 19) (fb 19)
 x20:Df K mg "words_of" BN ["grammar"] (fa 20) (fb 20)
 x21:Df K mg "ringless" BO ["links"] (fa 21) (fb 21)
 x22:Df K mg "times" BP ["count","other"] (fa 22) (fb 22)
 x23:Df K mg "total" BQ ["counts"] (fa 23) (fb 23)
 x24:Df K mg "whole_links" BR ["grammar"] (fa 24) (fb 24)
 x25:Di K C.f "__init__" "Lengths.__init__" BS ["self","grammar"] (fa 25) (fb 25)
 x26:Dm K C.f "fill_rule" "Lengths.fill_rule" BU ["self","number","length"] (fa 26) (fb 26)
 x27:Dm K C.f "count_by_rules" "Lengths.count_by_rules" BV ["self","name","length"] (fa 27) (fb 27)
 x28:Dm K C.f "held_at" "Lengths.held_at" BW ["self","length"] (fa 28) (fb 28)
 x29:Dm K C.f "add_length" "Lengths.add_length" BX ["self","length"] (fa 29) (fb 29)
 x30:Df K mg "lengths_to" BY ["grammar","most"] (fa 30) (fb 30)
 x31:Df K mg "tree_count" BZ ["grammar","name","length"] (fa 31) (fb 31)
 x32:Df K mg "_law_cell_at" B1 ["script","k"] (fa 32) (fb 32)
 x33:Df K mg "_law_parts" B2 ["d","heads"] (fa 33) (fb 33)
 x34:Df K mg "_law_grammar" B3 ["script"] (fa 34) (fb 34)
 x35:Df K mg "_law_laid" B4 ["parts","length","counts"] (fa 35) (fb 35)
 x36:Df K mg "_law_deeper" B5 ["rules","heads","most","counts","most_told"] (fa 36) (fb 36)
 x37:Df K mg "law" B6 ["script"] (fa 37) (fb 37)
section
variable {P:Ca}{w:Ct}{K:Ab}{mg:Str->Option Ae}{base:Heap}{C:Cc}{fa:Nat->Addr}{fb:Nat->Bv}(Y:Al K mg C fa fb)
seal L2.PE L2.PA L2.PS L2.gB L2.PT L2.PG L2.PI L2.PO
def AQ:=cH P w mg base 0 Y.x0.fn Y.x0.bi cB Z5 λhr hu nd=>(aR (bG (i:=1) nd xB)
   (aR (dC Bn rfl (fA (v 0)) (cA (i:=2) nd)
    (aT (jW k7 (w_sub hu (v 1) (bA hu (v 2) aN)))))
   (aT (cS (iK (F8 rfl) (by rfl) Y.list_ xM (aD (v 1) aG))))))
def zfU:=cH P w mg base 0 Y.x1.fn Y.x1.bi cB zeU λhr hu nd=>(aT (cS (gD ["number","rule","name"] [none,none,some 1] (G6 (by rfl) Y.enumerate_ (aD (v 0) aG)) (λB=>(lC rfl (fR (fM (i:=0)) (fR (fM (i:=1)) lB)))) (λB=>(sS (cG (iW hr.units) (bA hu (v 1) aN) (v 2)))) (λB=>(v 0)))))
def NT:=cH P w mg base 0 Y.x2.fn Y.x2.bi cB zaR λhr hu nd=>(aT (cS (iK (yC rfl) (by rfl) Y.dict_ lD (aD (c8 (gD ["thing"] [none] (fA (v 0)) (λB=>(fM (i:=0))) (λB=>h9) (λB=>(bX (aD (v 0) (aD k7 aG)))))) aG))))
def AR:=cH P w mg base 0 Y.x2.fn Y.x2.bi cB zeR λhr hu nd=>(aT (cS (iK (qQ rfl) (by rfl) Y.dict_ lD (aD (c8 (gD ["thing"] [none] (fA (v 0)) (λB=>(fM (i:=0))) (λB=>h9) (λB=>(bX (aD (v 0) (aD k7 aG)))))) aG))))
def zfV:=cH P w mg base 0 Y.x3.fn Y.x3.bi cB zbV λhr hu nd=>(aT (cS (zbh (by rfl) Y.list_ (by rfl) Y.range_ (bE dU (cY eF (by rfl) Y.len_ eJ (aD (v 0) aG)) aN))))
def zfW:=cH P w mg base 0 Y.x4.fn Y.x4.bi cB zbY λhr hu nd=>(aT (cS (iK (zbb rfl (YX hr)) (by rfl) Y.dict_ lD (aD (c8 (gD ["place","word"] [none,none] (G6 (by rfl) Y.enumerate_ (aD (v 0) aG)) (λB=>(lC rfl (fR (fM (i:=0)) (fR (fM (i:=1)) lB)))) (λB=>h9) (λB=>(bX (aD (bX (aD (v 1) (aD (v 0) aG))) (aD (jY (aD (bX (aD (bE dU (v 0) aN) (aD aN aG))) aG)) aG)))))) aG))))
def zfX:=cH P w mg base 0 Y.x5.fn Y.x5.bi cB ZU λhr hu nd=>(aR (iB Y.cls_Queue Y.na_costs (v 0) (jP aG))
   (aT (iB Y.cls_Queue Y.na_waiting (v 0) lY)))
def zfY:=cH P w mg base 0 Y.x6.fn Y.x6.bi cB ZT λhr hu nd=>(aT (cS (nN (iW hr.units) (cY eF (by rfl) Y.len_ eJ (aD (bV Y.cls_Queue Y.na_costs (v 0)) aG)) aN)))
def zfZ:=cH P w mg base 0 Y.x7.fn Y.x7.bi cB ZV λhr hu nd=>(aR (bG (i:=2) nd aN)
   (aR (bG (i:=3) nd (cY eF (by rfl) Y.len_ eJ (aD (bV Y.cls_Queue Y.na_costs (v 0)) aG)))
   (aR (sQ Bn (cG oA (v 2) (v 3))
    (aR (bG (i:=4) nd (bE lV (bE dU (v 2) (v 3)) aN))
   (aT (d7 (cG (Y1 hu) (bA hu (bV Y.cls_Queue Y.na_costs (v 0)) (v 4)) (v 1))
    (aT (bG (i:=2) nd (bE dU (v 4) aN)))
    (aT (bG (i:=3) nd (v 4)))))))
   (aT (cS (v 2))))))
def zf0:=cH P w mg base 1 Y.x8.fn Y.x8.bi cB ZW λhr hu nd=>(aR (d7 (cG (p9 hu) (v 1) (bV Y.cls_Queue Y.na_waiting (v 0)))
    (aR (jW (jP aG) (w_sub hu (bV Y.cls_Queue Y.na_waiting (v 0)) (v 1)))
   (aT (d6 (fI Dl F.slot_list_insert F.type_list_insert Y2 (bV Y.cls_Queue Y.na_costs (v 0)) (aD (iO Y.cls_Queue Y.x7.me (zfZ Y) (hr.mono (by decide)) Y.x7.bi (v 0) (aD (v 1) aG)) (aD (v 1) aG))))))
    fS)
   (aT (d6 (fI Dl Ds Ec jS (bA hu (bV Y.cls_Queue Y.na_waiting (v 0)) (v 1)) (aD (v 2) aG)))))
def zf1:=cH P w mg base 0 Y.x9.fn Y.x9.bi cB ZX λhr hu nd=>(aR (bG (i:=1) nd (bA hu (bV Y.cls_Queue Y.na_costs (v 0)) (jO jR aN)))
   (aR (bG (i:=2) nd (bA hu (bV Y.cls_Queue Y.na_waiting (v 0)) (v 1)))
   (aR (bG (i:=3) nd (FL Dl F.slot_list_pop F.type_list_pop GA (v 2)))
   (aR (d7 (cG (iW hr.units) (cY eF (by rfl) Y.len_ eJ (aD (v 2) aG)) aN)
    (aR (d6 (FL Dl F.slot_list_pop F.type_list_pop GA (bV Y.cls_Queue Y.na_costs (v 0))))
   (aT (d6 (fI Fl F.slot_dict_pop F.type_dict_pop (YU hu) (bV Y.cls_Queue Y.na_waiting (v 0)) (aD (v 1) aG)))))
    fS)
   (aT (cS (bX (aD (v 1) (aD (v 3) aG)))))))))
def NU:=cH P w mg base 0 Y.x10.fn Y.x10.bi cB zaS λhr hu nd=>(aT (cS (bX (aD (bE dU (bA hu (v 0) aN) (bA hu (v 1) aN)) (aD (bE dU (bA hu (v 0) aN) (bA hu (v 1) aN)) aG)))))
def zf2:=cH P w mg base 2 Y.x11.fn Y.x11.bi cB za0 λhr hu nd=>(aR (iB Y.cls_Search Y.na_Search_grammar (v 0) (v 1))
   (aR (iB Y.cls_Search Y.na_own (v 0) (c7 (NT Y) Y.x2 hr (aD (c8 (c7 (AQ Y) Y.x0 hr (aD (v 1) aG))) aG)))
   (aR (iB Y.cls_Search Y.na_steps (v 0) (v 2))
   (aR (iB Y.cls_Search Y.na_queue (v 0) (YN Y.x5.mak (zfX Y) (hr.mono (by decide)) (by rfl) Y.at__Queue Y.x5.bi))
   (aR (iB Y.cls_Search Y.na_reached (v 0) lY)
   (aR (iB Y.cls_Search Y.na_best (v 0) lY)
   (aR (iB Y.cls_Search Y.na_ends (v 0) lY)
   (aT (iB Y.cls_Search Y.na_begun (v 0) lY)))))))))
def vH:=cH P w mg base 2 Y.x12.fn Y.x12.bi cB zaU λhr hu nd=>(aR (bG (i:=4) nd (bX (aD (v 1) (aD (cY eF (by rfl) Y.len_ eJ (aD (v 2) aG)) (aD (bA hu (v 2) aN) (aD (bA hu (v 2) (jO jR aN)) aG))))))
   (aT (d7 (PW.pt (n8 (cG (p9 hu) (v 4) (bV Y.cls_Search Y.na_reached (v 0))) (pX (cG (HU hu) (v 3) (bA hu (bV Y.cls_Search Y.na_reached (v 0)) (v 4))))))
    (aR (jW (v 3) (w_sub hu (bV Y.cls_Search Y.na_reached (v 0)) (v 4)))
   (aT (d6 (iO Y.cls_Queue Y.x8.me (zf0 Y) (hr.mono (by decide)) Y.x8.bi (bV Y.cls_Search Y.na_queue (v 0)) (aD (v 3) (aD (bX (aD (v 1) (aD (v 2) aG))) aG))))))
    fS)))
def zf3:=cH P w mg base 3 Y.x13.fn Y.x13.bi cB zaX λhr hu nd=>(aR (bG (i:=4) nd (bX (aD (bA hu (bA hu (bV Y.cls_Search Y.na_Search_grammar (v 0)) (v 1)) aN) (aD (bA hu (v 2) aN) aG))))
   (aR (bG (i:=5) nd (bE dU (v 4) (bX (aD (bA hu (v 2) (jO jR aN)) aG))))
   (aR (d7 (cG (lX hu) (v 5) (bV Y.cls_Search Y.na_best (v 0)))
    (aT GD)
    fS)
   (aR (jW (bX (aD (v 3) (aD (v 1) (aD (v 2) aG)))) (w_sub hu (bV Y.cls_Search Y.na_best (v 0)) (v 5)))
   (aR (d6 (fI Dl Ds Ec jS (fI Fl F.slot_dict_setdefault F.type_dict_setdefault (HN hu) (bV Y.cls_Search Y.na_ends (v 0)) (aD (v 4) (aD (jP aG) aG))) (aD (bX (aD (bA hu (v 2) (jO jR aN)) (aD (v 3) aG))) aG)))
   (aT (dC Bn rfl (qC (fI Fl Jo Kq (qS hu) (bV Y.cls_Search Y.na_begun (v 0)) (aD (v 4) (aD (jY aG) aG)))) (lC rfl (fR (cA (i:=6) nd) (fR (cA (i:=7) nd) (fR (cA (i:=8) nd) lB))))
    (aT (d6 (iO Y.cls_Search Y.x12.me (vH Y) (hr.mono (by decide)) Y.x12.bi (v 0) (aD (v 6) (aD (bE dU (v 7) (bX (aD (bA hu (v 2) (jO jR aN)) aG))) (aD (c7 (NU Y) Y.x10 hr (aD (v 8) (aD (v 3) aG))) aG)))))))))))))
def zf4:=cH P w mg base 3 Y.x14.fn Y.x14.bi cB zaV λhr hu nd=>(aR (d6 (fI Dl Ds Ec jS (fI Fl F.slot_dict_setdefault F.type_dict_setdefault (HN hu) (bV Y.cls_Search Y.na_begun (v 0)) (aD (v 4) (aD (jP aG) aG))) (aD (bX (aD (v 1) (aD (v 2) (aD (v 3) aG)))) aG)))
   (aT (dC Bn rfl (qC (fI Fl Jo Kq (qS hu) (bV Y.cls_Search Y.na_ends (v 0)) (aD (v 4) (aD (jY aG) aG)))) (lC rfl (fR (cA (i:=5) nd) (fR (cA (i:=6) nd) lB)))
    (aT (d6 (iO Y.cls_Search Y.x12.me (vH Y) (hr.mono (by decide)) Y.x12.bi (v 0) (aD (v 1) (aD (bE dU (v 2) (bX (aD (v 5) aG))) (aD (c7 (NU Y) Y.x10 hr (aD (v 3) (aD (v 6) aG))) aG)))))))))
def zf5:=cH P w mg base 4 Y.x15.fn Y.x15.bi cB zaY λhr hu nd=>(aR (bG (i:=1) nd (yE Y.cls_Queue Y.x9.me (zf1 Y) (hr.mono (by decide)) Y.x9.bi (bV Y.cls_Search Y.na_queue (v 0))))
   (aR (bG (i:=2) nd (bA hu (v 1) aN))
   (aR (bG (i:=3) nd (bA hu (bA hu (v 1) aN) aN))
   (aR (bG (i:=4) nd (bA hu (bA hu (v 1) aN) aN))
   (aR (d7 (cG (HU hu) (bA hu (bV Y.cls_Search Y.na_reached (v 0)) (bX (aD (v 3) (aD (cY eF (by rfl) Y.len_ eJ (aD (v 4) aG)) (aD (bA hu (v 4) aN) (aD (bA hu (v 4) (jO jR aN)) aG)))))) (v 2))
    (aT GD)
    fS)
   (aR (bG (i:=5) nd (bA hu (bA hu (bV Y.cls_Search Y.na_Search_grammar (v 0)) (v 3)) aN))
   (aT (d7 (cG FQ (cY eF (by rfl) Y.len_ eJ (aD (v 4) aG)) (cY eF (by rfl) Y.len_ eJ (aD (v 5) aG)))
    (aT (d6 (iO Y.cls_Search Y.x13.me (zf3 Y) (hr.mono (by decide)) Y.x13.bi (v 0) (aD (v 3) (aD (v 4) (aD (v 2) aG))))))
    (aT (d7 (cG (lX hu) (bA hu (v 5) (bE m9 (cY eF (by rfl) Y.len_ eJ (aD (v 4) aG)) aN)) (bV Y.cls_Search Y.na_own (v 0)))
    (aT (d6 (iO Y.cls_Search Y.x14.me (zf4 Y) (hr.mono (by decide)) Y.x14.bi (v 0) (aD (v 3) (aD (v 4) (aD (v 2) (aD (bX (aD (bA hu (v 5) (bE m9 (cY eF (by rfl) Y.len_ eJ (aD (v 4) aG)) aN)) (aD (bA hu (v 4) (jO jR aN)) aG))) aG)))))))
    (aT (dC Bn rfl (qC (fI Fl Jo Kq (qS hu) (bV Y.cls_Search Y.na_steps (v 0)) (aD (bX (aD (bA hu (v 5) (bE m9 (cY eF (by rfl) Y.len_ eJ (aD (v 4) aG)) aN)) (aD (bA hu (v 4) (jO jR aN)) aG))) (aD (jY aG) aG)))) (lC rfl (fR (cA (i:=6) nd) (fR (cA (i:=7) nd) lB)))
    (aT (d6 (iO Y.cls_Search Y.x12.me (vH Y) (hr.mono (by decide)) Y.x12.bi (v 0) (aD (v 3) (aD (bE dU (v 4) (bX (aD (v 6) aG))) (aD (bX (aD (bE dU (bA hu (v 2) aN) (v 7)) (aD (bA hu (v 2) aN) aG))) aG))))))))))))))))))
def zf6:=cH P w mg base 5 Y.x16.fn Y.x16.bi cB za6 λhr hu nd=>(aR (bG (i:=4) nd (HL Y.x11.mak (zf2 Y) (hr.mono (by decide)) (by rfl) Y.at__Search Y.x11.bi (aD (v 0) (aD (v 2) aG))))
   (aR (dC Bn rfl (kH (by rfl) Y.range_ (aD (cY eF (by rfl) Y.len_ eJ (aD (v 0) aG)) aG)) (cA (i:=5) nd)
    (aT (dC Bn rfl (fA (v 1)) (cA (i:=6) nd)
    (aT (d6 (iO Y.cls_Search Y.x12.me (vH Y) (hr.mono (by decide)) Y.x12.bi (v 4) (aD (v 5) (aD (bX (aD (v 6) aG)) (aD (bX (aD (bA hu (v 3) (v 5)) (aD aN aG))) aG)))))))))
   (aR (sQ Bn (FI (m7 (yE Y.cls_Queue Y.x6.me (zfY Y) (hr.mono (by decide)) Y.x6.bi (bV Y.cls_Search Y.na_queue (v 4)))))
    (aT (d6 (yE Y.cls_Search Y.x15.me (zf5 Y) (hr.mono (by decide)) Y.x15.bi (v 4)))))
   (aT (cS (bV Y.cls_Search Y.na_best (v 4)))))))
def zf7:=cH P w mg base 6 Y.x17.fn Y.x17.bi cB zeY λhr hu nd=>(aT (cS (c7 (zf6 Y) Y.x16 hr (aD (v 0) (aD (c8 (c7 (zfV Y) Y.x3 hr (aD (v 1) aG))) (aD (c8 (c7 (zfW Y) Y.x4 hr (aD (v 1) aG))) (aD (v 2) aG)))))))
def zf8:=cH P w mg base 0 Y.x18.fn Y.x18.bi cB zbO λhr hu nd=>(aT (cS (gD ["rule"] [none] (fA (v 0)) (λB=>(fM (i:=0))) (λB=>h9) (λB=>aN))))
def zf9:=cH P w mg base 7 Y.x19.fn Y.x19.bi cB zeZ λhr hu nd=>(aT (cS (cY (zcH rfl) (by rfl) Y.sorted_ G2 (aD (c8 (c7 (zf7 Y) Y.x17 hr (aD (v 0) (aD (v 1) (aD (c8 (c7 (zf8 Y) Y.x18 hr (aD (v 0) aG))) aG))))) aG))))
def zga:=cH P w mg base 1 Y.x20.fn Y.x20.bi cB zc5 λhr hu nd=>(aR (bG (i:=1) nd (c7 (NT Y) Y.x2 hr (aD (c8 (c7 (AQ Y) Y.x0 hr (aD (v 0) aG))) aG)))
   (aR (bG (i:=2) nd xB)
   (aR (dC Bn rfl (fA (v 0)) (cA (i:=3) nd)
    (aT (dC Bn rfl (fA (bA hu (v 3) aN)) (cA (i:=4) nd)
    (aT (d7 (cG (p9 hu) (v 4) (v 1))
    (aT (jW k7 (w_sub hu (v 2) (v 4))))
    fS)))))
   (aT (cS (cY (XN rfl) (by rfl) Y.sorted_ G2 (aD (c8 (v 2)) aG)))))))
def zgb:=cH P w mg base 0 Y.x21.fn Y.x21.bi cB ze3 λhr hu nd=>(aR (bG (i:=1) nd xB)
   (aR (bG (i:=2) nd (iK (GR rfl) (by rfl) Y.list_ xM (aD (v 0) aG)))
   (aR (bG (i:=3) nd k7)
   (aR (sQ Bn (m7 (v 3))
    (aR (bG (i:=4) nd (jP aG))
   (aR (dC Bn rfl (fA (v 2)) (cA (i:=5) nd)
    (aT (d7 (m7 (cY (F9 rfl) (by rfl) Y.all_ G1 (aD (c8 (gD ["other","done"] [none,some 1] (fA (bA hu (v 0) (v 5))) (λB=>(fM (i:=0))) (λB=>h9) (λB=>(nN (lX hu) (v 0) (v 1))))) aG)))
    (aT (jW k7 (w_sub hu (v 1) (v 5))))
    (aT (d6 (fI Dl Ds Ec jS (v 4) (aD (v 5) aG)))))))
   (aR (bG (i:=3) nd (nN oA (cY eF (by rfl) Y.len_ eJ (aD (v 4) aG)) (cY eF (by rfl) Y.len_ eJ (aD (v 2) aG))))
   (aT (bG (i:=2) nd (c8 (v 4))))))))
   (aT (cS (v 1)))))))
def zgc:=cH P w mg base 0 Y.x22.fn Y.x22.bi cB zeV λhr hu nd=>(aR (d7 (PW.pt (n8 (cG (iW hr.units) (v 0) aN) (pX (cG (iW hr.units) (v 1) aN))))
    (aT (cS aN))
    fS)
   (aT (cS (sG (PW.pt (n8 (cG FT (v 0) mZ) (pX (cG FT (v 1) mZ)))) mZ (bE zV (v 0) (v 1))))))
def NV:=cH P w mg base 0 Y.x23.fn Y.x23.bi cB zeW λhr hu nd=>(aT (cS (sG (cG (YL hr.units) mZ (v 0)) mZ (cY (XH rfl) (by rfl) Y.sum_ XC (aD (v 0) aG)))))
def zgd:=cH P w mg base 8 Y.x24.fn Y.x24.bi cB ze6 λhr hu nd=>(aR (bG (i:=1) nd (tY (c7 (AR Y) Y.x2 hr (aD (c8 (c7 (AQ Y) Y.x0 hr (aD (v 0) aG))) aG))))
   (aR (bG (i:=2) nd (tY (c7 (AR Y) Y.x2 hr (aD (c8 (gD ["fact"] [none] (fA (c8 (c7 (zf9 Y) Y.x19 hr (aD (v 0) (aD (jY aG) aG))))) (λB=>(fM (i:=0))) (λB=>h9) (λB=>(bA hu (v 0) aN)))) aG))))
   (aR (bG (i:=3) nd (iK (qQ rfl) (by rfl) Y.dict_ lD (aD (c8 (gD ["name"] [none] (mF (v 1)) (λB=>(fM (i:=0))) (λB=>h9) (λB=>(bX (aD (v 0) (aD (jP aG) aG)))))) aG)))
   (aR (dC Bn rfl (fA (v 0)) (cA (i:=4) nd)
    (aT (dC Bn rfl (zb6 (by rfl) Y.enumerate_ (aD (bA hu (v 4) aN) aG)) (lC rfl (fR (cA (i:=5) nd) (fR (cA (i:=6) nd) lB)))
    (aT (d7 (PW.pt (VM (cG (lX hu) (v 6) (v 1)) (VL (m7 (cY (F9 rfl) (by rfl) Y.all_ G1 (aD (c8 (gD ["other","empty"] [none,some 2] (fA (bE zcO (qG (bA hu (v 4) aN) p7 (p8 (v 5))) (qG (bA hu (v 4) aN) (p8 (bE dU (v 5) aN)) p7))) (λB=>(fM (i:=0))) (λB=>h9) (λB=>(nN (lX hu) (v 0) (v 1))))) aG))))))
    (aT (d6 (fI Dl Ds Ec jS (bA hu (v 3) (bA hu (v 4) aN)) (aD (v 6) aG))))
    fS)))))
   (aT (cS (v 3)))))))
def zge:=cH P w mg base 9 Y.x25.fn Y.x25.bi cB zfv λhr hu nd=>(aR (iB Y.cls_Lengths Y.na_Lengths_grammar (v 0) (v 1))
   (aR (iB Y.cls_Lengths Y.na_links (v 0) (zcA (c7 (zgd Y) Y.x24 hr (aD (v 1) aG))))
   (aR (iB Y.cls_Lengths Y.na_numbers (v 0) (iK (yC rfl) (by rfl) Y.dict_ lD (aD (c8 (gD ["name","grammar"] [none,some 1] (mF (bV Y.cls_Lengths Y.na_links (v 0))) (λB=>(fM (i:=0))) (λB=>h9) (λB=>(bX (aD (v 0) (aD (c8 (c7 (zfU Y) Y.x1 hr (aD (v 1) (aD (v 0) aG)))) aG)))))) aG)))
   (aR (iB Y.cls_Lengths Y.na_sizes (v 0) (iK (qQ rfl) (by rfl) Y.dict_ lD (aD (c8 (gD ["word"] [none] (fA (c7 (zga Y) Y.x20 hr (aD (v 1) aG))) (λB=>(fM (i:=0))) (λB=>h9) (λB=>(bX (aD (v 0) (aD (jP (aD (bX (aD aN (aD aN aG))) aG)) aG)))))) aG)))
   (aR (d6 (fI Fl F.slot_dict_update F.type_dict_update zcz (bV Y.cls_Lengths Y.na_sizes (v 0)) (aD (iK (qQ rfl) (by rfl) Y.dict_ lD (aD (c8 (gD ["name"] [none] (mF (bV Y.cls_Lengths Y.na_links (v 0))) (λB=>(fM (i:=0))) (λB=>h9) (λB=>(bX (aD (v 0) (aD (jP aG) aG)))))) aG)) aG)))
   (aT (iB Y.cls_Lengths Y.na_tails (v 0) lY)))))))
def zgf:=cH P w mg base 1 Y.x26.fn Y.x26.bi cB zff λhr hu nd=>(aR (bG (i:=3) nd (bA hu (bA hu (bV Y.cls_Lengths Y.na_Lengths_grammar (v 0)) (v 1)) aN))
   (aR (jW (sG (cG (iW hr.units) (v 2) aN) aN aN) (w_sub hu (bV Y.cls_Lengths Y.na_tails (v 0)) (bX (aD (v 1) (aD (cY eF (by rfl) Y.len_ eJ (aD (v 3) aG)) (aD (v 2) aG))))))
   (aT (dC Bn rfl (zcV (by rfl) Y.range_ (aD (bE m9 (cY eF (by rfl) Y.len_ eJ (aD (v 3) aG)) aN) (aD (jO jR aN) (aD (jO jR aN) aG)))) (cA (i:=4) nd)
    (aR (bG (i:=5) nd (jP aG))
   (aR (dC Bn rfl (qC (bA hu (bV Y.cls_Lengths Y.na_sizes (v 0)) (bA hu (v 3) (v 4)))) (lC rfl (fR (cA (i:=6) nd) (fR (cA (i:=7) nd) lB)))
    (aT (d7 (cG VV (v 6) (v 2))
    (aT (d6 (fI Dl Ds Ec jS (v 5) (aD (c7 (zgc Y) Y.x22 hr (aD (v 7) (aD (bA hu (bV Y.cls_Lengths Y.na_tails (v 0)) (bX (aD (v 1) (aD (bE dU (v 4) aN) (aD (bE m9 (v 2) (v 6)) aG))))) aG))) aG))))
    fS)))
   (aT (jW (c7 (NV Y) Y.x23 hr (aD (c8 (v 5)) aG)) (w_sub hu (bV Y.cls_Lengths Y.na_tails (v 0)) (bX (aD (v 1) (aD (v 4) (aD (v 2) aG)))))))))))))
def AU:=cH P w mg base 2 Y.x27.fn Y.x27.bi cB zfj λhr hu nd=>(aR (dC Bn rfl (fA (bA hu (bV Y.cls_Lengths Y.na_numbers (v 0)) (v 1))) (cA (i:=3) nd)
    (aT (d6 (iO Y.cls_Lengths Y.x26.me (zgf Y) (hr.mono (by decide)) Y.x26.bi (v 0) (aD (v 3) (aD (v 2) aG))))))
   (aT (cS (c7 (NV Y) Y.x23 hr (aD (c8 (gD ["number","self","length"] [none,some 0,some 2] (fA (bA hu (bV Y.cls_Lengths Y.na_numbers (v 0)) (v 1))) (λB=>(fM (i:=0))) (λB=>h9) (λB=>(bA hu (bV Y.cls_Lengths Y.na_tails (v 1)) (bX (aD (v 0) (aD aN (aD (v 2) aG)))))))) aG)))))
def zgg:=cH P w mg base 3 Y.x28.fn Y.x28.bi cB zfl λhr hu nd=>(aR (bG (i:=2) nd (c7 (AR Y) Y.x2 hr (aD (c8 (gD ["name","length","self"] [none,some 1,some 0] (mF (bV Y.cls_Lengths Y.na_links (v 0))) (λB=>(fM (i:=0))) (λB=>(sS (cG (wW hr.units) (iO Y.cls_Lengths Y.x27.me (AU Y) (hr.mono (by decide)) Y.x27.bi (v 2) (aD (v 0) (aD (v 1) aG))) aN))) (λB=>(v 0)))) aG)))
   (aR (bG (i:=3) nd (jO jR aN))
   (aR (sQ Bn (cG oA (v 3) (cY eF (by rfl) Y.len_ eJ (aD (v 2) aG)))
    (aR (bG (i:=3) nd (cY eF (by rfl) Y.len_ eJ (aD (v 2) aG)))
   (aT (dC Bn rfl (zcM (bV Y.cls_Lengths Y.na_links (v 0))) (lC rfl (fR (cA (i:=4) nd) (fR (cA (i:=5) nd) lB)))
    (aT (d7 (m7 (cY (XG rfl) (by rfl) Y.any_ XB (aD (c8 (gD ["other","held"] [none,some 2] (fA (v 5)) (λB=>(fM (i:=0))) (λB=>h9) (λB=>(nN (lX hu) (v 0) (v 1))))) aG)))
    (aT (jW k7 (w_sub hu (v 2) (v 4))))
    fS))))))
   (aT (cS (v 2))))))
def zgh:=cH P w mg base 4 Y.x29.fn Y.x29.bi cB zfo λhr hu nd=>(aR (bG (i:=2) nd (tY (iO Y.cls_Lengths Y.x28.me (zgg Y) (hr.mono (by decide)) Y.x28.bi (v 0) (aD (v 1) aG))))
   (aR (bG (i:=3) nd (iK (qQ rfl) (by rfl) Y.dict_ lD (aD (c8 (gD ["name","held","self"] [none,some 2,some 0] (mF (v 2)) (λB=>(fM (i:=0))) (λB=>h9) (λB=>(bX (aD (v 0) (aD (c8 (gD ["other","held"] [none,some 1] (fA (bA hu (bV Y.cls_Lengths Y.na_links (v 2)) (v 0))) (λB=>(fM (i:=0))) (λB=>(sS (cG (lX hu) (v 0) (v 1)))) (λB=>(v 0)))) aG)))))) aG)))
   (aR (bG (i:=4) nd (tY (c7 (zgb Y) Y.x21 hr (aD (v 3) aG))))
   (aR (dC Bn rfl (mF (v 4)) (cA (i:=5) nd)
    (aT (d6 (fI Dl Ds Ec jS (bA hu (bV Y.cls_Lengths Y.na_sizes (v 0)) (v 5)) (aD (bX (aD (v 1) (aD (iO Y.cls_Lengths Y.x27.me (AU Y) (hr.mono (by decide)) Y.x27.bi (v 0) (aD (v 5) (aD (v 1) aG))) aG))) aG)))))
   (aR (zcX (i:=3) (dC Bn rfl (mF (v 3)) (cA (i:=5) nd)
    (aT (d7 (cG (p9 hu) (v 5) (v 4))
    (aT (d6 (fI Dl Ds Ec jS (bA hu (bV Y.cls_Lengths Y.na_sizes (v 0)) (v 5)) (aD (bX (aD (v 1) (aD mZ aG))) aG))))
    fS))))
   (aT (dC Bn rfl (mF (bV Y.cls_Lengths Y.na_links (v 0))) (cA (i:=5) nd)
    (aT (d6 (iO Y.cls_Lengths Y.x27.me (AU Y) (hr.mono (by decide)) Y.x27.bi (v 0) (aD (v 5) (aD (v 1) aG))))))))))))
def zgi:=cH P w mg base 11 Y.x30.fn Y.x30.bi cB zfD λhr hu nd=>(aR (bG (i:=2) nd (HL Y.x25.mak (zge Y) (hr.mono (by decide)) (by rfl) Y.at__Lengths Y.x25.bi (aD (v 0) aG)))
   (aR (dC Bn rfl (kH (by rfl) Y.range_ (aD (bE dU (v 1) aN) aG)) (cA (i:=3) nd)
    (aT (d6 (iO Y.cls_Lengths Y.x29.me (zgh Y) (hr.mono (by decide)) Y.x29.bi (v 2) (aD (v 3) aG)))))
   (aT (cS (v 2)))))
def zgj:=cH P w mg base 12 Y.x31.fn Y.x31.bi cB zfH λhr hu nd=>(aR (bG (i:=3) nd (iK (yC rfl) (by rfl) Y.dict_ lD (aD (c8 (fI Fl Jo Kq (qS hu) (bV Y.cls_Lengths Y.na_sizes (c7 (zgi Y) Y.x30 hr (aD (v 0) (aD (v 2) aG)))) (aD (v 1) (aD (jY aG) aG)))) aG)))
   (aT (cS (c8 (fI Fl Jo Kq (qS hu) (v 3) (aD (v 2) (aD aN aG)))))))
def AW:=cH P w mg base 0 Y.x32.fn Y.x32.bi cB ze0 λhr hu nd=>(aR (d7 (cG oA (v 1) (cY eF (by rfl) Y.len_ eJ (aD (v 0) aG)))
    (aT (cS (bA hu (v 0) (v 1))))
    fS)
   (aT (cS aN)))
def zgk:=cH P w mg base 0 Y.x33.fn Y.x33.bi cB zfz λhr hu nd=>(aR (bG (i:=2) nd (jP aG))
   (aR (dC Bn rfl (kH (by rfl) Y.range_ (aD (bA hu (jY (aD aN (aD aN (aD aN (aD aN (aD aN (aD aN aG))))))) (bE i9 (v 0) aN)) aG)) (cA (i:=3) nd)
    (aR (bG (i:=4) nd (bE i9 (bE lV (v 0) (bE dU aN (bE sU aN (v 3)))) aN))
   (aT (d7 (cG oA (v 4) aN)
    (aT (d6 (fI Dl Ds Ec jS (v 2) (aD (bA hu (jY (aD i7 (aD i7 (aD i7 aG)))) (bE i9 (v 4) aN)) aG))))
    (aT (d6 (fI Dl Ds Ec jS (v 2) (aD (bA hu (v 1) (bE i9 (v 4) (cY eF (by rfl) Y.len_ eJ (aD (v 1) aG)))) aG))))))))
   (aT (cS (iK WD (by rfl) Y.tuple_ W9 (aD (v 2) aG))))))
def zgl:=cH P w mg base 1 Y.x34.fn Y.x34.bi cB zfC λhr hu nd=>(aR (bG (i:=1) nd (c7 (AW Y) Y.x32 hr (aD (v 0) (aD aN aG))))
   (aR (bG (i:=2) nd (qG (jY (aD i7 (aD i7 (aD i7 aG)))) p7 (p8 (bE dU aN (bE i9 (bE lV (v 1) aN) aN)))))
   (aR (bG (i:=3) nd (jP aG))
   (aR (dC Bn rfl (kH (by rfl) Y.range_ (aD (bE dU (cY eF (by rfl) Y.len_ eJ (aD (v 2) aG)) (bE i9 (bE lV (v 1) aN) aN)) aG)) (cA (i:=4) nd)
    (aR (bG (i:=5) nd (c7 (AW Y) Y.x32 hr (aD (v 0) (aD (bE dU aN (v 4)) aG))))
   (aR (d7 (cG (iW hr.units) (bE i9 (v 1) aN) aN)
    (aT (bG (i:=5) nd (bE lV (bE sU (bE dU (bE i9 (v 5) (bE wU aN aN)) (v 4)) (bE dU (bE dU (bE i9 (v 5) (bE wU aN aN)) (bE sU aN (v 4))) aN)) aN)))
    fS)
   (aR (bG (i:=6) nd (bA hu (v 2) (bE i9 (v 5) (cY eF (by rfl) Y.len_ eJ (aD (v 2) aG)))))
   (aR (d7 (cG oA (v 4) (cY eF (by rfl) Y.len_ eJ (aD (v 2) aG)))
    (aT (bG (i:=6) nd (bA hu (v 2) (v 4))))
    fS)
   (aT (d6 (fI Dl Ds Ec jS (v 3) (aD (bX (aD (v 6) (aD (c7 (zgk Y) Y.x33 hr (aD (bE lV (v 5) aN) (aD (v 2) aG))) (aD (bE i9 (bE lV (v 5) aN) aN) aG)))) aG)))))))))
   (aT (cS (v 3)))))))
theorem AX(Y:Al K mg C fa fb):∀n,eR P w K mg base fW (1+n) (fa 35) (fb 35) ["parts","length","counts"] (gL K (pF n))
 | 0=>xG (k:=0) Y.x35.fn (cB (N:=MH)) (λ_ _ _ h=>h.elim) λ_ _ _ _ _ _ _ _ _ _ h=>h.elim
 | n+1=>zb1 P w mg base (1+n) Y.x35.fn Y.x35.bi cB (zeQ (n+1)) zfL λhr hu nd=>(aR (d7 (cG (iW hr.units) (v 0) (bX aG))
    (aT (cS (iK zbP (by rfl) Y.int_ GZ (aD (nN (iW hr.units) (v 1) aN) aG))))
    fS)
   (aR (d7 (cG (p9 hu) (bA hu (v 0) aN) (jY (aD i7 (aD i7 (aD i7 aG)))))
    (aT (cS (sG (cG (iW hr.units) (v 1) aN) aN (wN (AX Y n) (hr.mono (by lia)) (by rfl) Y.x35.at_ Y.x35.fn.kp Y.x35.bi (aD (qG (v 0) (p8 aN) p7) (aD (bE m9 (v 1) aN) (aD (v 2) aG)))))))
    fS)
   (aR (bG (i:=3) nd aN)
   (aR (dC Bn rfl (kH (by rfl) Y.range_ (aD (bE dU (v 1) aN) aG)) (cA (i:=4) nd)
    (aT (d7 (cG FQ (bA hu (v 2) (bX (aD (bA hu (v 0) aN) (aD (v 4) aG)))) aN)
    (aT (bG (i:=3) nd (bE dU (v 3) (bE zV (bA hu (v 2) (bX (aD (bA hu (v 0) aN) (aD (v 4) aG)))) (wN (AX Y n) (hr.mono (by lia)) (by rfl) Y.x35.at_ Y.x35.fn.kp Y.x35.bi (aD (qG (v 0) (p8 aN) p7) (aD (bE m9 (v 1) (v 4)) (aD (v 2) aG))))))))
    fS)))
   (aT (cS (v 3)))))))
def zgm:=AX (P:=P) (w:=w) (base:=base) Y 5
def NW:=cH P w mg base 6 Y.x36.fn Y.x36.bi cB zfP λhr hu nd=>(aR (bG (i:=5) nd lY)
   (aR (dC Bn rfl (fA (v 1)) (cA (i:=6) nd)
    (aT (dC Bn rfl (kH (by rfl) Y.range_ (aD (bE dU (v 2) aN) aG)) (cA (i:=7) nd)
    (aR (bG (i:=8) nd aN)
   (aR (dC Bn rfl (qC (v 0)) (lC rfl (fR (cA (i:=9) nd) (fR (cA (i:=10) nd) (fR (cA (i:=11) nd) lB))))
    (aT (d7 (cG (iW hr.units) (v 9) (v 6))
    (aT (bG (i:=8) nd (bE dU (v 8) (c7 (zgm Y) Y.x35 hr (aD (v 10) (aD (v 7) (aD (v 3) aG)))))))
    fS)))
   (aT (jW (cY (WE rfl) (by rfl) Y.min_ XD (aD (v 8) (aD (v 4) aG))) (w_sub hu (v 5) (bX (aD (v 6) (aD (v 7) aG)))))))))))
   (aT (cS (v 5)))))
def zgn:=cH P w mg base 13 Y.x37.fn Y.x37.bi cB zfT λhr hu nd=>(aR (bG (i:=1) nd (c8 (c7 (zgl Y) Y.x34 hr (aD (v 0) aG))))
   (aR (zb0 (i:=2) nd ["name","rules"] [none,some 1] (fA (jY (aD i7 (aD i7 (aD i7 aG))))) (λB=>(fM (i:=0))) (λB=>(sS (cG (lX hu) (v 0) (c8 (gD ["rule"] [none] (fA (v 1)) (λB=>(fM (i:=0))) (λB=>h9) (λB=>(bA hu (v 0) aN))))))) (λB=>(v 0)))
   (aR (bG (i:=3) nd (bE i9 (bE lV (c7 (AW Y) Y.x32 hr (aD (v 0) (aD aN aG))) aN) aN))
   (aR (bG (i:=4) nd (bE dU (bE sU (cY eF (by rfl) Y.len_ eJ (aD (v 2) aG)) (bE dU (v 3) aN)) aN))
   (aR (bG (i:=5) nd aN)
   (aR (dC Bn rfl (kH (by rfl) Y.range_ (aD aN aG)) (cA (i:=6) nd)
    (aT (bG (i:=5) nd (bE zV (v 5) (bE wU aN aN)))))
   (aR (bG (i:=7) nd lY)
   (aR (dC Bn rfl (fA (v 2)) (cA (i:=8) nd)
    (aT (dC Bn rfl (kH (by rfl) Y.range_ (aD (bE dU (v 3) aN) aG)) (cA (i:=9) nd)
    (aT (jW aN (w_sub hu (v 7) (bX (aD (v 8) (aD (v 9) aG)))))))))
   (aR (dC Bn rfl (kH (by rfl) Y.range_ (aD (v 4) aG)) (cA (i:=6) nd)
    (aT (bG (i:=7) nd (c7 (NW Y) Y.x36 hr (aD (v 1) (aD (v 2) (aD (v 3) (aD (v 7) (aD (v 5) aG)))))))))
   (aR (bG (i:=10) nd (v 7))
   (aR (dC Bn rfl (kH (by rfl) Y.range_ (aD (v 4) aG)) (cA (i:=6) nd)
    (aT (bG (i:=10) nd (c8 (c7 (NW Y) Y.x36 hr (aD (v 1) (aD (v 2) (aD (v 3) (aD (v 10) (aD (v 5) aG))))))))))
   (aR (bG (i:=11) nd (iK (GR rfl) (by rfl) Y.list_ xM (aD (v 1) aG)))
   (aR (dC Bn rfl (fA (v 2)) (cA (i:=8) nd)
    (aR (bG (i:=12) nd (c7 (zgj Y) Y.x31 hr (aD (v 11) (aD (v 8) (aD (v 3) aG)))))
   (aT (d7 (PW.pt (n8 (cG (wW hr.units) (bA hu (v 10) (bX (aD (v 8) (aD (v 3) aG)))) (bA hu (v 7) (bX (aD (v 8) (aD (v 3) aG))))) (pX (cG (iW hr.units) (bA hu (v 7) (bX (aD (v 8) (aD (v 3) aG)))) (v 5)))))
    (aT (d7 (cG VW (v 12) mZ)
    (aT (cS k7))
    fS))
    (aT (d7 (PW.pt (n8 (FI (m7 (cY GO (by rfl) Y.isinstance_ G0 (aD (v 12) (aD (FG (by rfl) Y.int_ GZ (y:=.ty "int") rfl (λ_ _=>.ty _)) aG))))) (n8 (m7 (cY GO (by rfl) Y.isinstance_ G0 (aD (v 12) (aD (FG (by rfl) Y.bool_ XA (y:=.ty "bool") rfl (λ_ _=>.ty _)) aG)))) (pX (cG (wW hr.units) (v 12) (bA hu (v 7) (bX (aD (v 8) (aD (v 3) aG)))))))))
    (aT (cS k7))
    fS))))))
   (aT (cS (nN (iW hr.units) (v 11) (v 1)))))))))))))))))
end
section
variable {w:Ct}{h:Heap}{mg:Str->Option Ae}
theorem mn{x:Str}(X:(hpK w.params).In h)(G:h.Ns Eh mg)(e:PySem.W.nsIn (hpK w.params) Eh x=some none:=by kernel_rfl):mg x=none:=PySem.W.mg_none_of X G e
theorem zgo(X:(hpK w.params).In h)(G:h.Ns Eh mg):Tx mg:=⟨mn X G,mn X G,mn X G,mn X G,mn X G,mn X G,mn X G,mn X G,mn X G,mn X G,mn X G,mn X G,mn X G,mn X G⟩
theorem zgp(X:(hpK w.params).In h)(G:h.Ns Eh mg):Kc (hpK w.params) mg ⟨88,144,242,0,0,0,0,0,0⟩:=⟨⟨by kernel_rfl,by kernel_rfl,by kernel_rfl,by kernel_rfl⟩,Ky (v:=.ref 88) X G (by kernel_rfl),⟨by kernel_rfl,by kernel_rfl,by kernel_rfl,by kernel_rfl⟩,Ky (v:=.ref 144) X G (by kernel_rfl),⟨by kernel_rfl,by kernel_rfl,by kernel_rfl,by kernel_rfl⟩,Ky (v:=.ref 242) X G (by kernel_rfl),(show Cd (hpK w.params) (.ref 88) "costs" = some none by kernel_rfl),(show Cd (hpK w.params) (.ref 88) "waiting" = some none by kernel_rfl),(show Cd (hpK w.params) (.ref 144) "grammar" = some none by kernel_rfl),(show Cd (hpK w.params) (.ref 242) "grammar" = some none by kernel_rfl),(show Cd (hpK w.params) (.ref 144) "own" = some none by kernel_rfl),(show Cd (hpK w.params) (.ref 144) "steps" = some none by kernel_rfl),(show Cd (hpK w.params) (.ref 144) "queue" = some none by kernel_rfl),(show Cd (hpK w.params) (.ref 144) "reached" = some none by kernel_rfl),(show Cd (hpK w.params) (.ref 144) "best" = some none by kernel_rfl),(show Cd (hpK w.params) (.ref 144) "ends" = some none by kernel_rfl),(show Cd (hpK w.params) (.ref 144) "begun" = some none by kernel_rfl),(show Cd (hpK w.params) (.ref 242) "links" = some none by kernel_rfl),(show Cd (hpK w.params) (.ref 242) "numbers" = some none by kernel_rfl),(show Cd (hpK w.params) (.ref 242) "sizes" = some none by kernel_rfl),(show Cd (hpK w.params) (.ref 242) "tails" = some none by kernel_rfl)⟩
def zgq(i:Nat):Addr:=([21,26,31,38,43,57,64,78,71,85,99,113,120,141,134,127,155,162,167,174,181,186,193,200,205,217,224,229,234,239,253,260,267,274,281,293,300,305]:List Addr).getD i 0
def zgr(i:Nat):Bv:=[B7,B8,B9,CA,CB,CC,CD,CG,CF,CI,CJ,CK,CL,CO,CN,CM,CP,CQ,CS,CT,CU,CW,CY,CZ,C0,C1,C4,C5,C6,C7,C8,C9,DA,DB,DC,DD,DE,rN].getD i rN
theorem zgs(X:(hpK w.params).In h)(G:h.Ns Eh mg):Al (hpK w.params) mg ⟨88,144,242,0,0,0,0,0,0⟩ zgq zgr:=⟨zgo X G,zgp X G,dF X G,dF X G,dF X G,dF X G,dF X G,dI,dM,dM,dM,dM,dF X G,dI,dM,dM,dM,dM,dF X G,dF X G,dF X G,dF X G,dF X G,dF X G,dF X G,dF X G,dF X G,dI,dM,dM,dM,dM,dF X G,dF X G,dF X G,dF X G,dF X G,dF X G,dF X G,dF X G⟩
end
theorem all_mk{l:PySem.W.OpenLaw}{w:Ct}{h:Heap}{mg:Str->Option Ae}{fa:Addr}(X:(hpK w.params).In h)(G:h.Ns Eh mg)(hfa:mg "law" = some (.ref fa)):
  ∃fd:Bv,(∀(s:Aj) (v:Ae),BindsTo s fd ⟨[v],[]⟩ [("script",v)])/\∀base:Heap,(hpK w.params).In base->base.Ns Eh mg->eR l.prog w (hpK w.params) mg base fW 14 fa fd ["script"] (gL (hpK w.params) qD):=by
 have e:=hfa.symm.trans (Ky (v:=.ref 305) X G (by kernel_rfl));cases e;exact⟨rN,λs v=>.of_eq rfl,λbase _ _=>zgn (zgs X G)⟩
theorem walk{l:PySem.W.OpenLaw}{q:Ca}{loose:List Str}{XP:(Str->Option Ae)->Heap->Prop}{YP:Ct->Heap->Prop}{d:DefRec}{K:Params->Ab}(hn:l.most=some 63)(hdf:d.params.defaults=[])(hY:∀(w:Ct) (h:Heap),YP w h->(K w.params).In h)(F:∀(w:Ct) (mg:Str->Option Ae) (fa:Addr) (h:Heap),(K w.params).In h->h.Ns Eh mg->mg d.name=some (.ref fa)->
   ∃fd:Bv,(∀(s:Aj) (u:Ae),BindsTo s fd ⟨[u],[]⟩ [("script",u)])/\∀base:Heap,(K w.params).In base->base.Ns Eh mg->eR l.prog w (K w.params) mg base fW 14 fa fd ["script"] (gL (K w.params) qD)):
  PySem.W.WalkO q loose XP YP l.row.toRowW d [] (λf vs=>PySem.call f vs):=
 L2.UJ (n:=63) (k:=14) (x:="script") (CX:=λ_=>fW) (sp:=λw=>gL (K w.params) qD) hn (by decide) hdf ⟨rfl,by decide,by decide⟩ hY F (λ_ _ a ns hl ho hS=>WU hl ho hS) λ_ _ _ _ _ z=>z
end M74
open PySem PySem.W PyProof.Rows
set_option maxRecDepth 100000 in
set_option maxHeartbeats 0 in
theorem PySem.Challenge.cw_readgrove_k74_tree_counts_holds : PySem.Challenge.rw_readgrove_k74_tree_counts.Holds := by
 w_on; refine PySem.W.holds_law M74.hws λsaid => ?_
 refine PySem.W.holds_open (r := PySem.Challenge.rw_readgrove_k74_tree_counts.row) (q := M74.qv) (loose := []) (N := 3886)
  (Xt := λs => xlAt M74.qv [] s&&recOk (RowW.records (OpenRow.toRowW PySem.Challenge.rw_readgrove_k74_tree_counts.row)) s)
  (XP := XL M74.qv []) (Yf := M74.hk.obs) (Ya := M74.hk.val) (YP := M74.hk.says) ?hl M74.hk.of M74.hk.keeps
  (λs e => xl_of s (Bool.and_eq_true_iff.mp e).1) XL.keeps (by rfl) (by rfl) (by rfl) (λs e => recFacts_of (Bool.and_eq_true_iff.mp e).2)
  (by rfl) (by assumption) (by decide +kernel) ⟨rfl, rfl, rfl, rfl, rfl, by decide +kernel⟩ ?hw ?hc
 case hw => w_witness2
 case hc => exact M74.walk (l := PySem.Challenge.rw_readgrove_k74_tree_counts) rfl rfl (λw h Y => PySem.W.kIn_of Y) (λw mg fa h KX G hmg => M74.all_mk KX G hmg)
 case hl => exact M74.hlx
