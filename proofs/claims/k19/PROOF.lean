import PyProof.Rows.All
import Wide.All
import OpenK.AllK
import Wide.FinOn
import Lean
import PyProof.EqAt
import PyProof.EqKinds
import PyProof.TupleCall
import PySem.Challenge.RW_readgrove_k19_readings_told
open PySem renaming wpAny_bind→Aa,Value→Ae,wpAny_pure→Ag,Shared→Ah,sizeLine→Am,wpAny→Ba,starEach→Bh,model→Bj,FuncData→Bk,Program→Bo,compareOp→Bw,World→Ce,Around→Ck,bootBuiltins→Co,wpAny_holding→Cq,wpAny_newObj_type→Cy,wpAny_ite_split→Dc,wpAny_call_entry→Dh,wpAny_callSpecial?_slot→Dv,mainGlobals→Eb,intKind→Ed,wpAny_setField→Ek,wpAny_Call_Name_kw→El,tupleKind_room_in1→Ew,wpAny_field→Ez,wpAny_askSetting→Fb,wpAny_setState_of→Ff,binaryOp→Fg,codeAny_builtin→Fm,cLine→Fn,rawInt→Fs,wpAny_seqItems→Fv,tupleKind→Fy,wpAny_rule→Ga,sysModules→Gb,assignEach→Gq,Paired→Gr,mem_of_lookup→Gw,wpAny_pyIter_list→Gx,foldedSetIterable→Gy,SetTable→Gz,Builtin→Ha,plainId_quiet→He,backTo→Hf,IsPair→Hg,pyNext→Hh,wpAny_typeNameOfWhole_keyiter→Hn,wpAny_setField_rec→Hq,wpAny_pyIter_tuple→Hr,wpAny_mono→Hs,holding→Ht,wpAny_passesOwn→Hx,behindInMarks→Hy,DictEntry→Ib,wpAny_notOrdered_dict→Ic,builtinLookup_eq_fast→Ie,wpAny_truthy_bool→Ih,wpAny_dictEntries→Ii,sizeLine_eq→Ir,NameKind→Iu,wpAny_isInstance→Ja,codeAny→Jb,wpAny_typeNameOf_keyiter→Jk,attributeBase→Jl,Scope→Jm,swapsWith→Js,wpAny_typeOf→Jz,firstArgMember→Ka,codeAny_mono→Kb,wpAny_eqBool_int→Km,wpAny_attempt→Kq,sliceBounds→Kr,typeLookup_type→Kw,call_meetsIn→Lb,pickOrder→Lf,wpAny_tupleItemsOf→Li,setsByText→Lj,isSubtype_type→Lk,call_meets→Ll,PyData→Lo,Expr→Ls,wpAny_pyIter_enum→Lw,keywordEach→Lx,assign→Ma,wpAny_pyIter_zip→Mg,atKey→Mh,storedH→Mw,wpAny_execs_nil→Na,size_of_entries→Nb,letOwnedTupleGo→Nc,wpAny_updateSeq_pair→Nf,wpAny_fieldsOf→Ng,pyIter→Nh,IsZip→Ni,standAt→Nj,scanBound→Nk,getMethod→Nl,wpAny_setEntries_of→Nm,wpAny_standAt→Nn,wpAny_onRaise→Np
open List renaming length_map→Ab,getElem?_eq_some_iff→Ai,getElem?_eq_getElem→Ak,mem_of_getElem?→An,length_append→Ao,getElem?_map→Av,mem_singleton→Aw,mem_cons→Ax,map_cons→Ay,mem_map→Az,size_toArray→Bb,mem_cons_of_mem→Bd,mem_cons_self→Bf,map_append→Bi,mem_append→Bl,length_cons→Bn,replicate→Bs,range→Bu,mem_append_left→Bv,mem_append_right→Ca,length_take→Cb,length_singleton→Cd,lookup→Cg,mem_nil_iff→Cp,mem_filter→Cv,take_length→De,nodup_cons→Dg,filter_cons→Dk,map_map→Dl,length→Ds,take_add_one→Du,mem_range→Dy,filterMap_cons→Dz,nodup_append→Ea,getD_eq_getElem?_getD→Ef,not_mem_nil→Ej,length_range→Em,take_of_length_le→Fc,foldl_cons→Fd,find?_cons→Fe,eq_nil_or_concat→Fi,concat_eq_append→Fj,nodup_nil→Fq,getElem?_cons_succ→Ft,append_assoc→Fu,replicate_succ→Fw,mem_map_of_mem→Fx,any_cons→Ge,length_drop→Gg,length_filter_le→Gk,getLastD_eq_getLast?→Gn,drop_eq_getElem_cons→Gp,mem_flatMap→Hc,lookup_cons→Hd,mem_zipIdx_iff_getElem?→Hk,flatten_cons→Hu,any_eq_true→Ij,pairwise_iff_getElem→Im,length_pos_iff→Iq,all_cons→Iz,append_nil→Jc,mem_filterMap→Jd,length_eq_zero_iff→Jj,map_nil→Jo,mem_iff_getElem?→Jv,getElem?_eq_none→Jw,zipIdx_cons→Jx,all_eq_true→Jy,mem_iff_getElem→Kg,nil_append→Kk,map_congr_left→Ko,nodup_iff_pairwise_ne→Ku,filterMap_map→Kv,getElem?_eq_none_iff→La,pairwise_map→Ld,map_take→Lg,map→Lq,append_inj'→Lr,length_pos_of_mem→Ly,forIn_cons→Mc,getElem?_toArray→Mf,mem_of_mem_take→Mq,getElem?_zipIdx→Mr,map_drop→Nd
open PySem.W renaming Frag→Ac,findIn→Cf,kia_one→Eo,fnOf→Ep,keepIn→Ex,emptyDict→Ey,instObj→Gm,kitOne→Jf,codeIn→Jg,mg_of→Jt,callWith_K→Kn,plainGet→Lc,isFn→Lm,lookIn→Mb,plainGet_of→Mi
open PySem.Heap renaming get?_push_of_some→Af,lt_size→Ap,get?_push_size→Au,size_push→Cz,SameBut→Dn,get?_update_self→Er,get?_update_other→Fz
open Nat renaming le_refl→Aj,le_trans→Bc,ne_of_lt→Be,lt_of_lt_of_le→Bq,zero_le→Ci,ne_of_gt→Ct,le_of_eq→Fp,lt_trans→Gd,lt_succ_self→Gh,lt_succ_of_lt→Gu,lt_irrefl→Gv,add_le_add_left→Hb,min_le_left→Hm,zero_add→Jq,le_of_lt→Jr,le_succ→Kj,lt_of_le_of_lt→Kz,exists_eq_add_of_le→Lu,min_eq_left→Me,mul_le_mul→My
open Bool renaming false_ne_true→Ar,and_eq_true→Cj,false_eq_true→Eg,eq_iff_iff→Eu,not_not→Jp,not_true→Ke,and_eq_true_iff→Kh,not_false→Mv
open Option renaming map_eq_some_iff→Bg,isSome_iff_exists→Gs,map_some→Kf,isSome_map→Ky
open Ne renaming symm→Bp
open PySem.PassesOwn renaming never→Br
open PySem.Heap.SameBut renaming update→Bt
open Array renaming length_toList→Bx,getElem?_toList→Gj,toArray_toList→Mo
open Int renaming toNat_natCast→Bz,emod_lt_of_pos→Hj,emod_nonneg→Je,zero_add→Kt,le_refl→Lh
open PySem.Txt renaming partition→Cm
open Option.some renaming inj→Cr,injEq→Eh
open PySem.Str renaming ofString→Cs
open PyProof.Rows renaming callWith_type1→Cu,IntsAre→Hv,slot_tuple_getitem→Iw,envOfC→Lz,AllBare→Mz
open PySem.F renaming plainAttrs_list→Cw,slot_list_append→Dr,type_list_append→Dx,slot_dict_keyiterator_next→Es,plainAttrs_dict→Ia,slot_tuple_iterator_next→Ip,called_set→Iv,entry_dict_get→Jh,slot_dict_get→Jn,slot_list_getattribute→Lv,slot_zip_next→Ms,slot_list_pop→Mu
open Prod.mk renaming injEq→Dd
open PySem.Builtin.SmallTypes renaming nextOf→Dq,ownedTupleIsFree→Fl
open List.cons renaming injEq→Dw
open PySem.Around renaming under_plainId→Ec
open PySem.Paired renaming length→Ee
open PySem.Obj renaming mapFields→Ei,data_mapFields→Hi,mapSeq→Ji,data_mapDictKeys→Ki,isFreed_of_fields→Mj
open Prod renaming fst→Fh,snd→Iy,ext→Mp
open Classical renaming propDecidable→Fo
open PySem.PyData renaming eqv→Gf,depth→Hz,eqvAll→Mx
open False renaming elim→Gi
open PySem.Builtin.Slice renaming slicePlaces→Hl,sliceAdjust→Kd
open PySem.SetTable renaming grown→Ho
open PySem.Builtin.Tuple renaming tupleExact→Hw
open PySem.Builtin.Dict renaming updateFrom→Ig
open PySem.Builtin.Str renaming occurrences→Ik
open PySem.AutoSeq1 renaming wpAny_loadPart'→Il
open PySem.Builtin.List renaming listExtendWith→Ju,listTooLong→Kl
open PySem.Walks renaming list→Ks
open Sum.inl renaming injEq→Kx
open List.Perm renaming append_left→Lp
open PyProof.Rows.F renaming plain_set_update_loop→Md
open Function renaming comp→Ml
open PySem.SeqAt renaming EqAt→Nq
set_option Elab.async false
set_option compiler.extract_closed false
set_option bootstrap.genMatcherCode false
set_option linter.all false
set_option maxRecDepth 100000
namespace L2
open PySem PySem.Spec PyProof.Rows
def jJ(s:Stmt)(j:Nat):Stmt:=match s with
 | .ClassDef _ _ _ body _ _ _ _ _ _ _=>body.getD j (.Pass ⟨0,0,0,0⟩)
 | _=>.Pass ⟨0,0,0,0⟩
def iB(s:Stmt):Arguments:=match s with
 | .FunctionDef _ a _ _ _ _ _ _ _ _=>a
 | _=>{posonlyargs:=[],args:=[],vararg:=none,kwonlyargs:=[],kw_defaults:=[],kwarg:=none,defaults:=[]}
def gL(s:Stmt):List Stmt:=match s with
 | .FunctionDef _ _ b _ _ _ _ _ _ _=>b
 | _=>[]
def eQ(s:Stmt):Jm:=match s with
 | .FunctionDef _ _ _ _ _ _ sc _ _ _=>sc
 | _=>{kind:=.function,names:=[],isGenerator:=false,isCoroutine:=false}
end L2
namespace Rg
open PySem PySem.Spec PyProof.Rows L2
noncomputable def aP(i:Nat):Stmt:=PySem.Challenge.pw_readgrove_k19_readings_told.main.body.getD i (.Pass ⟨0,0,0,0⟩)
noncomputable abbrev zW:Stmt:=aP 6
noncomputable abbrev zX:Stmt:=aP 7
noncomputable abbrev zY:Stmt:=aP 8
noncomputable abbrev zZ:Stmt:=aP 9
noncomputable abbrev z9:Stmt:=aP 10
noncomputable abbrev AA:Stmt:=aP 11
noncomputable abbrev AB:Stmt:=aP 13
noncomputable abbrev AD:Stmt:=aP 14
noncomputable abbrev AE:Stmt:=aP 15
noncomputable abbrev AF:Stmt:=aP 16
noncomputable abbrev AG:Stmt:=jJ (aP 18) 0
noncomputable abbrev AH:Stmt:=jJ (aP 18) 1
noncomputable abbrev AI:Stmt:=jJ (aP 18) 2
noncomputable abbrev AJ:Stmt:=jJ (aP 18) 3
noncomputable abbrev AK:Stmt:=jJ (aP 18) 4
noncomputable abbrev AL:Stmt:=aP 20
noncomputable abbrev AN:Stmt:=jJ (aP 21) 0
noncomputable abbrev AQ:Stmt:=jJ (aP 21) 1
noncomputable abbrev AR:Stmt:=jJ (aP 21) 2
noncomputable abbrev AU:Stmt:=jJ (aP 21) 3
noncomputable abbrev AW:Stmt:=jJ (aP 21) 4
noncomputable abbrev AX:Stmt:=aP 22
noncomputable abbrev AY:Stmt:=aP 23
noncomputable abbrev AZ:Stmt:=aP 24
noncomputable abbrev A0:Stmt:=aP 25
noncomputable abbrev A1:Stmt:=aP 26
noncomputable abbrev A2:Stmt:=aP 27
noncomputable abbrev A5:Stmt:=aP 29
noncomputable abbrev A6:Stmt:=aP 30
noncomputable abbrev A7:Stmt:=aP 32
noncomputable abbrev A8:Stmt:=aP 33
noncomputable abbrev A9:Stmt:=aP 35
noncomputable abbrev BA:Stmt:=aP 36
noncomputable abbrev BC:Stmt:=aP 37
noncomputable abbrev BD:Stmt:=aP 38
noncomputable abbrev BE:Stmt:=aP 39
noncomputable abbrev BF:Stmt:=aP 40
noncomputable abbrev BG:Stmt:=aP 41
noncomputable abbrev BH:Stmt:=aP 42
noncomputable abbrev BI:Stmt:=aP 43
noncomputable abbrev BJ:Stmt:=aP 44
noncomputable abbrev BK:Stmt:=aP 45
noncomputable abbrev BL:Stmt:=aP 46
noncomputable def en(P:Params)(x:String)(t:Tok)(v:Ae):Ib:=⟨PyData.keyHash P (Cs x),.str (Cs x) t,v⟩
abbrev sT(x:String)(t:Tok):Ae:=.str (Cs x) t
abbrev cO(x:String)(a:Tok)(q:String)(b c:Tok)(l n:Int)(r:Addr)(u v w y z:Ae)(k:Int)(d:Tok):Obj:=⟨.type "code",none,.fields #[sT x a,sT q b,sT "/claim/cut.py" c,.int l 0,.int n 0,.int 0 0,.int 0 0,.int 3 0,.ref r,.bool true,.int 181 0,u,v,w,y,z,.int k 0,.int l 0,sT "/claim/cut.py" d],#[]⟩
abbrev fO(x q:Str)(s:Stmt)(m c:Ae):Bk:=Ep x q (iB s) (gL s) (eQ s) .none .none .none m none c .none
noncomputable abbrev BM:Bk:=fO "made_of" "made_of" zW (sT "readgrove.grammars" 223) (.ref 43)
noncomputable abbrev BN:Bk:=fO "is_name" "is_name" zX (sT "readgrove.grammars" 223) (.ref 50)
noncomputable abbrev BO:Bk:=fO "names" "names" zY (sT "readgrove.grammars" 223) (.ref 57)
noncomputable abbrev BP:Bk:=fO "first_name" "first_name" zZ (sT "readgrove.grammars" 223) (.ref 64)
noncomputable abbrev BQ:Bk:=fO "check_rule" "check_rule" z9 (sT "readgrove.grammars" 223) (.ref 71)
noncomputable abbrev BR:Bk:=fO "grammar_of" "grammar_of" AA (sT "readgrove.grammars" 223) (.ref 78)
noncomputable abbrev BS:Bk:=fO "marks" "marks" AB (sT "readgrove.covers" 278) (.ref 83)
noncomputable abbrev BU:Bk:=fO "places_of" "places_of" AD (sT "readgrove.covers" 278) (.ref 90)
noncomputable abbrev BV:Bk:=fO "row_steps" "row_steps" AE (sT "readgrove.covers" 278) (.ref 95)
noncomputable abbrev BW:Bk:=fO "part_facts" "part_facts" AF (sT "readgrove.covers" 278) (.ref 100)
noncomputable abbrev BX:Bk:=fO "__init__" "Queue.__init__" AG (sT "readgrove.queues" 305) (.ref 114)
noncomputable abbrev BY:Bk:=fO "is_done" "Queue.is_done" AH (sT "readgrove.queues" 305) (.ref 121)
noncomputable abbrev BZ:Bk:=fO "put" "Queue.put" AI (sT "readgrove.queues" 305) (.ref 128)
noncomputable abbrev B0:Bk:=fO "place_of" "Queue.place_of" AJ (sT "readgrove.queues" 305) (.ref 135)
noncomputable abbrev B1:Bk:=fO "take" "Queue.take" AK (sT "readgrove.queues" 305) (.ref 142)
noncomputable abbrev B2:Bk:=fO "added" "added" AL (sT "readgrove.leasts" 373) (.ref 156)
noncomputable abbrev B3:Bk:=fO "__init__" "Search.__init__" AN (sT "readgrove.leasts" 373) (.ref 170)
noncomputable abbrev B4:Bk:=fO "reach" "Search.reach" AQ (sT "readgrove.leasts" 373) (.ref 177)
noncomputable abbrev B5:Bk:=fO "take_next" "Search.take_next" AR (sT "readgrove.leasts" 373) (.ref 184)
noncomputable abbrev B6:Bk:=fO "step_by_name" "Search.step_by_name" AU (sT "readgrove.leasts" 373) (.ref 191)
noncomputable abbrev B7:Bk:=fO "settle" "Search.settle" AW (sT "readgrove.leasts" 373) (.ref 198)
noncomputable abbrev B8:Bk:=fO "least_trees" "least_trees" AX (sT "readgrove.leasts" 373) (.ref 212)
noncomputable abbrev B9:Bk:=fO "facts_within" "facts_within" AY (sT "readgrove.leasts" 373) (.ref 217)
noncomputable abbrev CA:Bk:=fO "made_of_best" "made_of_best" AZ (sT "readgrove.leasts" 373) (.ref 224)
noncomputable abbrev CB:Bk:=fO "same_word" "same_word" A0 (sT "readgrove.leasts" 373) (.ref 231)
noncomputable abbrev CC:Bk:=fO "knot_of" "knot_of" A1 (sT "readgrove.leasts" 373) (.ref 238)
noncomputable abbrev CD:Bk:=fO "best_tree" "best_tree" A2 (sT "readgrove.leasts" 373) (.ref 245)
noncomputable abbrev CF:Bk:=fO "row_trees" "row_trees" A5 (sT "readgrove.spans" 537) (.ref 252)
noncomputable abbrev CG:Bk:=fO "no_weights" "no_weights" A6 (sT "readgrove.spans" 537) (.ref 257)
noncomputable abbrev CH:Bk:=fO "whole_fact" "whole_fact" A7 (sT "readgrove.readings" 554) (.ref 264)
noncomputable abbrev CI:Bk:=fO "reading" "reading" A8 (sT "readgrove.readings" 554) (.ref 271)
noncomputable abbrev CJ:Bk:=fO "_law_cell" "_law_cell" A9 (sT "law_readgrove_k19_readings_told" 574) (.ref 278)
noncomputable abbrev CK:Bk:=fO "_law_stir" "_law_stir" BA (sT "law_readgrove_k19_readings_told" 574) (.ref 285)
noncomputable abbrev CL:Bk:=fO "_law_drawn" "_law_drawn" BC (sT "law_readgrove_k19_readings_told" 574) (.ref 292)
noncomputable abbrev CM:Bk:=fO "_law_grammar" "_law_grammar" BD (sT "law_readgrove_k19_readings_told" 574) (.ref 297)
noncomputable abbrev CN:Bk:=fO "_law_is_name" "_law_is_name" BE (sT "law_readgrove_k19_readings_told" 574) (.ref 304)
noncomputable abbrev CO:Bk:=fO "_law_row" "_law_row" BF (sT "law_readgrove_k19_readings_told" 574) (.ref 309)
noncomputable abbrev CP:Bk:=fO "_law_covers" "_law_covers" BG (sT "law_readgrove_k19_readings_told" 574) (.ref 314)
noncomputable abbrev CQ:Bk:=fO "_law_facts" "_law_facts" BH (sT "law_readgrove_k19_readings_told" 574) (.ref 321)
noncomputable abbrev CS:Bk:=fO "_law_many" "_law_many" BI (sT "law_readgrove_k19_readings_told" 574) (.ref 326)
noncomputable abbrev CT:Bk:=fO "_law_is_knot" "_law_is_knot" BJ (sT "law_readgrove_k19_readings_told" 574) (.ref 333)
noncomputable abbrev CU:Bk:=fO "_law_good" "_law_good" BK (sT "law_readgrove_k19_readings_told" 574) (.ref 340)
noncomputable abbrev qS:Bk:=fO "law" "law" BL (sT "law_readgrove_k19_readings_told" 574) (.ref 347)
noncomputable def hpK:Params->Ac:=fun P=>[(nat_lit 3,⟨(.type "dict"),none,.dict [en P "__name__" 165 (sT "law_readgrove_k19_readings_told" 574),en P "__doc__" 166 .none,en P "__package__" 167 .none,en P "__loader__" 168 (.builtin "__main__.__loader__#opaque"),en P "__spec__" 169 .none,en P "__annotations__" 170 (.ref 6),en P "__builtins__" 171 (.ref 4),en P "__file__" 173 (sT "/claim/cut.py" 172),en P "__cached__" 174 .none,en P "GroveError" 206 (.ref 24),en P "NoGrammar" 222 (.ref 37),en P "GREAT_LETTERS" 226 (sT "ABCDEFGHIJKLMNOPQRSTUVWXYZ" 225),en P "FIGURES" 228 (sT "0123456789" 227),en P "made_of" 234 (.ref 44),en P "is_name" 243 (.ref 51),en P "names" 252 (.ref 58),en P "first_name" 259 (.ref 65),en P "check_rule" 268 (.ref 72),en P "grammar_of" 277 (.ref 79),en P "marks" 285 (.ref 84),en P "places_of" 292 (.ref 91),en P "row_steps" 298 (.ref 96),en P "part_facts" 304 (.ref 101),en P "Queue" 372 (.ref 146),en P "added" 382 (.ref 157),en P "Search" 472 (.ref 202),en P "least_trees" 485 (.ref 213),en P "facts_within" 491 (.ref 218),en P "made_of_best" 510 (.ref 225),en P "same_word" 519 (.ref 232),en P "knot_of" 527 (.ref 239),en P "best_tree" 536 (.ref 246),en P "row_trees" 547 (.ref 253),en P "no_weights" 553 (.ref 258),en P "whole_fact" 563 (.ref 265),en P "reading" 573 (.ref 272),en P "_law_cell" 583 (.ref 279),en P "_law_stir" 592 (.ref 286),en P "_law_drawn" 604 (.ref 293),en P "_law_grammar" 610 (.ref 298),en P "_law_is_name" 617 (.ref 305),en P "_law_row" 623 (.ref 310),en P "_law_covers" 629 (.ref 315),en P "_law_facts" 644 (.ref 322),en P "_law_many" 650 (.ref 327),en P "_law_is_knot" 659 (.ref 334),en P "_law_good" 675 (.ref 341),en P "law" 688 (.ref 348)].toArray 48,#[]⟩),
 (nat_lit 23,⟨(.type "dict"),none,.dict [en P "__module__" 196 (sT "readgrove.errors" 187),en P "__firstlineno__" 200 (.int 2 199),en P "__static_attributes__" 201 (.ref 22),en P "__weakref__" 203 (.ref 25),en P "__doc__" 204 .none].toArray 3,#[]⟩),
 (nat_lit 24,⟨(.type "type"),none,.cls ⟨(Cs "GroveError"),[(.type "ValueError")],[(.ref 24),(.type "ValueError"),(.type "Exception"),(.type "BaseException"),(.type "object")],23,(Cs "GroveError"),true,[],[(.ref 37)],false,none,false⟩,#[some (.ref 15),none,some (sT "GroveError" 189),some (sT "GroveError" 197),some (.builtin "ValueError.__new__"),some (.bool true)]⟩),
 (nat_lit 36,⟨(.type "dict"),none,.dict [en P "__module__" 214 (sT "readgrove.errors" 187),en P "__firstlineno__" 218 (.int 4 217),en P "__static_attributes__" 219 (.ref 35),en P "__doc__" 220 .none].toArray 2,#[]⟩),
 (nat_lit 37,⟨(.type "type"),none,.cls ⟨(Cs "NoGrammar"),[(.ref 24)],[(.ref 37),(.ref 24),(.type "ValueError"),(.type "Exception"),(.type "BaseException"),(.type "object")],36,(Cs "NoGrammar"),true,[],[],false,none,false⟩,#[some (.ref 28),none,some (sT "NoGrammar" 207),some (sT "NoGrammar" 215),some (.builtin "ValueError.__new__"),some (.bool true)]⟩),
 (nat_lit 43,cO "made_of" 229 "made_of" 230 231 9 2 40 (.ref 41) .none .none .none (.ref 42) 232 233),
 (nat_lit 44,⟨(.type "function"),none,.func BM,#[]⟩),
 (nat_lit 50,cO "is_name" 235 "is_name" 236 237 11 1 45 (.ref 46) .none (.ref 47) (.ref 48) (.ref 49) 241 242),
 (nat_lit 51,⟨(.type "function"),none,.func BN,#[]⟩),
 (nat_lit 57,cO "names" 244 "names" 245 246 15 1 52 (.ref 53) .none (.ref 54) (.ref 55) (.ref 56) 250 251),
 (nat_lit 58,⟨(.type "function"),none,.func BO,#[]⟩),
 (nat_lit 64,cO "first_name" 253 "first_name" 254 255 20 1 59 (.ref 60) .none (.ref 61) (.ref 62) (.ref 63) 257 258),
 (nat_lit 65,⟨(.type "function"),none,.func BP,#[]⟩),
 (nat_lit 71,cO "check_rule" 260 "check_rule" 261 262 22 2 66 (.ref 67) .none (.ref 68) (.ref 69) (.ref 70) 266 267),
 (nat_lit 72,⟨(.type "function"),none,.func BQ,#[]⟩),
 (nat_lit 78,cO "grammar_of" 269 "grammar_of" 270 271 28 1 73 (.ref 74) .none (.ref 75) (.ref 76) (.ref 77) 275 276),
 (nat_lit 79,⟨(.type "function"),none,.func BR,#[]⟩),
 (nat_lit 83,cO "marks" 280 "marks" 281 282 36 1 80 (.ref 81) .none .none .none (.ref 82) 283 284),
 (nat_lit 84,⟨(.type "function"),none,.func BS,#[]⟩),
 (nat_lit 90,cO "places_of" 286 "places_of" 287 288 38 1 85 (.ref 86) .none (.ref 87) (.ref 88) (.ref 89) 290 291),
 (nat_lit 91,⟨(.type "function"),none,.func BU,#[]⟩),
 (nat_lit 95,cO "row_steps" 293 "row_steps" 294 295 40 1 92 (.ref 93) .none .none .none (.ref 94) 296 297),
 (nat_lit 96,⟨(.type "function"),none,.func BV,#[]⟩),
 (nat_lit 100,cO "part_facts" 299 "part_facts" 300 301 42 3 97 (.ref 98) .none .none .none (.ref 99) 302 303),
 (nat_lit 101,⟨(.type "function"),none,.func BW,#[]⟩),
 (nat_lit 114,cO "__init__" 319 "Queue.__init__" 320 321 47 1 109 (.ref 110) .none (.ref 111) (.ref 112) (.ref 113) 323 324),
 (nat_lit 115,⟨(.type "function"),none,.func BX,#[]⟩),
 (nat_lit 121,cO "is_done" 326 "Queue.is_done" 327 328 51 1 116 (.ref 117) .none (.ref 118) (.ref 119) (.ref 120) 330 331),
 (nat_lit 122,⟨(.type "function"),none,.func BY,#[]⟩),
 (nat_lit 128,cO "put" 333 "Queue.put" 334 335 54 3 123 (.ref 124) .none (.ref 125) (.ref 126) (.ref 127) 339 340),
 (nat_lit 129,⟨(.type "function"),none,.func BZ,#[]⟩),
 (nat_lit 135,cO "place_of" 342 "Queue.place_of" 343 344 60 2 130 (.ref 131) .none (.ref 132) (.ref 133) (.ref 134) 350 351),
 (nat_lit 136,⟨(.type "function"),none,.func B0,#[]⟩),
 (nat_lit 142,cO "take" 353 "Queue.take" 354 355 71 1 137 (.ref 138) .none (.ref 139) (.ref 140) (.ref 141) 360 361),
 (nat_lit 143,⟨(.type "function"),none,.func B1,#[]⟩),
 (nat_lit 145,⟨(.type "dict"),none,.dict [en P "__module__" 314 (sT "readgrove.queues" 305),en P "__firstlineno__" 318 (.int 45 317),en P "__init__" 325 (.ref 115),en P "is_done" 332 (.ref 122),en P "put" 341 (.ref 129),en P "place_of" 352 (.ref 136),en P "take" 362 (.ref 143),en P "__static_attributes__" 365 (.ref 144),en P "__dict__" 367 (.ref 147),en P "__weakref__" 369 (.ref 148),en P "__doc__" 370 .none].toArray 4,#[]⟩),
 (nat_lit 146,⟨(.type "type"),none,.cls ⟨(Cs "Queue"),[(.type "object")],[(.ref 146),(.type "object")],145,(Cs "Queue"),true,[],[],false,none,false⟩,#[none,none,some (sT "Queue" 307),some (sT "Queue" 315),some (.builtin "object.__new__"),some (.bool true)]⟩),
 (nat_lit 156,cO "added" 375 "added" 376 377 80 2 151 (.ref 152) .none (.ref 153) (.ref 154) (.ref 155) 380 381),
 (nat_lit 157,⟨(.type "function"),none,.func B2,#[]⟩),
 (nat_lit 170,cO "__init__" 395 "Search.__init__" 396 397 84 3 165 (.ref 166) .none (.ref 167) (.ref 168) (.ref 169) 401 402),
 (nat_lit 171,⟨(.type "function"),none,.func B3,#[]⟩),
 (nat_lit 177,cO "reach" 404 "Search.reach" 405 406 94 4 172 (.ref 173) .none (.ref 174) (.ref 175) (.ref 176) 412 413),
 (nat_lit 178,⟨(.type "function"),none,.func B4,#[]⟩),
 (nat_lit 184,cO "take_next" 415 "Search.take_next" 416 417 100 1 179 (.ref 180) .none (.ref 181) (.ref 182) (.ref 183) 426 427),
 (nat_lit 185,⟨(.type "function"),none,.func B5,#[]⟩),
 (nat_lit 191,cO "step_by_name" 429 "Search.step_by_name" 430 431 116 5 186 (.ref 187) .none (.ref 188) (.ref 189) (.ref 190) 439 440),
 (nat_lit 192,⟨(.type "function"),none,.func B6,#[]⟩),
 (nat_lit 198,cO "settle" 442 "Search.settle" 443 444 121 4 193 (.ref 194) .none (.ref 195) (.ref 196) (.ref 197) 454 455),
 (nat_lit 199,⟨(.type "function"),none,.func B7,#[]⟩),
 (nat_lit 201,⟨(.type "dict"),none,.dict [en P "__module__" 390 (sT "readgrove.leasts" 373),en P "__firstlineno__" 394 (.int 82 393),en P "__init__" 403 (.ref 171),en P "reach" 414 (.ref 178),en P "take_next" 428 (.ref 185),en P "step_by_name" 441 (.ref 192),en P "settle" 456 (.ref 199),en P "__static_attributes__" 465 (.ref 200),en P "__dict__" 467 (.ref 203),en P "__weakref__" 469 (.ref 204),en P "__doc__" 470 .none].toArray 4,#[]⟩),
 (nat_lit 202,⟨(.type "type"),none,.cls ⟨(Cs "Search"),[(.type "object")],[(.ref 202),(.type "object")],201,(Cs "Search"),true,[],[],false,none,false⟩,#[none,none,some (sT "Search" 383),some (sT "Search" 391),some (.builtin "object.__new__"),some (.bool true)]⟩),
 (nat_lit 212,cO "least_trees" 473 "least_trees" 474 475 130 4 207 (.ref 208) .none (.ref 209) (.ref 210) (.ref 211) 483 484),
 (nat_lit 213,⟨(.type "function"),none,.func B8,#[]⟩),
 (nat_lit 217,cO "facts_within" 486 "facts_within" 487 488 138 3 214 (.ref 215) .none .none .none (.ref 216) 489 490),
 (nat_lit 218,⟨(.type "function"),none,.func B9,#[]⟩),
 (nat_lit 224,cO "made_of_best" 492 "made_of_best" 493 494 149 5 219 (.ref 220) .none (.ref 221) (.ref 222) (.ref 223) 508 509),
 (nat_lit 225,⟨(.type "function"),none,.func CA,#[]⟩),
 (nat_lit 231,cO "same_word" 511 "same_word" 512 513 163 3 226 (.ref 227) .none (.ref 228) (.ref 229) (.ref 230) 517 518),
 (nat_lit 232,⟨(.type "function"),none,.func CB,#[]⟩),
 (nat_lit 238,cO "knot_of" 520 "knot_of" 521 522 165 2 233 (.ref 234) .none (.ref 235) (.ref 236) (.ref 237) 525 526),
 (nat_lit 239,⟨(.type "function"),none,.func CC,#[]⟩),
 (nat_lit 245,cO "best_tree" 528 "best_tree" 529 530 167 3 240 (.ref 241) .none (.ref 242) (.ref 243) (.ref 244) 534 535),
 (nat_lit 246,⟨(.type "function"),none,.func CD,#[]⟩),
 (nat_lit 252,cO "row_trees" 539 "row_trees" 540 541 170 3 247 (.ref 248) .none (.ref 249) (.ref 250) (.ref 251) 545 546),
 (nat_lit 253,⟨(.type "function"),none,.func CF,#[]⟩),
 (nat_lit 257,cO "no_weights" 548 "no_weights" 549 550 172 1 254 (.ref 255) .none .none .none (.ref 256) 551 552),
 (nat_lit 258,⟨(.type "function"),none,.func CG,#[]⟩),
 (nat_lit 264,cO "whole_fact" 556 "whole_fact" 557 558 175 2 259 (.ref 260) .none (.ref 261) (.ref 262) (.ref 263) 561 562),
 (nat_lit 265,⟨(.type "function"),none,.func CH,#[]⟩),
 (nat_lit 271,cO "reading" 564 "reading" 565 566 177 2 266 (.ref 267) .none (.ref 268) (.ref 269) (.ref 270) 571 572),
 (nat_lit 272,⟨(.type "function"),none,.func CI,#[]⟩),
 (nat_lit 278,cO "_law_cell" 576 "_law_cell" 577 578 182 2 273 (.ref 274) .none (.ref 275) (.ref 276) (.ref 277) 581 582),
 (nat_lit 279,⟨(.type "function"),none,.func CJ,#[]⟩),
 (nat_lit 285,cO "_law_stir" 584 "_law_stir" 585 586 186 2 280 (.ref 281) .none (.ref 282) (.ref 283) (.ref 284) 590 591),
 (nat_lit 286,⟨(.type "function"),none,.func CK,#[]⟩),
 (nat_lit 292,cO "_law_drawn" 593 "_law_drawn" 594 595 191 2 287 (.ref 288) .none (.ref 289) (.ref 290) (.ref 291) 602 603),
 (nat_lit 293,⟨(.type "function"),none,.func CL,#[]⟩),
 (nat_lit 297,cO "_law_grammar" 605 "_law_grammar" 606 607 201 1 294 (.ref 295) .none .none .none (.ref 296) 608 609),
 (nat_lit 298,⟨(.type "function"),none,.func CM,#[]⟩),
 (nat_lit 304,cO "_law_is_name" 611 "_law_is_name" 612 613 216 1 299 (.ref 300) .none (.ref 301) (.ref 302) (.ref 303) 615 616),
 (nat_lit 305,⟨(.type "function"),none,.func CN,#[]⟩),
 (nat_lit 309,cO "_law_row" 618 "_law_row" 619 620 218 3 306 (.ref 307) .none .none .none (.ref 308) 621 622),
 (nat_lit 310,⟨(.type "function"),none,.func CO,#[]⟩),
 (nat_lit 314,cO "_law_covers" 624 "_law_covers" 625 626 231 5 311 (.ref 312) .none .none .none (.ref 313) 627 628),
 (nat_lit 315,⟨(.type "function"),none,.func CP,#[]⟩),
 (nat_lit 321,cO "_law_facts" 630 "_law_facts" 631 632 242 2 316 (.ref 317) .none (.ref 318) (.ref 319) (.ref 320) 642 643),
 (nat_lit 322,⟨(.type "function"),none,.func CQ,#[]⟩),
 (nat_lit 326,cO "_law_many" 645 "_law_many" 646 647 254 1 323 (.ref 324) .none .none .none (.ref 325) 648 649),
 (nat_lit 327,⟨(.type "function"),none,.func CS,#[]⟩),
 (nat_lit 333,cO "_law_is_knot" 651 "_law_is_knot" 652 653 258 3 328 (.ref 329) .none (.ref 330) (.ref 331) (.ref 332) 657 658),
 (nat_lit 334,⟨(.type "function"),none,.func CT,#[]⟩),
 (nat_lit 340,cO "_law_good" 660 "_law_good" 661 662 264 6 335 (.ref 336) .none (.ref 337) (.ref 338) (.ref 339) 673 674),
 (nat_lit 341,⟨(.type "function"),none,.func CU,#[]⟩),
 (nat_lit 347,cO "law" 676 "law" 677 678 281 1 342 (.ref 343) .none (.ref 344) (.ref 345) (.ref 346) 686 687),
 (nat_lit 348,⟨(.type "function"),none,.func qS,#[]⟩)]
noncomputable def KQ:List Addr:=[nat_lit 3,nat_lit 23,nat_lit 24,nat_lit 36,nat_lit 37,nat_lit 43,nat_lit 44,nat_lit 50,nat_lit 51,nat_lit 57,nat_lit 58,nat_lit 64,nat_lit 65,nat_lit 71,nat_lit 72,nat_lit 78,nat_lit 79,nat_lit 83,nat_lit 84,nat_lit 90,nat_lit 91,nat_lit 95,nat_lit 96,nat_lit 100,nat_lit 101,nat_lit 114,nat_lit 115,nat_lit 121,nat_lit 122,nat_lit 128,nat_lit 129,nat_lit 135,nat_lit 136,nat_lit 142,nat_lit 143,nat_lit 145,nat_lit 146,nat_lit 156,nat_lit 157,nat_lit 170,nat_lit 171,nat_lit 177,nat_lit 178,nat_lit 184,nat_lit 185,nat_lit 191,nat_lit 192,nat_lit 198,nat_lit 199,nat_lit 201,nat_lit 202,nat_lit 212,nat_lit 213,nat_lit 217,nat_lit 218,nat_lit 224,nat_lit 225,nat_lit 231,nat_lit 232,nat_lit 238,nat_lit 239,nat_lit 245,nat_lit 246,nat_lit 252,nat_lit 253,nat_lit 257,nat_lit 258,nat_lit 264,nat_lit 265,nat_lit 271,nat_lit 272,nat_lit 278,nat_lit 279,nat_lit 285,nat_lit 286,nat_lit 292,nat_lit 293,nat_lit 297,nat_lit 298,nat_lit 304,nat_lit 305,nat_lit 309,nat_lit 310,nat_lit 314,nat_lit 315,nat_lit 321,nat_lit 322,nat_lit 326,nat_lit 327,nat_lit 333,nat_lit 334,nat_lit 340,nat_lit 341,nat_lit 347,nat_lit 348]
noncomputable def qv:Bo:={PySem.Challenge.pw_readgrove_k19_readings_told with main:={PySem.Challenge.pw_readgrove_k19_readings_told.main with body:=[aP 1,aP 2,aP 4,aP 5,aP 6,aP 7,aP 8,aP 9,aP 10,aP 11,aP 13,aP 14,aP 15,aP 16,aP 18,aP 20,aP 21,aP 22,aP 23,aP 24,aP 25,aP 26,aP 27,aP 29,aP 30,aP 32,aP 33,aP 35,aP 36,aP 37,aP 38,aP 39,aP 40,aP 41,aP 42,aP 43,aP 44,aP 45,aP 46]}}
noncomputable def hk:PySem.W.Hook:=PySem.W.kHook hpK KQ (fun _=>by kernel_rfl)
set_option maxHeartbeats 0 in
open PySem.W in
theorem KR:LeftO PySem.Challenge.rw_readgrove_k19_readings_told.row.prog qv [] (fun s=>xlAt qv [] s && recOk (RowW.records (OpenRow.toRowW PySem.Challenge.rw_readgrove_k19_readings_told.row)) s) hk.obs hk.val 4568:=by intro w;kernel_rfl
end Rg
namespace L2
open PySem PySem.Spec PyProof.Rows
abbrev aE:=Sum Int Str
def l8:aE->Ae->Bool
 | .inl k,v=>Value.isInt k v
 | .inr x,v=>Value.isStrOf x v
def KU(w:Ce):aE->Int
 | .inl k=>hashInt k
 | .inr x=>hashStr w x
theorem jK:∀ {k:aE} {v:Ae},l8 k v=true->(∃ i t,k=Sum.inl i/\v=Value.int i t)\/(∃ x t,k=Sum.inr x/\v=Value.str x t)
 | .inl i,v,h=>by
  obtain⟨t,e⟩:=Value.isInt_shape (k:=i) (v:=v) h
  exact .inl ⟨i,t,rfl,e⟩
 | .inr x,v,h=>by
  obtain⟨t,e⟩:=Value.isStrOf_shape (x:=x) (v:=v) h
  exact .inr ⟨x,t,rfl,e⟩
theorem KW(i:Int)(t:Tok):l8 (.inl i) (.int i t)=true:=by simp[l8,Value.isInt]
theorem KY(x:Str)(t:Tok):l8 (.inr x) (.str x t)=true:=by simp[l8,Value.isStrOf]
theorem KZ(a b:Int):decide ((Sum.inl a:aE)=Sum.inl b)=(a == b):=by
 by_cases e:a=b
 ·subst e;simp
 ·have h:¬ (Sum.inl a:aE)=Sum.inl b:=fun q=>e (Sum.inl.inj q)
  rw[decide_eq_false h]
  exact(beq_eq_false_iff_ne.mpr e).symm
theorem K0(a b:Str):decide ((Sum.inr a:aE)=Sum.inr b)=decide (a=b):=by
 by_cases e:a=b
 ·subst e;simp
 ·have h:¬ (Sum.inr a:aE)=Sum.inr b:=fun q=>e (Sum.inr.inj q)
  rw[decide_eq_false h,decide_eq_false e]
theorem K1(a:Int)(b:Str):decide ((Sum.inl a:aE)=Sum.inr b)=false:=decide_eq_false (fun q=>nomatch q)
theorem K2(a:Str)(b:Int):decide ((Sum.inr a:aE)=Sum.inl b)=false:=decide_eq_false (fun q=>nomatch q)
def dO(prog:Bo)(w:Ce):PySem.KeyKind prog w aE where
 is:=l8
 hash:=KU w
 inj:=fun v a b ha hb=>by
  rcases jK ha with⟨i,t,rfl,rfl⟩ | ⟨x,t,rfl,rfl⟩
  ·rcases jK hb with⟨j,u,rfl,e⟩ | ⟨y,u,rfl,e⟩
   ·injection e with e1 _;rw[e1]
   ·exact nomatch e
  ·rcases jK hb with⟨j,u,rfl,e⟩ | ⟨y,u,rfl,e⟩
   ·exact nomatch e
   ·injection e with e1 _;rw[e1]
 byValue:=fun k v h=>by
  rcases jK h with⟨i,t,rfl,rfl⟩ | ⟨x,t,rfl,rfl⟩ <;> rfl
 pyHash:=fun hv h=>by
  rcases jK hv with⟨i,t,rfl,rfl⟩ | ⟨x,t,rfl,rfl⟩
  ·exact wpAny_pyHash_int h
  ·exact wpAny_pyHash_str h
 eqBool:=fun hu hv h=>by
  rcases jK hu with⟨i,t,rfl,rfl⟩ | ⟨x,t,rfl,rfl⟩
  ·rcases jK hv with⟨j,u,rfl,rfl⟩ | ⟨y,u,rfl,rfl⟩
   ·rw[KZ] at h;exact Km h
   ·rw[K1] at h;exact SeqAt.EqAt.int_str i t y u _ _ _ _ h
  ·rcases jK hv with⟨j,u,rfl,rfl⟩ | ⟨y,u,rfl,rfl⟩
   ·rw[K2] at h;exact SeqAt.EqAt.str_int x t j u _ _ _ _ h
   ·rw[K0] at h;exact wpAny_eqBool_str h
 «strs»:=fun k x t v h=>by
  rcases jK h with⟨i,u,rfl,e⟩ | ⟨y,u,rfl,e⟩
  ·exact nomatch e
  ·injection e with e1 _
   subst e1
   cases v <;> rfl
theorem K5(prog:Bo)(w:Ce)(i:Int)(t:Tok):(dO prog w).is (.inl i) (.int i t)=true:=KW i t
theorem K6(prog:Bo)(w:Ce)(x:Str)(t:Tok):(dO prog w).is (.inr x) (.str x t)=true:=KY x t
inductive V where
 | non | bl (b:Bool) | int (i:Int) | str (x:Str) | byt (b:Array UInt8) | flt (b:UInt64) | ref (a:Addr) | ty (n:String)
 deriving DecidableEq
def RelV:V->Ae->Prop
 | .non,u=>u=Value.none
 | .bl b,u=>u=Value.bool b
 | .int i,u=>∃ t,u=Value.int i t
 | .str x,u=>∃ t,u=Value.str x t
 | .byt b,u=>∃ t,u=Value.bytes b t
 | .flt b,u=>∃ t,u=Value.float b t
 | .ref a,u=>u=Value.ref a
 | .ty n,u=>u=Value.type n
abbrev aZ:List V->List Ae->Prop:=Gr RelV
theorem aZ.length{xs:List V}{us:List Ae}(r:aZ xs us):xs.length=us.length:=Ee r
theorem aZ.get:∀ {xs:List V} {us:List Ae} {i:Nat} {x:V},aZ xs us->xs[i]? = some x->∃ u,us[i]? = some u/\RelV x u
 | _,_,_,_,.nil,e=>by simp at e
 | _,_,0,_,.cons r _,e=>by simp at e;subst e;exact⟨_,rfl,r⟩
 | _,_,i + 1,x,.cons _ t,e=>by
  obtain⟨u,h1,h2⟩:=aZ.get (i:=i) (x:=x) t (by simpa using e)
  exact⟨u,by simpa using h1,h2⟩
theorem aZ.set{x:V}{u:Ae}(r:RelV x u):∀ {xs:List V} {us:List Ae} (i:Nat),aZ xs us->aZ (xs.set i x) (us.set i u)
 | _,_,_,.nil=>.nil
 | _,_,0,.cons _ t=>.cons r t
 | _,_,i + 1,.cons q t=>.cons q (aZ.set r i t)
theorem aZ.append:∀ {xs ys:List V} {us ws:List Ae},aZ xs us->aZ ys ws->aZ (xs ++ ys) (us ++ ws)
 | _,_,_,_,.nil,s=>s
 | _,_,_,_,.cons r t,s=>.cons r (aZ.append t s)
theorem aZ.take:∀ {xs:List V} {us:List Ae} (n:Nat),aZ xs us->aZ (xs.take n) (us.take n)
 | _,_,0,_=>.nil
 | _,_,_ + 1,.nil=>.nil
 | _,_,n + 1,.cons r t=>.cons r (aZ.take n t)
theorem aZ.drop:∀ {xs:List V} {us:List Ae} (n:Nat),aZ xs us->aZ (xs.drop n) (us.drop n)
 | _,_,0,r=>r
 | _,_,_ + 1,.nil=>.nil
 | _,_,n + 1,.cons _ t=>aZ.drop n t
def fB:Option V->Option Ae->Prop
 | some v,some u=>RelV v u
 | none,none=>True
 | _,_=>False
def KV{κ:Type}:List (κ×V)->List (κ×Ae)->Prop:=Gr fun(p:κ×V) (q:κ×Ae)=>p.1=q.1/\RelV p.2 q.2
def kV:aE->V
 | .inl i=>.int i
 | .inr x=>.str x
inductive HO where
 | lst (xs:List V)
 | tup (xs:List V)
 | dK (kvs:List (aE×V)) | dT (kvs:List (List aE×V))
 | set (S:Int->Bool) (n:Nat)
 | ins (C dx:Addr) (fs:List (Str×V))
 | own (x:Addr)
 | xd (fs:List (Str×V))
 | met (f x:Addr)
 | rng (lo hi:Int)
 | frz (o:Obj) (u:HO)
 | tbl (ps:Array Ae)
 | ext (φ:Heap->Prop)
abbrev Hp:=Addr->Option HO
def aQ(H:Hp)(a:Addr)(o:HO):Hp:=fun b=>if b=a then some o else H b
theorem cU{H:Hp}{a:Addr}{o:HO}:aQ H a o a=some o:=by unfold aQ;rw[if_pos rfl]
theorem bH{H:Hp}{a b:Addr}{o:HO}(h:b≠a):aQ H a o b=H b:=by unfold aQ;rw[if_neg h]
theorem qT{H:Hp}{a b:Addr}{o u:HO}(h:H a=some o)(h':H b=some u)(d:o≠u):a≠b:=by
 intro e;subst e;rw[h] at h';exact d (Cr h')
theorem d7{H:Hp}{a b:Addr}{o:HO}(h:H a=some o)(h':H b=none):a≠b:=by
 intro e;subst e;rw[h] at h';cases h'
section
variable (P:Bo)(w:Ce)
def cN(H:Hp)(h:Heap)(a:Addr):HO->Prop
 | .lst xs=>xs.length<=Am/\∃ (its:List Ae) (n:Nat),aZ xs its/\h.get? a=some {cls:=.type "list",data:=.seq its.toArray n}
 | .tup xs=>xs.length<=Am/\∃ its:List Ae,aZ xs its/\IsTup h a its.toArray
 | .dK kvs=>kvs.length<=Am/\(a == Gb)=false/\∃ vs,KV kvs vs/\h.DictOf (dO P w) a vs
 | .dT kvs=>kvs.length<=Am/\(a == Gb)=false/\∃ xs:List (List aE×Addr×Ae),
   Gr (fun(p:List aE×V) (q:List aE×Addr×Ae)=>p.1=q.1/\H q.2.1=some (.tup (p.1.map kV))/\RelV p.2 q.2.2) kvs xs/\
   ∃ o es ep,h.get? a=some o/\o.ExactDict/\o.data=.dict es ep/\es.toList=xs.map (entryOfKey (Fy (dO P w)))/\(xs.map (·.1)).Nodup
 | .set S n=>h.SetOf (Ed P w) a S n
 | .ins C dx fs=>H dx=some (.own a)/\fs.length<=1000/\dx≠a/\h.get? a=some (Gm C dx)/\
   ∃ mA,h.Ns1 dx mA/\(∀ f,fB (fs.lookup f) (mA f))/\PySem.Within mA (fs.map (·.1))
 | .own _=>∃ o,h.get? a=some o
 | .xd fs=>∃ mA,h.Ns1 a mA/\∀ f,fB (fs.lookup f) (mA f)
 | .rng lo hi=>∃ t u v,h.get? a=some {cls:=.type "range",data:=.fields #[.int lo t,.int hi u,.int 1 v]}
 | .frz o u=>h.get? a=some o/\cN H h a u
 | .tbl ps=>h.get? a=some {cls:=.none,data:=.fields ps}
 | .met f x=>h.get? a=some (PySem.W.methodObj (.ref f) (.ref x))
 | .ext φ=>φ h/\(∃ o,h.get? a=some o)/\∀ h1 h2:Heap,φ h1->(∀ o,h1.get? a=some o->h2.get? a=some o)->φ h2
def cR(H:Hp)(h:Heap):Prop:=∀ a o,H a=some o->cN P w H h a o
end
section
variable {P:Bo}{w:Ce}{H H':Hp}{h h':Heap}{a:Addr}{o:HO}
theorem cN.lt(x:cN P w H h a o):a < h.objs.size:=by
 cases o with
 | lst xs=>obtain⟨_,_,_,_,e⟩:=x;exact Ap e
 | tup xs=>obtain⟨_,_,_,p⟩:=x;exact p.lt
 | dK kvs=>obtain⟨_,_,_,_,o,_,_,e,_⟩:=x;exact Ap e
 | dT kvs=>obtain⟨_,_,_,_,o,_,_,e,_⟩:=x;exact Ap e
 | set S n=>obtain⟨o,_,_,_,e,_⟩:=x;exact Ap e
 | ins C dx fs=>obtain⟨_,_,_,e,_⟩:=x;exact Ap e
 | own y=>obtain⟨_,e⟩:=x;exact Ap e
 | xd fs=>obtain⟨_,⟨_,_,_,e,_⟩,_⟩:=x;exact Ap e
 | rng lo hi=>obtain⟨_,_,_,e⟩:=x;exact Ap e
 | frz ob u=>obtain⟨e,_⟩:=x;exact Ap e
 | tbl ps=>exact Ap (show h.get? a=some _ from x)
 | met f y=>exact Ap (show h.get? a=some _ from x)
 | ext φ=>obtain⟨_,⟨_,e⟩,_⟩:=x;exact Ap e
theorem Paired.mapP{α β:Type}{F G:α->β->Prop}:∀ {l₁:List α} {l₂:List β},Gr F l₁ l₂->(∀ a b,F a b->G a b)->Gr G l₁ l₂
 | _,_,.nil,_=>.nil
 | _,_,.cons r t,f=>.cons (f _ _ r) (Paired.mapP t f)
theorem cN.stay(x:cN P w H h a o)(k:∀ b u,(b=a\/H b=some (.own a))->h.get? b=some u->h'.get? b=some u)
  (ho:∀ b,H b=some (.own a)->H' b=some (.own a)) (ht:∀ b xs,H b=some (.tup xs)->H' b=some (.tup xs)):cN P w H' h' a o:=by
 induction o with
 | lst xs=>obtain⟨z,its,n,r,e⟩:=x;exact⟨z,its,n,r,k _ _ (.inl rfl) e⟩
 | tup xs=>obtain⟨z,its,r,ob,e,c⟩:=x;exact⟨z,its,r,ob,k _ _ (.inl rfl) e,c⟩
 | dK kvs=>obtain⟨z,y,vs,r,ob,es,ep,e,c⟩:=x;exact⟨z,y,vs,r,ob,es,ep,k _ _ (.inl rfl) e,c⟩
 | dT kvs=>
  obtain⟨z,y,xs,r,ob,es,ep,e,c⟩:=x
  exact⟨z,y,xs,Paired.mapP r fun p q z=>⟨z.1,ht _ _ z.2.1,z.2.2⟩,ob,es,ep,k _ _ (.inl rfl) e,c⟩
 | set S n=>obtain⟨ob,es,ep,t,e,c⟩:=x;exact⟨ob,es,ep,t,k _ _ (.inl rfl) e,c⟩
 | ins C dx fs=>
  obtain⟨d,z,ne,e,mA,⟨od,es,ep,e2,c⟩,r⟩:=x
  exact⟨ho _ d,z,ne,k _ _ (.inl rfl) e,mA,⟨od,es,ep,k _ _ (.inr d) e2,c⟩,r⟩
 | own y=>obtain⟨ob,e⟩:=x;exact⟨ob,k _ _ (.inl rfl) e⟩
 | xd fs=>obtain⟨mA,⟨od,es,ep,e,c⟩,r⟩:=x;exact⟨mA,⟨od,es,ep,k _ _ (.inl rfl) e,c⟩,r⟩
 | rng lo hi=>obtain⟨t,u,v,e⟩:=x;exact⟨t,u,v,k _ _ (.inl rfl) e⟩
 | frz ob u ih=>obtain⟨e,q⟩:=x;exact⟨k _ _ (.inl rfl) e,ih q⟩
 | tbl ps=>
  have e:h.get? a=some {cls:=.none,data:=.fields ps}:=x
  show h'.get? a=some {cls:=.none,data:=.fields ps}
  exact k a _ (.inl rfl) e
 | met f y=>
  have e:h.get? a=some (PySem.W.methodObj (.ref f) (.ref y)):=x
  show h'.get? a=some (PySem.W.methodObj (.ref f) (.ref y))
  exact k a _ (.inl rfl) e
 | ext φ=>obtain⟨p,⟨o,e⟩,st⟩:=x;exact⟨st _ _ p fun o q=>k _ _ (.inl rfl) q,⟨o,k _ _ (.inl rfl) e⟩,st⟩
theorem cR.lt(x:cR P w H h)(e:H a=some o):a < h.objs.size:=(x a o e).lt
theorem cR.fresh(x:cR P w H h)(e:h.objs.size<=a):H a=none:=by
 cases q:H a with
 | none=>rfl
 | some u=>exact absurd (Bq (x.lt q) e) (Gv _)
theorem cR.kept(x:cR P w H h)(k:∀ b u,h.get? b=some u->h'.get? b=some u):cR P w H h':=fun a o e=>
 (x a o e).stay (fun b u _ q=>k b u q) (fun _ q=>q) fun _ _ q=>q
theorem cR.laid(x:cR P w H h)(k:∀ b u,h.get? b=some u->h'.get? b=some u)(hp:h.objs.size<=a)(new:cN P w (aQ H a o) h' a o):cR P w (aQ H a o) h':=fun b u e=>by
 have hn:=x.fresh hp
 by_cases hb:b=a
 ·subst hb;rw[cU] at e;cases e;exact new
 ·rw[bH hb] at e
  exact(x b u e).stay (fun c v _ q=>k c v q) (fun c q=>by rw[bH (d7 q hn)];exact q) fun c xs q=>by rw[bH (d7 q hn)];exact q
end
def Rd(H:Hp)(a:Addr)(u:HO):Prop:=H a=some u\/∃ o,H a=some (.frz o u)
theorem Rd.ok{P:Bo}{w:Ce}{H:Hp}{h:Heap}{a:Addr}{u:HO}(r:Rd H a u)(x:cR P w H h):cN P w H h a u:=by
 rcases r with r | ⟨o,r⟩
 ·exact x a u r
 ·obtain⟨_,q⟩:=x a _ r
  exact q
def oP:Option HO->Prop
 | some (.lst _)=>True
 | some (.dK _)=>True
 | some (.dT _)=>True
 | some (.set _ _)=>True
 | some (.ins _ _ _)=>True
 | some (.ext _)=>True
 | _=>False
section
variable {P:Bo}{w:Ce}{H:Hp}{h h':Heap}{x e:Addr}{o':HO}
theorem cR.write(ok:cR P w H h)(mu:oP (H x))(he:e=x\/H e=some (.own x))(k:∀ b u,b≠e->h.get? b=some u->h'.get? b=some u)(heo:∃ u,h'.get? e=some u)
  (new:cN P w (aQ H x o') h' x o'):cR P w (aQ H x o') h':=fun b u q=>by
 have nown:∀ c y,H c=some (.own y)->c≠x:=fun c y r z=>by subst z;rw[r] at mu;exact mu
 have ntup:∀ c xs,H c=some (.tup xs)->c≠x:=fun c xs r z=>by subst z;rw[r] at mu;exact mu
 by_cases hb:b=x
 ·subst hb;rw[cU] at q;cases q;exact new
 ·rw[bH hb] at q
  by_cases hbe:b=e
  ·have q':H b=some (.own x):=by
    rcases he with z | z
    ·exact absurd (hbe.trans z) hb
    ·rw[hbe];exact z
   rw[q] at q';cases q'
   obtain⟨v,hv⟩:=heo
   exact⟨v,by rw[hbe];exact hv⟩
  ·refine(ok b u q).stay (fun c v hc r=>k c v ?_ r) (fun c r=>by rw[bH (nown c b r)];exact r) fun c xs r=>by rw[bH (ntup c xs r)];exact r
   rcases hc with rfl | hc
   ·exact hbe
   ·rintro rfl
    rcases he with z | z
    ·exact nown c b hc z
    ·rw[hc] at z;cases z;exact hb rfl
end
structure Un(fs ex:List Addr)(H H':Hp)(h h':Heap):Prop where
 keep:∀ b o,h.get? b=some o->H b=none->b∉fs->b∉ex->h'.get? b=some o
 slot:∀ b o,h.get? b=some o->H b=none->b∈fs->b∉ex->∃ sl,h'.get? b=some {o with slots:=sl}
 free:∀ b o,h.get? b=some o->H b=none->b∉ex->H' b=none
 there:∀ b o,h.get? b=some o->b∉ex->∃ o',h'.get? b=some o'
 tups:∀ b xs,H b=some (.tup xs)->H' b=some (.tup xs)
 frzs:∀ b o u,H b=some (.frz o u)->H' b=some (.frz o u)
 tbls:∀ b ps,H b=some (.tbl ps)->∃ more,H' b=some (.tbl (ps ++ more))
section
variable {fs fs' ex ex':List Addr}{H H1 H2:Hp}{h h1 h2 h':Heap}{a x e:Addr}{o:HO}
theorem Un.any(u:Un fs ex H H1 h h1){b:Addr}{ob:Obj}(q:h.get? b=some ob)(n:H b=none)(hx:b∉ex):∃ sl,h1.get? b=some {ob with slots:=sl}:=by
 by_cases hb:b∈fs
 ·exact u.slot b ob q n hb hx
 ·exact⟨ob.slots,u.keep b ob q n hb hx⟩
theorem Un.kept(k:∀ b u,h.get? b=some u->h'.get? b=some u):Un fs ex H H h h':=
 ⟨fun b ob q _ _ _=>k b ob q,fun b ob q _ _ _=>⟨ob.slots,k b ob q⟩,fun _ _ _ n _=>n,fun b ob q _=>⟨ob,k b ob q⟩,fun _ _ q=>q,fun _ _ _ q=>q,fun _ ps q=>⟨#[],by rw[q];simp⟩⟩
theorem Un.refl:Un fs ex H H h h:=Un.kept fun _ _ q=>q
theorem Un.laid(k:∀ b u,h.get? b=some u->h'.get? b=some u)(hp:h.objs.size<=a)(hn:H a=none):Un fs ex H (aQ H a o) h h' where
 keep:=fun b u q _ _ _=>k b u q
 slot:=fun b u q _ _ _=>⟨u.slots,k b u q⟩
 free:=fun b u q n _=>by rw[bH (Be (Bq (Ap q) hp))];exact n
 there:=fun b u q _=>⟨u,k b u q⟩
 tups:=fun b xs q=>by rw[bH (d7 q hn)];exact q
 frzs:=fun b u xs q=>by rw[bH (d7 q hn)];exact q
 tbls:=fun b ps q=>⟨#[],by rw[bH (d7 q hn),q];simp⟩
theorem Un.write(mu:oP (H x))(he:e=x\/H e=some (.own x))(k:∀ b u,b≠e->h.get? b=some u->h'.get? b=some u)(heo:∃ u,h'.get? e=some u):Un fs ex H (aQ H x o) h h':=by
 have hx:∀ b,H b=none->b≠x:=fun b n z=>by subst z;rw[n] at mu;exact mu
 have hb:∀ b,H b=none->b≠e:=fun b n z=>by
  subst z
  rcases he with r | r
  ·exact hx b n r
  ·rw[n] at r;cases r
 have hm:∀ b u,H b=some u->¬ oP (some u)->b≠x:=fun b u q nm z=>by subst z;rw[q] at mu;exact nm mu
 refine⟨fun b u q n _ _=>k b u (hb b n) q,fun b u q n _ _=>⟨u.slots,k b u (hb b n) q⟩,fun b u q n _=>by rw[bH (hx b n)];exact n,fun b u q _=>?_,
  fun b xs q=>by rw[bH (hm b _ q fun z=>z)];exact q,fun b u xs q=>by rw[bH (hm b _ q fun z=>z)];exact q,fun b ps q=>⟨#[],by rw[bH (hm b _ q fun z=>z),q];simp⟩⟩
 by_cases hbe:b=e
 ·subst hbe;exact heo
 ·exact⟨u,k b u hbe q⟩
end
def qU(h:Heap)(H:Hp):List Addr:=(Bu h.objs.size).filter fun a=>(H a).isSome
def j9(h:Heap)(H:Hp):Heap:=PySem.W.hideAll h (qU h H)
theorem K7(h:Heap)(H:Hp):(j9 h H).objs.size=h.objs.size:=PySem.W.hideAll_size _ _
theorem K8{h:Heap}{H:Hp}{b:Addr}{o:Obj}(e:h.get? b=some o)(n:H b=none):(j9 h H).get? b=some o:=
 PySem.W.hideAll_get _ e fun hm=>by
  have q:(H b).isSome=true:=(Cv.mp hm).2
  rw[n] at q;simp at q
theorem K9{h:Heap}{H:Hp}{b:Addr}{o:Obj}(e:(j9 h H).get? b=some o):h.get? b=some o/\H b=none:=by
 have e':h.get? b=some o:=PySem.W.of_hideAll (qU h H) e
 refine⟨e',?_⟩
 cases q:H b with
 | none=>rfl
 | some x=>
  have hm:b∈qU h H:=Cv.mpr ⟨Dy.mpr (Ap e'),by simp[q]⟩
  have z:(j9 h H).get? b=none:=PySem.W.hideAll_none (qU h H) hm
  rw[z] at e;cases e
structure Mod(K:Ac)(mg:Str->Option Ae)(base:Heap):Prop where
 kin:K.In base
 glob:base.Ns Eb mg
 blt:∃ mb,base.Ns builtinsNs mb/\∀ x:Str,x≠"__name__"->mb x=Co x
 nolimit:base.NoLimit
structure Cx where
 prog:Bo
 w:Ce
 K:Ac
 mg:Str->Option Ae
 base:Heap
 A:Ck
 N:List Str
 s₀:Ah
 H₀:Hp
 env:Env
 outer:List Env
 stack:List Env
 ex:List Addr
 fn:Str->Bool
 calm:Bool
 pn:List (Addr×Obj)
 xe:Ae->Ah->Prop
def gV(l:List Env):List Addr:=l.filterMap (·.frame)
abbrev Cx.fs(X:Cx):List Addr:=gV X.outer
def qV(sc:Jm)(x:Str):Prop:=sc.names.lookup x=some .local\/sc.names.lookup x=some .cell\/sc.names.lookup x=some .free
def Loc(sc:Jm)(x:Str):Prop:=sc.names.lookup x=some .local\/sc.names.lookup x=some .cell
def Look(env:Env)(h:Heap)(m:Str->Option Ae)(x:Str)(u:Ae):Prop:=
 (env.kindOf x=some .local/\m x=some u)\/((env.kindOf x=some .cell\/env.kindOf x=some .free)/\∃ c,env.cells.lookup x=some c/\h.IsCell c (some u))
structure Cx.Ok(X:Cx):Prop where
 mod:Mod X.K X.mg X.base
 kind:X.env.scope.kind=.function
 glob:X.env.globals=Eb
 blt:X.env.builtins=builtinsNs
 above:X.s₀.heap.objs.size<=X.env.locals
 inj:∀ x y c,X.env.cells.lookup x=some c->X.env.cells.lookup y=some c->x=y
 has:∀ x,(X.env.kindOf x=some .cell\/X.env.kindOf x=some .free)->∃ c,X.env.cells.lookup x=some c
 cab:∀ x c,X.fn x=true->X.env.cells.lookup x=some c->X.s₀.heap.objs.size<=c
 hd:X.calm=true->X.A.handled=none
 frames:X.A.frames=some X.stack
 stk:X.stack=X.outer\/(X.stack=X.env :: X.outer/\X.env.frame=some X.env.locals)
 exf:∀ b∈X.ex,b≠X.env.locals/\∀ x c,X.env.cells.lookup x=some c->c≠b
 bs:∀ b o,X.base.get? b=some o->X.s₀.heap.get? b=some o/\X.H₀ b=none
 bsz:X.base.objs.size<=X.s₀.heap.objs.size
 noex:∀ b o,X.base.get? b=some o->b∉X.ex
 exfs:∀ b∈X.ex,b∉X.fs
 funs:X.s₀.heap.FunFrames X.base X.outer
 frf:∀ b∈X.fs,X.H₀ b=none
structure Inv(X:Cx)(pins:List (Addr×Obj))(σ:List (Option V))(H:Hp)(s:Ah):Prop where
 ok:X.Ok
 os:s.os=X.s₀.os
 bare:Mz s.gens
 base:Un X.fs X.ex X.H₀ H X.s₀.heap s.heap
 loc:∃ m,s.heap.Ns X.env.locals m/\∀ (i:Nat) (x:Str) (v:V),X.N[i]? = some x->σ[i]? = some (some v)->qV X.env.scope x->∃ u,RelV v u/\Look X.env s.heap m x u
 cell:∀ x c,X.env.cells.lookup x=some c->∃ v,s.heap.IsCell c v
 free:H X.env.locals=none
 freeC:∀ x c,X.env.cells.lookup x=some c->H c=none
 pin:∀ p∈X.pn ++ pins,s.heap.get? p.1=some p.2/\H p.1=none/\p.1≠X.env.locals/\p.1∉X.fs/\∀ v,p.2.data≠.cell v
 hok:cR X.prog X.w H s.heap
 len:σ.length=X.N.length
section
variable {X:Cx}{pins:List (Addr×Obj)}{σ:List (Option V)}{H H':Hp}{s:Ah}{h':Heap}
theorem Cx.Ok.nofr(ok:X.Ok){b:Addr}{o:Obj}(e:X.base.get? b=some o):b∉X.fs:=fun hb=>by
 have:=(ok.funs.mem hb).1
 rw[e] at this;cases this
theorem Inv.bs(I:Inv X pins σ H s):∀ b o,X.base.get? b=some o->s.heap.get? b=some o/\H b=none:=fun b o e=>
 ⟨I.base.keep b o (I.ok.bs b o e).1 (I.ok.bs b o e).2 (I.ok.nofr e) (I.ok.noex b o e),I.base.free b o (I.ok.bs b o e).1 (I.ok.bs b o e).2 (I.ok.noex b o e)⟩
theorem Inv.bk(I:Inv X pins σ H s):∀ b o,X.base.get? b=some o->s.heap.get? b=some o:=fun b o e=>(I.bs b o e).1
theorem Inv.mod(I:Inv X pins σ H s):Mod X.K X.mg X.base:=I.ok.mod
theorem Inv.kIn(I:Inv X pins σ H s):X.K.In s.heap:=I.ok.mod.kin.keeps I.bk
theorem Inv.lt(I:Inv X pins σ H s):X.env.locals < s.heap.objs.size:=let ⟨_,hn,_⟩:=I.loc;hn.lt
theorem Inv.sz(I:Inv X pins σ H s):X.s₀.heap.objs.size<=s.heap.objs.size:=Bc I.ok.above (Jr I.lt)
theorem Inv.nofs(I:Inv X pins σ H s){a:Addr}(h:s.heap.objs.size<=a):a∉X.fs:=fun hb=>by
 obtain⟨_,o,ho,_⟩:=I.ok.funs.mem hb
 exact absurd (Bq (Ap ho) (Bc I.sz h)) (Gv _)
theorem Inv.cne(I:Inv X pins σ H s):∀ x c,X.env.cells.lookup x=some c->c≠X.env.locals:=fun x c e z=>by
 obtain⟨v,o,ho,hd⟩:=I.cell x c e
 obtain⟨m,⟨o',es,ep,ho',hd',_⟩,_⟩:=I.loc
 rw[z,ho'] at ho;cases ho;rw[hd'] at hd;cases hd
theorem Inv.funs(I:Inv X pins σ H s):s.heap.FunFrames X.base X.outer:=by
 have all:∀ (l:List Env),(∀ b∈gV l,b∈X.fs)->X.s₀.heap.FunFrames X.base l->s.heap.FunFrames X.base l:=by
  intro l
  induction l with
  | nil=>intro _ _;trivial
  | cons env r ih=>
   intro hs hl
   obtain⟨hk,⟨L,o,hf,hn,ho,hd⟩,hr⟩:=hl
   have hL:L∈X.fs:=hs L (by unfold gV;rw[Dz,hf];exact Bf)
   obtain⟨sl,e⟩:=I.base.slot L o ho (I.ok.frf L hL) hL fun z=>I.ok.exfs L z hL
   exact⟨hk,⟨L,_,hf,hn,e,hd⟩,ih (fun b hb=>hs b (by unfold gV;rw[Dz,hf];exact Bd _ hb)) hr⟩
 exact all X.outer (fun _ hb=>hb) I.ok.funs
theorem Inv.stack(I:Inv X pins σ H s):s.heap.FunFrames X.base X.stack:=by
 rcases I.ok.stk with e | ⟨e,hf⟩
 ·rw[e];exact I.funs
 ·rw[e]
  obtain⟨m,hn,_⟩:=I.loc
  refine .cons (by rw[I.ok.kind];decide) hf hn ?_ I.funs
  exact Heap.get?_none_of_le (Bc I.ok.bsz I.ok.above)
theorem Inv.stkSub(I:Inv X pins σ H s):∀ b∈gV X.stack,b∈X.env.locals :: X.fs:=fun b hb=>by
 rcases I.ok.stk with e | ⟨e,hf⟩
 ·rw[e] at hb;exact Bd _ hb
 ·rw[e] at hb
  unfold gV at hb
  rw[Dz,hf] at hb
  exact hb
theorem Inv.stkFree(I:Inv X pins σ H s):∀ b∈gV X.stack,H b=none:=fun b hb=>by
 rcases Ax.mp (I.stkSub b hb) with e | hb
 ·rw[e];exact I.free
 ·obtain⟨_,o,ho,_⟩:=I.ok.funs.mem hb
  exact I.base.free b o ho (I.ok.frf b hb) fun z=>I.ok.exfs b z hb
theorem Inv.step{g':Array GenState}{t':Nat}{d':Drawn}{ch:List Addr}(I:Inv X pins σ H s)
  (hch:∀ b∈ch,(b∈X.ex\/X.s₀.heap.objs.size<=b)/\b≠X.env.locals/\(∀ x c,X.env.cells.lookup x=some c->c≠b)/\∀ p∈X.pn ++ pins,p.1≠b)
  (keep:∀ b o,b≠X.env.locals->b∉X.fs->b∉ch->s.heap.get? b=some o->H b=none->h'.get? b=some o)
  (slot:∀ b o,b≠X.env.locals->b∈X.fs->b∉ch->s.heap.get? b=some o->H b=none->∃ sl,h'.get? b=some {o with slots:=sl}) (free:∀ b o,b∉ch->s.heap.get? b=some o->H b=none->H' b=none)
  (there:∀ b o,b∉ch->s.heap.get? b=some o->∃ o',h'.get? b=some o')
  (tups:∀ b xs,H b=some (.tup xs)->H' b=some (.tup xs)) (frzs:∀ b o u,H b=some (.frz o u)->H' b=some (.frz o u)) (tbls:∀ b ps,H b=some (.tbl ps)->∃ more,H' b=some (.tbl (ps ++ more)))
  (ns:∀ m,s.heap.Ns X.env.locals m->h'.Ns X.env.locals m) (hok:cR X.prog X.w H' h') (hg:Mz g') :
  Inv X pins σ H' {s with heap:=h',gens:=g',drawn:=d',toks:=t'}:=by
 have neL:∀ b o,X.s₀.heap.get? b=some o->b≠X.env.locals:=fun b o e=>Be (Bq (Ap e) I.ok.above)
 have neC:∀ b o,X.s₀.heap.get? b=some o->b∉X.ex->b∉ch:=fun b o e hx hb=>by
  rcases(hch b hb).1 with z | z
  ·exact hx z
  ·exact absurd (Bq (Ap e) z) (Gv _)
 have cellK:∀ x c,X.env.cells.lookup x=some c->∀ v,s.heap.IsCell c v->h'.IsCell c v:=fun x c e v ⟨o,ho,hd⟩=>by
  have nch:c∉ch:=fun z=>(hch c z).2.2.1 x c e rfl
  by_cases hc:c∈X.fs
  ·obtain⟨sl,q⟩:=slot c o (I.cne x c e) hc nch ho (I.freeC x c e)
   exact⟨_,q,hd⟩
  ·exact⟨o,keep c o (I.cne x c e) hc nch ho (I.freeC x c e),hd⟩
 refine⟨I.ok,I.os,hg,⟨fun b o e n hb hx=>?_,fun b o e n hb hx=>?_,fun b o e n hx=>?_,fun b o e hx=>?_,fun b xs e=>tups b xs (I.base.tups b xs e),fun b o xs e=>frzs b o xs (I.base.frzs b o xs e),fun b ps e=>?_⟩,?_,fun x c e=>?_,?_,fun x c e=>?_,fun p hp=>?_,hok,I.len⟩
 ·exact keep b o (neL b o e) hb (neC b o e hx) (I.base.keep b o e n hb hx) (I.base.free b o e n hx)
 ·obtain⟨sl,e1⟩:=I.base.slot b o e n hb hx
  obtain⟨sl',e2⟩:=slot b _ (neL b o e) hb (neC b o e hx) e1 (I.base.free b o e n hx)
  exact⟨sl',e2⟩
 ·obtain⟨o',e1⟩:=I.base.there b o e hx
  exact free b o' (neC b o e hx) e1 (I.base.free b o e n hx)
 ·obtain⟨o',e1⟩:=I.base.there b o e hx
  exact there b o' (neC b o e hx) e1
 ·obtain⟨m1,e1⟩:=I.base.tbls b ps e
  obtain⟨m2,e2⟩:=tbls b _ e1
  exact⟨m1 ++ m2,by rw[e2,Array.append_assoc]⟩
 ·obtain⟨m,hn,hl⟩:=I.loc
  refine⟨m,ns m hn,fun i x v e1 e2 e3=>?_⟩
  obtain⟨u,r,l⟩:=hl i x v e1 e2 e3
  refine⟨u,r,?_⟩
  rcases l with l | ⟨k,c,e,z⟩
  ·exact .inl l
  ·exact .inr ⟨k,c,e,cellK x c e _ z⟩
 ·obtain⟨v,z⟩:=I.cell x c e
  exact⟨v,cellK x c e v z⟩
 ·obtain⟨m,⟨o,_,_,ho,_⟩,_⟩:=I.loc
  exact free _ o (fun z=>(hch _ z).2.1 rfl) ho I.free
 ·obtain⟨v,o,ho,hd⟩:=I.cell x c e
  exact free c o (fun z=>(hch c z).2.2.1 x c e rfl) ho (I.freeC x c e)
 ·obtain⟨e,n,ne,nf,d⟩:=I.pin p hp
  have nch:p.1∉ch:=fun z=>(hch p.1 z).2.2.2 p hp rfl
  exact⟨keep p.1 p.2 ne nf nch e n,free p.1 p.2 nch e n,ne,nf,d⟩
theorem Inv.un{t':Nat}(I:Inv X pins σ H s)(u:Un X.fs [] H H' s.heap h')(hok:cR X.prog X.w H' h'):Inv X pins σ H' {s with heap:=h',toks:=t'}:=by
 obtain⟨m,⟨o,es,ep,ho,r⟩,_⟩:=id I.loc
 obtain⟨sl,hL⟩:=u.any ho I.free (by simp)
 exact I.step (g':=s.gens) (d':=s.drawn) (ch:=[]) (fun _ z=>nomatch z) (fun b o _ hb _ e n=>u.keep b o e n hb (by simp)) (fun b o _ hb _ e n=>u.slot b o e n hb (by simp)) (fun b o _ e n=>u.free b o e n (by simp)) (fun b o _ e=>u.there b o e (by simp)) u.tups u.frzs u.tbls (fun m' hm=>by
  obtain⟨o',es',ep',ho',r'⟩:=hm
  rw[ho] at ho';cases ho'
  exact⟨_,es',ep',hL,r'⟩) hok I.bare
theorem Inv.call{g':Array GenState}{t':Nat}{d':Drawn}{ch:List Addr}(I:Inv X pins σ H s)(u:Un (gV X.stack) ch H H' s.heap h')(hok:cR X.prog X.w H' h')(hg:Mz g')
  (hch:∀ b∈ch,(b∈X.ex\/X.s₀.heap.objs.size<=b)/\b≠X.env.locals/\(∀ x c,X.env.cells.lookup x=some c->c≠b)/\∀ p∈X.pn ++ pins,p.1≠b) :
  Inv X pins σ H' {s with heap:=h',gens:=g',drawn:=d',toks:=t'}:=by
 obtain⟨m,⟨o,es,ep,ho,r⟩,_⟩:=id I.loc
 obtain⟨sl,hL⟩:=u.any ho I.free fun z=>(hch _ z).2.1 rfl
 exact I.step (ch:=ch) hch (fun b o hL hb hc e n=>u.keep b o e n (fun z=>(Ax.mp (I.stkSub b z)).elim hL hb) hc) (fun b o _ _ hc e n=>u.any e n hc) (fun b o hc e n=>u.free b o e n hc) (fun b o hc e=>u.there b o e hc) u.tups u.frzs u.tbls (fun m' hm=>by
  obtain⟨o',es',ep',ho',r'⟩:=hm
  rw[ho] at ho';cases ho'
  exact⟨_,es',ep',hL,r'⟩) hok hg
theorem Inv.turned{t':Nat}{it:Addr}(I:Inv X pins σ H s)(k:∀ b o,b≠it->s.heap.get? b=some o->h'.get? b=some o)(hn:H it=none)(hL:it≠X.env.locals)
  (h1:it∈X.ex\/X.s₀.heap.objs.size<=it) (h2:∀ x c,X.env.cells.lookup x=some c->c≠it) (h3:∀ p∈X.pn ++ pins,p.1≠it):Inv X pins σ H {s with heap:=h',toks:=t'}:=by
 have nit:∀ b u,H b=some u->b≠it:=fun b u e z=>by rw[z,hn] at e;cases e
 refine I.step (g':=s.gens) (d':=s.drawn) (ch:=[it]) (fun b hb=>?_) (fun b o _ _ hc e _=>k b o (fun z=>hc (by simp[z])) e) (fun b o _ _ hc e _=>⟨o.slots,k b o (fun z=>hc (by simp[z])) e⟩) (fun _ _ _ _ n=>n)
  (fun b o hc e=>⟨o,k b o (fun z=>hc (by simp[z])) e⟩) (fun _ _ e=>e) (fun _ _ _ e=>e) (fun b ps e=>⟨#[],by rw[e];simp⟩) (fun m hm=>?_) (fun b u e=>?_) I.bare
 ·have e:b=it:=by simpa using hb
  subst e
  exact⟨h1,hL,h2,h3⟩
 ·obtain⟨o,es,ep,ho,r⟩:=hm
  exact⟨o,es,ep,k _ o (Bp hL) ho,r⟩
 ·refine(I.hok b u e).stay (fun c v hc q=>k c v ?_ q) (fun _ q=>q) fun _ _ q=>q
  rcases hc with z | z
  ·rw[z];exact nit b u e
  ·exact nit c _ z
theorem Inv.tok(I:Inv X pins σ H s)(t:Nat):Inv X pins σ H {s with toks:=t}:=I.un (h':=s.heap) (t':=t) Un.refl I.hok
theorem Inv.kept{t':Nat}(I:Inv X pins σ H s)(k:∀ b u,s.heap.get? b=some u->h'.get? b=some u):Inv X pins σ H {s with heap:=h',toks:=t'}:=I.un (Un.kept k) (I.hok.kept k)
theorem Inv.laid{a:Addr}{o:HO}{t':Nat}(I:Inv X pins σ H s)(k:∀ b u,s.heap.get? b=some u->h'.get? b=some u)(hp:s.heap.objs.size<=a)(new:cN X.prog X.w (aQ H a o) h' a o) :
  Inv X pins σ (aQ H a o) {s with heap:=h',toks:=t'}:=I.un (Un.laid k hp (I.hok.fresh hp)) (I.hok.laid k hp new)
theorem Inv.write{x e:Addr}{o:HO}{t':Nat}(I:Inv X pins σ H s)(mu:oP (H x))(he:e=x\/H e=some (.own x))(k:∀ b u,b≠e->s.heap.get? b=some u->h'.get? b=some u)(heo:∃ u,h'.get? e=some u)
  (new:cN X.prog X.w (aQ H x o) h' x o):Inv X pins σ (aQ H x o) {s with heap:=h',toks:=t'}:=I.un (Un.write mu he k heo) (I.hok.write mu he k heo new)
theorem Inv.pins_of{pins':List (Addr×Obj)}(I:Inv X pins σ H s)(h:∀ p∈pins',s.heap.get? p.1=some p.2/\H p.1=none/\p.1≠X.env.locals/\p.1∉X.fs/\∀ v,p.2.data≠.cell v):Inv X pins' σ H s:=
 ⟨I.ok,I.os,I.bare,I.base,I.loc,I.cell,I.free,I.freeC,fun p hp=>(Bl.mp hp).elim (fun z=>I.pin p (Bv _ z)) (h p),I.hok,I.len⟩
theorem CV{N:List Str}(hN:N.Nodup){i j:Nat}{x:Str}(a:N[i]? = some x)(b:N[j]? = some x):i=j:=by
 obtain⟨h1,e1⟩:=Ai.mp a
 obtain⟨h2,e2⟩:=Ai.mp b
 exact(List.getElem_inj hN).mp (e1.trans e2.symm)
theorem CW{M:Model}{A:Ck}{E:Ae->Ah->Prop}{i:Nat}{x:Str}{v:V}{u:Ae}{Q:Unit->Ah->Prop}(I:Inv X pins σ H s)(hN:X.N.Nodup)(hi:X.N[i]? = some x)(hx:Loc X.env.scope x)(r:RelV v u)
  (h:∀ s',Inv X pins (σ.set i (some v)) H s'->(∃ a,Dn a s.heap s'.heap/\(a=X.env.locals\/X.env.cells.lookup x=some a))->Q () s') (hf:X.fn x=true\/X.env.scope.names.lookup x=some .local:=by first | exact .inl rfl | exact .inr rfl | assumption):Ba M A (storeName X.env x u) Q E s:=by
 obtain⟨m,hn,hl⟩:=id I.loc
 have hcls:(X.env.scope.kind == .class || (X.env.scope.kind == .module && X.env.locals != X.env.globals))=false:=by rw[I.ok.kind];rfl
 have hiσ:i < σ.length:=by rw[I.len];exact(Ai.mp hi).1
 have cne:=I.cne
 have tracked:∀ {a:Addr} {h':Heap},(∃ o,s.heap.get? a=some o/\H a=none)->Dn a s.heap h'->cR X.prog X.w H h':=fun {a h'} ha hs b ob e=>by
  obtain⟨_,_,hfree⟩:=ha
  refine(I.hok b ob e).stay (fun c w' hc q=>(hs.2 c ?_).trans q) (fun _ q=>q) fun _ _ q=>q
  rintro rfl
  rcases hc with rfl | hc
  ·rw[hfree] at e;cases e
  ·rw[hfree] at hc;cases hc
 rcases hx with hk | hk
 ·refine wpAny_storeName_local hk hn (fun h' hn' hs=>?_) hcls
  obtain⟨oL,_,_,hoL,_⟩:=id hn
  refine h _ ⟨I.ok,I.os,I.bare,⟨fun b o e n hb hx=>?_,fun b o e n hb hx=>?_,I.base.free,fun b o e hx=>?_,I.base.tups,I.base.frzs,I.base.tbls⟩,⟨_,hn',fun j y v' e1 e2 e3=>?_⟩,fun y c e=>?_,I.free,I.freeC,fun p hp=>?_,tracked ⟨oL,hoL,I.free⟩ hs,by simpa using I.len⟩ ⟨_,hs,.inl rfl⟩
  ·exact(hs.2 b (Be (Bq (Ap e) I.ok.above))).trans (I.base.keep b o e n hb hx)
  ·obtain⟨sl,e1⟩:=I.base.slot b o e n hb hx
   exact⟨sl,(hs.2 b (Be (Bq (Ap e) I.ok.above))).trans e1⟩
  ·obtain⟨o',e1⟩:=I.base.there b o e hx
   exact⟨o',(hs.2 b (Be (Bq (Ap e) I.ok.above))).trans e1⟩
  ·by_cases hj:j=i
   ·subst hj
    rw[hi] at e1;cases e1
    rw[List.getElem?_set_self hiσ] at e2
    cases e2
    exact⟨u,r,.inl ⟨hk,by simp⟩⟩
   ·rw[List.getElem?_set_ne (Bp hj)] at e2
    obtain⟨u',r',q⟩:=hl j y v' e1 e2 e3
    refine⟨u',r',?_⟩
    rcases q with⟨k,e⟩ | ⟨k,c,e,z⟩
    ·refine .inl ⟨k,?_⟩
     have:y≠x:=fun e=>hj (CV hN e1 (e ▸ hi))
     simp[this,e]
    ·exact .inr ⟨k,c,e,z.sameBut hs (cne y c e)⟩
  ·obtain⟨w',z⟩:=I.cell y c e
   exact⟨w',z.sameBut hs (cne y c e)⟩
  ·obtain⟨e,n,ne,nf,d⟩:=I.pin p hp
   exact⟨(hs.2 p.1 ne).trans e,n,ne,nf,d⟩
 ·have hfn:X.fn x=true:=by
   rcases hf with z | z
   ·exact z
   ·rw[z] at hk;cases hk
  obtain⟨c,hc⟩:=I.ok.has x (.inl hk)
  obtain⟨w',z⟩:=I.cell x c hc
  refine wpAny_storeName_cell I.ok.kind hk hc z (fun h' hc' hs=>?_)
  obtain⟨oc,hoc,hocd⟩:=id z
  refine h {s with heap:=h'} ⟨I.ok,I.os,I.bare,⟨fun b o e n hb hx=>?_,fun b o e n hb hx=>?_,I.base.free,fun b o e hx=>?_,I.base.tups,I.base.frzs,I.base.tbls⟩,⟨m,hn.sameBut hs (Bp (cne x c hc)),fun j y v' e1 e2 e3=>?_⟩,fun y c' e=>?_,I.free,I.freeC,fun p hp=>?_,tracked ⟨oc,hoc,I.freeC x c hc⟩ hs,by simpa using I.len⟩ ⟨c,hs,.inr hc⟩
  ·exact(hs.2 b (Be (Bq (Ap e) (I.ok.cab x c hfn hc)))).trans (I.base.keep b o e n hb hx)
  ·obtain⟨sl,e1⟩:=I.base.slot b o e n hb hx
   exact⟨sl,(hs.2 b (Be (Bq (Ap e) (I.ok.cab x c hfn hc)))).trans e1⟩
  ·obtain⟨o',e1⟩:=I.base.there b o e hx
   exact⟨o',(hs.2 b (Be (Bq (Ap e) (I.ok.cab x c hfn hc)))).trans e1⟩
  ·by_cases hj:j=i
   ·subst hj
    rw[hi] at e1;cases e1
    rw[List.getElem?_set_self hiσ] at e2
    cases e2
    exact⟨u,r,.inr ⟨.inl hk,c,hc,hc'⟩⟩
   ·rw[List.getElem?_set_ne (Bp hj)] at e2
    obtain⟨u',r',q⟩:=hl j y v' e1 e2 e3
    refine⟨u',r',?_⟩
    rcases q with q | ⟨k,c',e,z'⟩
    ·exact .inl q
    ·refine .inr ⟨k,c',e,z'.sameBut hs ?_⟩
     rintro rfl
     exact hj (CV hN e1 (I.ok.inj _ _ _ e hc ▸ hi))
  ·by_cases hcc:c'=c
   ·subst hcc;exact⟨_,hc'⟩
   ·obtain⟨w2,z2⟩:=I.cell y c' e
    exact⟨w2,z2.sameBut hs hcc⟩
  ·obtain⟨e,n,ne,nf,d⟩:=I.pin p hp
   refine⟨(hs.2 p.1 ?_).trans e,n,ne,nf,d⟩
   intro q
   rw[q,hoc] at e
   have q':oc=p.2:=Cr e
   exact d w' (by rw[<-q'];exact hocd)
theorem CY{M:Model}{A:Ck}{E:Ae->Ah->Prop}{i:Nat}{x:Str}{v:V}{u:Ae}{Q:Unit->Ah->Prop}(I:Inv X pins σ H s)(hN:X.N.Nodup)(hi:X.N[i]? = some x)(hx:Loc X.env.scope x)(r:RelV v u)
  (h:∀ s',Inv X pins (σ.set i (some v)) H s'->Q () s') (hf:X.fn x=true\/X.env.scope.names.lookup x=some .local:=by first | exact .inl rfl | exact .inr rfl | assumption):Ba M A (storeName X.env x u) Q E s:=
 CW I hN hi hx r (fun s' I' _=>h s' I') hf
theorem Inv.call'{s':Ah}{ch:List Addr}(I:Inv X pins σ H s)(ho:s'.os=s.os)(u:Un (gV X.stack) ch H H' s.heap s'.heap)(hok:cR X.prog X.w H' s'.heap)(hg:Mz s'.gens)
  (hch:∀ b∈ch,(b∈X.ex\/X.s₀.heap.objs.size<=b)/\b≠X.env.locals/\(∀ x c,X.env.cells.lookup x=some c->c≠b)/\∀ p∈X.pn ++ pins,p.1≠b):Inv X pins σ H' s':=by
 obtain⟨h',g',d',t',o'⟩:=s'
 have e:o'=s.os:=ho
 subst e
 exact I.call (g':=g') (t':=t') (d':=d') u hok hg hch
end
abbrev XK:=Ae->Option Addr->Hp->Prop
abbrev St:=List (Option V)
abbrev VK:=V->Hp->Prop
abbrev TE:=St->Hp->VK->Prop
abbrev TT:=St->Hp->(Bool->Hp->Prop)->Prop
abbrev TA:=St->Hp->(List V->Hp->Prop)->Prop
structure kA where
 nx:St->Hp->Prop
 rt:VK
 bk:St->Hp->Prop:=fun _ _=>False
 ct:St->Hp->Prop:=fun _ _=>False
abbrev TS:=kA->St->Hp->Prop
def EP(X:Cx)(pins:List (Addr×Obj))(σ:St)(Q:VK)(u:Ae)(s':Ah):Prop:=∃ v H',Inv X pins σ H' s'/\RelV v u/\Q v H'
def TP(X:Cx)(pins:List (Addr×Obj))(σ:St)(Q:Bool->Hp->Prop)(b:Bool)(s':Ah):Prop:=∃ H',Inv X pins σ H' s'/\Q b H'
def AP(X:Cx)(pins:List (Addr×Obj))(σ:St)(Q:List V->Hp->Prop)(us:List Ae)(s':Ah):Prop:=∃ vs H',Inv X pins σ H' s'/\aZ vs us/\Q vs H'
def SP(X:Cx)(pins:List (Addr×Obj))(D:kA)(f:Flow)(s':Ah):Prop:=
 match f with
 | .next=>∃ σ' H',Inv X pins σ' H' s'/\D.nx σ' H'
 | .brk=>∃ σ' H',Inv X pins σ' H' s'/\D.bk σ' H'
 | .cont=>∃ σ' H',Inv X pins σ' H' s'/\D.ct σ' H'
 | .ret u=>∃ v σ' H',Inv X pins σ' H' s'/\RelV v u/\D.rt v H'
def PE(X:Cx)(e:Expr)(t:TE):Prop:=
 ∀ (pins:List (Addr×Obj)) (s:Ah) (σ:St) (H:Hp) (Q:VK),Inv X pins σ H s->t σ H Q->Ba (Bj X.prog X.w) X.A (eval e X.env) (EP X pins σ Q) X.xe s
def PT(X:Cx)(e:Expr)(t:TT):Prop:=
 ∀ (pins:List (Addr×Obj)) (s:Ah) (σ:St) (H:Hp) (Q:Bool->Hp->Prop),Inv X pins σ H s->t σ H Q->Ba (Bj X.prog X.w) X.A (isTrue e X.env (eval e X.env)) (TP X pins σ Q) X.xe s
def PW(X:Cx)(e:Expr)(t:TT):Prop:=
 ∀ (whole:Sem Ae) (pins:List (Addr×Obj)) (s:Ah) (σ:St) (H:Hp) (Q:Bool->Hp->Prop),Inv X pins σ H s->t σ H Q->Ba (Bj X.prog X.w) X.A (isTrue e X.env whole) (TP X pins σ Q) X.xe s
theorem PW.pt{X:Cx}{e:Expr}{t:TT}(h:PW X e t):PT X e t:=h _
def PA(X:Cx)(es:List Expr)(t:TA):Prop:=
 ∀ (pos:Pos) (pins:List (Addr×Obj)) (s:Ah) (σ:St) (H:Hp) (Q:List V->Hp->Prop),Inv X pins σ H s->t σ H Q->Ba (Bj X.prog X.w) X.A (spliced (Hf pos (Bh es X.env))) (AP X pins σ Q) X.xe s
def PS(X:Cx)(st:Stmt)(t:TS):Prop:=
 ∀ (pins:List (Addr×Obj)) (s:Ah) (σ:St) (H:Hp) (D:kA),Inv X pins σ H s->t D σ H->Ba (Bj X.prog X.w) X.A (exec st X.env) (SP X pins D) X.xe s
def fM(X:Cx)(st:List Stmt)(t:TS):Prop:=
 ∀ (pins:List (Addr×Obj)) (s:Ah) (σ:St) (H:Hp) (D:kA),Inv X pins σ H s->t D σ H->Ba (Bj X.prog X.w) X.A (execs st X.env) (SP X pins D) X.xe s
theorem a9{α:Type}{t:Sem α}{Q Q':α->Ah->Prop}{M:Model}{A:Ck}{E:Ae->Ah->Prop}{s:Ah}(h:Ba M A t Q E s)(hQ:∀ a s,Q a s->Q' a s):Ba M A t Q' E s:=Hs h hQ fun _ _ x=>x
section
variable {X:Cx}
def LA(i:Nat):TE:=fun σ H Q=>∃ v,σ[i]? = some (some v)/\Q v H
def tC(v:V):TE:=fun _ H Q=>Q v H
theorem CZ{i:Nat}{x:Str}{pos:Pos}(hN:X.N[i]? = some x)(hv:qV X.env.scope x)(hd:(x == ("__debug__" : Str))=false:=by decide)(hcd:(x == ("__classdict__" : Str))=false:=by decide):PE X (.Name x pos) (LA i):=by
 intro pins s σ H Q I h
 obtain⟨v,e,h⟩:=h
 obtain⟨m,hn,hl⟩:=I.loc
 obtain⟨u,r,l⟩:=hl i x v hN e hv
 have fin:EP X pins σ Q u s:=⟨v,H,I,r,h⟩
 rcases l with⟨hk,hm⟩ | ⟨hk,c,hc,hcell⟩
 ·exact wpAny_Name (wpAny_loadName_local I.ok.kind hk hn hm fin) hd
 ·rcases hk with hk | hk
  ·exact wpAny_Name (wpAny_loadName_cell I.ok.kind hk hc hcell fin) hd
  ·exact wpAny_Name (wpAny_loadName_free I.ok.kind hk hc hcell fin hcd) hd
theorem LB{i j pos}:PE X (.Constant (.int i) j pos) (tC (.int i)):=fun _ _ _ H _ I h=>wpAny_Constant_int ⟨.int i,H,I.tok _,⟨_,rfl⟩,h⟩
theorem LC{b j pos}:PE X (.Constant (.bool b) j pos) (tC (.bl b)):=fun _ _ _ H _ I h=>Constant_bool ⟨.bl b,H,I,rfl,h⟩
theorem LD{j pos}:PE X (.Constant .none j pos) (tC .non):=fun _ _ _ H _ I h=>Constant_none ⟨.non,H,I,rfl,h⟩
theorem LF{x j pos}:PE X (.Constant (.str x) j pos) (tC (.str x)):=fun _ _ _ H _ I h=>Calls.Constant_str ⟨.str x,H,I.tok _,⟨_,rfl⟩,h⟩
def Gl(X:Cx)(x:Str):Prop:=X.env.kindOf x=some .globalImplicit
theorem qW{E:Ae->Ah->Prop}{pins:List (Addr×Obj)}{s:Ah}{σ:St}{H:Hp}{x:Str}{u:Ae}{pos:Pos}{Q:Ae->Ah->Prop}(I:Inv X pins σ H s)(hg:Gl X x)(hm:X.mg x=some u)(h:Q u s)
  (hd:(x == ("__debug__" : Str))=false:=by decide):Ba (Bj X.prog X.w) X.A (eval (.Name x pos) X.env) Q E s:=
 Calls.Name_function_global I.ok.kind hg (Calls.loadGlobal_global (by rw[I.ok.glob];exact I.mod.glob.keeps I.bk) hm h) hd
theorem iC{E:Ae->Ah->Prop}{pins:List (Addr×Obj)}{s:Ah}{σ:St}{H:Hp}{x:Str}{u:Ae}{pos:Pos}{Q:Ae->Ah->Prop}(I:Inv X pins σ H s)(hg:Gl X x)(hm:X.mg x=none)(hv:Co x=some u)(h:Q u s)
  (hn:x≠"__name__":=by decide) (hd:(x == ("__debug__" : Str))=false:=by decide):Ba (Bj X.prog X.w) X.A (eval (.Name x pos) X.env) Q E s:=by
 obtain⟨mb,h1,h2⟩:=I.mod.blt
 exact Calls.Name_function_global I.ok.kind hg (Calls.loadGlobal_builtin (by rw[I.ok.glob];exact I.mod.glob.keeps I.bk) hm (by rw[I.ok.blt];exact h1.keeps I.bk) ((h2 x hn).trans hv) h) hd
theorem LG{x:Str}{v:V}{u:Ae}{pos:Pos}(hg:Gl X x)(hm:X.mg x=some u)(r:RelV v u)(hd:(x == ("__debug__" : Str))=false:=by decide):PE X (.Name x pos) (tC v):=
 fun _ _ _ H _ I h=>qW I hg hm ⟨v,H,I,r,h⟩ hd
theorem LH{x:Str}{v:V}{u:Ae}{pos:Pos}(hg:Gl X x)(hm:X.mg x=none)(hv:Co x=some u)(r:RelV v u)(hn:x≠"__name__":=by decide)(hd:(x == ("__debug__" : Str))=false:=by decide):PE X (.Name x pos) (tC v):=
 fun _ _ _ H _ I h=>iC I hg hm hv ⟨v,H,I,r,h⟩ hn hd
variable {a b:Expr}{ta tb:TE}{pos:Pos}
variable {tA tB':TT}{rest:List Expr}
def LI(t u:TT):TT:=fun σ H Q=>t σ H fun c H1=>if c=true then u σ H1 Q else Q false H1
def LJ(t u:TT):TT:=fun σ H Q=>t σ H fun c H1=>if c=true then Q true H1 else u σ H1 Q
def LK(t:TT):TT:=fun σ H Q=>t σ H fun c H1=>Q (!c) H1
theorem LL(ha:PT X a tA):PW X (.BoolOp .And [a] pos) tA:=by
 intro wh pins s σ H Q I h
 refine isTrue_and (a9 (ha pins s σ H Q I h) fun c s1 e=>?_)
 cases c with
 | true=>exact isTrue_and_nil e
 | false=>exact e
theorem LM(ha:PT X a tA):PW X (.BoolOp .Or [a] pos) tA:=by
 intro wh pins s σ H Q I h
 refine isTrue_or (a9 (ha pins s σ H Q I h) fun c s1 e=>?_)
 cases c with
 | false=>exact isTrue_or_nil e
 | true=>exact e
theorem LN(ha:PT X a tA)(hb:PW X (.BoolOp .And (b :: rest) pos) tB'):PW X (.BoolOp .And (a :: b :: rest) pos) (LI tA tB'):=by
 intro wh pins s σ H Q I h
 refine isTrue_and (a9 (ha pins s σ H _ I h) fun c s1 ⟨H1,I1,q1⟩=>?_)
 cases c with
 | true=>exact hb wh pins s1 σ H1 Q I1 q1
 | false=>exact⟨H1,I1,q1⟩
theorem LO(ha:PT X a tA)(hb:PW X (.BoolOp .Or (b :: rest) pos) tB'):PW X (.BoolOp .Or (a :: b :: rest) pos) (LJ tA tB'):=by
 intro wh pins s σ H Q I h
 refine isTrue_or (a9 (ha pins s σ H _ I h) fun c s1 ⟨H1,I1,q1⟩=>?_)
 cases c with
 | true=>exact⟨H1,I1,q1⟩
 | false=>exact hb wh pins s1 σ H1 Q I1 q1
theorem LP(ha:PT X a tA):PT X (.UnaryOp .Not a pos) (LK tA):=by
 intro pins s σ H Q I h
 exact isTrue_not (ha pins s σ H (fun c H1=>Q (!c) H1) I h)
def LQ(ta tb:TE):TE:=fun σ H Q=>ta σ H fun x H1=>∃ c,x=.bl c/\if c=true then tb σ H1 Q else Q (.bl false) H1
def LR(ta tb:TE):TE:=fun σ H Q=>ta σ H fun x H1=>∃ c,x=.bl c/\if c=true then Q (.bl true) H1 else tb σ H1 Q
theorem LS{op}{t:TE}(h:PE X a t):PE X (.BoolOp op [a] pos) t:=fun pins s σ H Q I hw=>BoolOp_one (h pins s σ H Q I hw)
theorem LU(ha:PE X a ta)(hb:PE X (.BoolOp .And (b :: rest) pos) tb):PE X (.BoolOp .And (a :: b :: rest) pos) (LQ ta tb):=by
 intro pins s σ H Q I h
 refine BoolOp_and (a9 (ha pins s σ H _ I h) fun v s1 ⟨x,H1,I1,r1,q1⟩=>?_)
 obtain⟨c,rfl,q1⟩:=q1
 cases r1
 refine Ih ?_
 cases c with
 | true=>exact hb pins s1 σ H1 Q I1 q1
 | false=>exact⟨.bl false,H1,I1,rfl,q1⟩
theorem LV(ha:PE X a ta)(hb:PE X (.BoolOp .Or (b :: rest) pos) tb):PE X (.BoolOp .Or (a :: b :: rest) pos) (LR ta tb):=by
 intro pins s σ H Q I h
 refine BoolOp_or (a9 (ha pins s σ H _ I h) fun v s1 ⟨x,H1,I1,r1,q1⟩=>?_)
 obtain⟨c,rfl,q1⟩:=q1
 cases r1
 refine Ih ?_
 cases c with
 | false=>exact hb pins s1 σ H1 Q I1 q1
 | true=>exact⟨.bl true,H1,I1,rfl,q1⟩
def LW(t:TT)(ta tb:TE):TE:=fun σ H Q=>t σ H fun c H1=>if c=true then ta σ H1 Q else tb σ H1 Q
theorem LX{c:Expr}(hc:PT X c tA)(ha:PE X a ta)(hb:PE X b tb):PE X (.IfExp c a b pos) (LW tA ta tb):=by
 intro pins s σ H Q I h
 refine wpAny_IfExp (a9 (hc pins s σ H _ I h) fun d s1 ⟨H1,I1,q1⟩=>?_)
 cases d with
 | true=>exact ha pins s1 σ H1 Q I1 q1
 | false=>exact hb pins s1 σ H1 Q I1 q1
end
def bF(K:Ac)(H:Hp)(a:Addr)(xs:List V):Prop:=
 Rd H a (.lst xs)\/
  ∃ (o:Obj) (its:Array Ae) (n:Nat),K.lookup a=some o/\o.cls=.type "list"/\o.dict=none/\o.data=.seq its n/\its.size<=Am/\aZ xs its.toList
def bN(K:Ac)(H:Hp)(a:Addr)(xs:List V):Prop:=
 Rd H a (.tup xs)\/
  ∃ (o:Obj) (its:Array Ae) (n:Nat),K.lookup a=some o/\o.cls=.type "tuple"/\o.data=.seq its n/\its.size<=Am/\aZ xs its.toList
def LY:Ae->Option V
 | .none=>some .non
 | .bool b=>some (.bl b)
 | .int i _=>some (.int i)
 | .str x _=>some (.str x)
 | .bytes b _=>some (.byt b)
 | .float b _=>some (.flt b)
 | .ref a=>some (.ref a)
 | .type n=>some (.ty n)
 | _=>none
theorem RelV.abs{x:V}{u:Ae}(r:RelV x u):LY u=some x:=by
 cases x with
 | non=>cases r;rfl
 | bl _=>cases r;rfl
 | int _=>obtain⟨t,rfl⟩:=r;rfl
 | str _=>obtain⟨t,rfl⟩:=r;rfl
 | byt _=>obtain⟨t,rfl⟩:=r;rfl
 | flt _=>obtain⟨t,rfl⟩:=r;rfl
 | ref _=>cases r;rfl
 | ty _=>cases r;rfl
theorem RelV.inj{x y:V}{u:Ae}(r:RelV x u)(q:RelV y u):x=y:=Cr (r.abs.symm.trans q.abs)
theorem aZ.inj:∀ {xs ys:List V} {us:List Ae},aZ xs us->aZ ys us->xs=ys
 | _,_,_,.nil,.nil=>rfl
 | _,_,_,.cons r t,.cons r' t'=>by rw[r.inj r',aZ.inj t t']
section
variable {X:Cx}{pins:List (Addr×Obj)}{σ:St}{H:Hp}{s:Ah}{a:Addr}{xs ys:List V}
theorem bF.of{K:Ac}(h:H a=some (.lst xs)):bF K H a xs:=.inl (.inl h)
theorem bN.of{K:Ac}(h:H a=some (.tup xs)):bN K H a xs:=.inl (.inl h)
theorem Inv.list(I:Inv X pins σ H s)(h:bF X.K H a xs):∃ its:List Ae,aZ xs its/\PlainL s.heap a its.toArray/\xs.length<=Am:=by
 rcases h with h | ⟨o,its,n,hk,hc,hd,hs,hz,r⟩
 ·obtain⟨z,its,n,r,e⟩:=h.ok I.hok
  exact⟨its,r,⟨_,n,e,rfl,rfl,rfl⟩,z⟩
 ·refine⟨its.toList,r,⟨o,n,I.kIn a o hk,hc,hd,by simpa using hs⟩,?_⟩
  have e:=r.length
  simp only[Bx] at e
  lia
theorem Inv.tuple(I:Inv X pins σ H s)(h:bN X.K H a xs):∃ its:List Ae,aZ xs its/\IsTup s.heap a its.toArray/\xs.length<=Am:=by
 rcases h with h | ⟨o,its,n,hk,hc,hs,hz,r⟩
 ·obtain⟨z,its,r,p⟩:=h.ok I.hok
  exact⟨its,r,p,z⟩
 ·refine⟨its.toList,r,⟨o,I.kIn a o hk,hc,n,by simpa using hs⟩,?_⟩
  have e:=r.length
  simp only[Bx] at e
  lia
theorem Inv.list_inj(I:Inv X pins σ H s)(h:bF X.K H a xs)(h':bF X.K H a ys):xs=ys:=by
 obtain⟨its,r,⟨o,n,e,_,_,d⟩,_⟩:=I.list h
 obtain⟨its',r',⟨o',n',e',_,_,d'⟩,_⟩:=I.list h'
 rw[e] at e';cases e'
 rw[d] at d'
 injection d' with d1 _
 have:its=its':=by simpa using congrArg Array.toList d1
 subst this
 exact r.inj r'
theorem Inv.tuple_inj(I:Inv X pins σ H s)(h:bN X.K H a xs)(h':bN X.K H a ys):xs=ys:=by
 obtain⟨its,r,⟨o,e,_,n,d⟩,_⟩:=I.tuple h
 obtain⟨its',r',⟨o',e',_,n',d'⟩,_⟩:=I.tuple h'
 rw[e] at e';cases e'
 rw[d] at d'
 injection d' with d1 _
 have:its=its':=by simpa using congrArg Array.toList d1
 subst this
 exact r.inj r'
end
abbrev Cx.wish(X:Cx)(E:Ae->Ah->Prop):Cx:={X with xe:=E}
abbrev Cx.nox(X:Cx):Cx:=X.wish fun _ _=>False
theorem Cx.Ok.wish{X:Cx}(ok:X.Ok)(E:Ae->Ah->Prop):(X.wish E).Ok:=
 ⟨ok.mod,ok.kind,ok.glob,ok.blt,ok.above,ok.inj,ok.has,ok.cab,ok.hd,ok.frames,ok.stk,ok.exf,ok.bs,ok.bsz,ok.noex,ok.exfs,ok.funs,ok.frf⟩
theorem Cx.Ok.unwish{X:Cx}{E:Ae->Ah->Prop}(ok:(X.wish E).Ok):X.Ok:=
 ⟨ok.mod,ok.kind,ok.glob,ok.blt,ok.above,ok.inj,ok.has,ok.cab,ok.hd,ok.frames,ok.stk,ok.exf,ok.bs,ok.bsz,ok.noex,ok.exfs,ok.funs,ok.frf⟩
section
variable {X:Cx}{pins:List (Addr×Obj)}{σ:St}{H:Hp}{s:Ah}{E:Ae->Ah->Prop}
theorem Inv.wish(I:Inv X pins σ H s)(E:Ae->Ah->Prop):Inv (X.wish E) pins σ H s:=⟨I.ok.wish E,I.os,I.bare,I.base,I.loc,I.cell,I.free,I.freeC,I.pin,I.hok,I.len⟩
theorem Inv.unwish(I:Inv (X.wish E) pins σ H s):Inv X pins σ H s:=⟨I.ok.unwish,I.os,I.bare,I.base,I.loc,I.cell,I.free,I.freeC,I.pin,I.hok,I.len⟩
theorem SP.unwish{D:kA}{f:Flow}{s':Ah}(h:SP (X.wish E) pins D f s'):SP X pins D f s':=by
 cases f with
 | next=>obtain⟨σ',H',I,q⟩:=h;exact⟨σ',H',I.unwish,q⟩
 | brk=>obtain⟨σ',H',I,q⟩:=h;exact⟨σ',H',I.unwish,q⟩
 | cont=>obtain⟨σ',H',I,q⟩:=h;exact⟨σ',H',I.unwish,q⟩
 | ret u=>obtain⟨v,σ',H',I,r,q⟩:=h;exact⟨v,σ',H',I.unwish,r,q⟩
theorem fM.nox{st:List Stmt}{t:TS}(h:fM X.nox st t):fM X st t:=fun pins s σ H D I hw=>
 Hs (h pins s σ H D (I.wish _) hw) (fun _ _ q=>q.unwish) fun _ _ z=>Gi z
end
section
variable {X:Cx}{st:Stmt}{rest:List Stmt}{t u:TS}{e:Expr}{te:TE}{pos:Pos}
def LZ:TS:=fun D σ H=>D.nx σ H
def L0(t u:TS):TS:=fun D σ H=>t {D with nx:=u D} σ H
theorem L1:fM X [] LZ:=fun _ _ σ H _ I h=>Na ⟨σ,H,I,h⟩
theorem L4(h1:PS X st t)(h2:fM X rest u):fM X (st :: rest) (L0 t u):=by
 intro pins s σ H D I h
 refine wpAny_execs_cons (a9 (h1 pins s σ H {D with nx:=u D} I h) fun f s1 q=>?_)
 cases f with
 | next=>
  obtain⟨σ',H',I',q⟩:=q
  exact h2 pins s1 σ' H' D I' q
 | ret v=>exact q
 | brk=>exact q
 | cont=>exact q
theorem L5(h1:PS X st t):fM X [st] t:=by
 intro pins s σ H D I h
 refine wpAny_execs_cons (a9 (h1 pins s σ H D I h) fun f s1 q=>?_)
 cases f with
 | next=>exact Na q
 | ret v=>exact q
 | brk=>exact q
 | cont=>exact q
theorem Inv.quiet{pins:List (Addr×Obj)}{σ:St}{H:Hp}{s:Ah}(I:Inv X pins σ H s):interactive X.env=false:=by simp[interactive,I.ok.kind]
def L6(te:TE):TS:=fun D σ H=>te σ H fun _ H1=>D.nx σ H1
theorem L7(he:PE X e te)(hs:Js e none pos.line X.env=pure false:=by rfl):PS X (.Expr e pos) (L6 te):=by
 intro pins s σ H D I h
 exact wpAny_Expr_any (a9 (he pins s σ H _ I h) fun v s1 ⟨x,H1,I1,r1,q1⟩=>⟨σ,H1,I1,q1⟩) I.quiet hs
def L8(te:TE):TS:=fun D σ H=>te σ H D.rt
theorem L9(he:PE X e te):PS X (.Return (some e) pos) (L8 te):=by
 intro pins s σ H D I h
 exact wpAny_Return_some (a9 (he pins s σ H _ I h) fun v s1 ⟨x,H1,I1,r1,q1⟩=>⟨x,σ,H1,I1,r1,q1⟩)
def MA:TS:=fun D _ H=>D.rt .non H
theorem MB:PS X (.Return none pos) MA:=fun _ _ σ H _ I h=>wpAny_Return_none ⟨.non,σ,H,I,rfl,h⟩
def MC(c:TT)(t u:TS):TS:=fun D σ H=>c σ H fun b H1=>if b=true then t D σ H1 else u D σ H1
theorem MD{c:Expr}{a b:List Stmt}{tc:TT}(hc:PT X c tc)(ha:fM X a t)(hb:fM X b u):PS X (.If c a b pos) (MC tc t u):=by
 intro pins s σ H D I h
 refine wpAny_If (a9 (hc pins s σ H _ I h) fun d s1 ⟨H1,I1,q1⟩=>?_)
 cases d with
 | true=>exact ha pins s1 σ H1 D I1 q1
 | false=>exact hb pins s1 σ H1 D I1 q1
def ME:TS:=fun _ _ _=>False
theorem MF:PS X st ME:=fun _ _ _ _ _ _ h=>h.elim
end
abbrev TG:=V->St->Hp->(St->Hp->Prop)->Prop
abbrev iW:=List V->St->Hp->(St->Hp->Prop)->Prop
def PG(X:Cx)(target:Expr)(t:TG):Prop:=
 ∀ (pins:List (Addr×Obj)) (s:Ah) (σ:St) (H:Hp) (v:V) (u:Ae) (Q:St->Hp->Prop),Inv X pins σ H s->RelV v u->t v σ H Q->
  Ba (Bj X.prog X.w) X.A (Ma target X.env u) (fun _ s'=>∃ σ' H',Inv X pins σ' H' s'/\Q σ' H') X.xe s
def iD(X:Cx)(ts:List Expr)(t:iW):Prop:=
 ∀ (pins:List (Addr×Obj)) (s:Ah) (σ:St) (H:Hp) (vs:List V) (us:List Ae) (Q:St->Hp->Prop),Inv X pins σ H s->aZ vs us->t vs σ H Q->
  Ba (Bj X.prog X.w) X.A (assignInOrder ((Gq ts X.env).map (·.2)) us) (fun _ s'=>∃ σ' H',Inv X pins σ' H' s'/\Q σ' H') X.xe s
abbrev qX:=V->V->V->Hp->(Hp->Prop)->Prop
def qY(X:Cx)(t:qX):Prop:=
 ∀ (pins:List (Addr×Obj)) (s:Ah) (σ:St) (H:Hp) (o i v:V) (ov iv u:Ae) (Q:Hp->Prop),Inv X pins σ H s->RelV o ov->RelV i iv->RelV v u->t o i v H Q->
  Ba (Bj X.prog X.w) X.A (setItem ov iv u) (fun _ s'=>∃ H',Inv X pins σ H' s'/\Q H') X.xe s
section
variable {X:Cx}{pos:Pos}
def uX(i:Nat):TG:=fun v σ H Q=>Q (σ.set i (some v)) H
theorem MG{i:Nat}{x:Str}(hN:X.N.Nodup)(hi:X.N[i]? = some x)(hx:Loc X.env.scope x)(hf:X.fn x=true\/X.env.scope.names.lookup x=some .local:=by first | exact .inl rfl | exact .inr rfl | assumption):PG X (.Name x pos) (uX i):=by
 intro pins s σ H v u Q I r h
 exact wpAny_assign_Name (CY I hN hi hx r (fun s' I'=>⟨_,H,I',h⟩) hf)
def MH:iW:=fun vs σ H Q=>vs=[]/\Q σ H
def MI(t:TG)(u:iW):iW:=fun vs σ H Q=>∃ v r,vs=v :: r/\t v σ H fun σ' H'=>u r σ' H' Q
theorem MJ:iD X [] MH:=by
 intro pins s σ H vs us Q I r h
 obtain⟨e,h⟩:=h
 subst e
 cases r
 exact assignInOrder_nil ⟨σ,H,I,h⟩
theorem MK{e:Expr}{es:List Expr}{t:TG}{u:iW}(h1:PG X e t)(h2:iD X es u)
  (hs:(Gq (e :: es) X.env).map (·.2)=Ma e X.env :: (Gq es X.env).map (·.2):=by rfl):iD X (e :: es) (MI t u):=by
 intro pins s σ H vs us Q I r h
 obtain⟨v,vr,e1,h⟩:=h
 subst e1
 cases r with
 | cons r rr=>
  rw[hs]
  refine assignInOrder_cons (a9 (h1 pins s σ H _ _ _ I r h) fun _ s1 ⟨σ1,H1,I1,q1⟩=>?_)
  exact h2 pins s1 σ1 H1 _ _ Q I1 rr q1
def ML(K:Ac)(n:Nat)(t:iW):TG:=fun v σ H Q=>∃ a xs,v=.ref a/\bN K H a xs/\xs.length=n/\t xs σ H Q
theorem MM{es:List Expr}{k:Nat}{t:iW}{n:Nat}(hc:X.calm=true)(h:iD X es t)
  (hn:(Gq es X.env).length=n:=by rfl) (hst:(Gq es X.env).findIdx? (·.1)=none:=by rfl):PG X (.Tuple es k pos) (ML X.K n t):=by
 intro pins s σ H v u Q I r hw
 obtain⟨a,xs,e1,hq,hl,hw⟩:=hw
 subst e1
 cases r
 obtain⟨its,rv,ht,hz⟩:=I.tuple hq
 refine assign_Tuple_tuple (I.ok.hd hc) ht (by simp[hn,<-hl,rv.length]) hst fun h' hx=>?_
 have I1:Inv X pins σ H {s with heap:=h'}:=I.kept (t':=s.toks) fun b o e=>hx b o (Be (Ap e)) e
 exact h pins _ σ H xs _ Q I1 (by simpa using rv) hw
def MN(to ti:TE)(t:qX):TG:=fun v σ H Q=>to σ H fun o H1=>ti σ H1 fun i H2=>t o i v H2 fun H3=>Q σ H3
theorem MP{o i:Expr}{to ti:TE}{t:qX}(ho:PE X o to)(hi:PE X i ti)(hs:qY X t)
  (ha:∀ v,Ma (.Subscript o i pos) X.env v=(do
   let ov <-Ht [v] (eval o X.env)
   let iv <-Ht [v,ov] (eval i X.env)
   Nj pos
   Ht [v,ov,iv] (setItem ov iv v)
   release [v,ov,iv] []):=by intro _;rfl):PG X (.Subscript o i pos) (MN to ti t):=by
 intro pins s σ H v u Q I r h
 rw[ha]
 refine Aa (Cq (a9 (ho pins s σ H _ I h) fun ov s1 ⟨x,H1,I1,r1,q1⟩=>?_))
 refine Aa (Cq (a9 (hi pins s1 σ H1 _ I1 q1) fun iv s2 ⟨y,H2,I2,r2,q2⟩=>?_))
 refine Aa (Nn (Aa (Cq (a9 (hs pins s2 σ H2 x y v ov iv u _ I2 r1 r2 r q2) fun _ s3 ⟨H3,I3,q3⟩=>?_))))
 exact wpAny_release ⟨σ,H3,I3,q3⟩
def qZ(te:TE)(g:TG):TS:=fun D σ H=>te σ H fun x H1=>g x σ H1 D.nx
theorem MQ{tg e:Expr}{te:TE}{g:TG}(he:PE X e te)(hg:PG X tg g)(hs:swapsWithSole [tg] e pos.line X.env=pure false:=by rfl)(hw:swappedStores [tg] e X.env=pure none:=by rfl)
  (h1:(Gq [tg] X.env).map (·.2)=[Ma tg X.env]:=by rfl):PS X (.Assign [tg] e pos) (qZ te g):=by
 intro pins s σ H D I h
 refine wpAny_Assign_stores (a9 (he pins s σ H _ I h) fun v s1 ⟨x,H1,I1,r1,q1⟩=>?_) hs hw
 rw[h1]
 exact a9 (hg pins s1 σ H1 x v _ I1 r1 q1) fun _ s2 q=>q
theorem MR{i:Nat}{x:Str}{e:Expr}{te:TE}{pos':Pos}(hN:X.N.Nodup)(hi:X.N[i]? = some x)(hx:Loc X.env.scope x)(he:PE X e te)(hs:Js e (some (.Name x pos')) pos.line X.env=pure false:=by rfl)(hf:X.fn x=true\/X.env.scope.names.lookup x=some .local:=by first | exact .inl rfl | exact .inr rfl | assumption) :
  PS X (.Assign [.Name x pos'] e pos) (qZ te (uX i)):=by
 intro pins s σ H D I h
 refine wpAny_Assign_Name (a9 (he pins s σ H _ I h) fun v s1 ⟨y,H1,I1,r1,q1⟩=>?_) hs
 exact CY I1 hN hi hx r1 (fun s2 I2=>⟨_,H1,I2,q1⟩) hf
end
section
variable {X:Cx}{pos:Pos}
def MS(c:TT)(tb:TS):TS:=fun D σ H=>∃ W:Nat->St->Hp->Prop,(∃ m,W m σ H)/\∀ m σ H,W m σ H->
 c σ H fun b H1=>if b=true then ∃ N:St->Hp->Prop,(∀ σ' H',N σ' H'->∃ m',m' < m/\W m' σ' H')/\tb {D with nx:=N,ct:=N,bk:=D.nx} σ H1 else D.nx σ H1
theorem MT{c:Expr}{body:List Stmt}{tc:TT}{tb:TS}(hp:PassesOwn (Bj X.prog X.w) X.A X.env X.xe)(hc:PT X c tc)(hb:fM X body tb):PS X (.While c body [] pos) (MS tc tb):=by
 intro pins s σ H D I h
 obtain⟨W,⟨m0,w0⟩,turn⟩:=h
 refine wpAny_While (codeAny_whileLoop (fun n s'=>∃ σ' H',Inv X pins σ' H' s'/\W n σ' H') ?_ m0 ⟨σ,H,I,w0⟩)
 rintro n s1 ⟨σ1,H1,I1,w1⟩
 refine Hx hp (a9 (hc pins s1 σ1 H1 _ I1 (turn n σ1 H1 w1)) fun b s2 ⟨H2,I2,q2⟩=>?_)
 cases b with
 | true=>
  obtain⟨N,hN,q2⟩:=q2
  rw[if_pos rfl]
  refine Hx hp (a9 (hb pins s2 σ1 H2 _ I2 q2) fun f s3 q3=>?_)
  cases f with
  | next=>
   obtain⟨σ3,H3,I3,n3⟩:=q3
   obtain⟨m',hm,w3⟩:=hN σ3 H3 n3
   exact⟨m',hm,σ3,H3,I3,w3⟩
  | cont=>
   obtain⟨σ3,H3,I3,n3⟩:=q3
   obtain⟨m',hm,w3⟩:=hN σ3 H3 n3
   exact⟨m',hm,σ3,H3,I3,w3⟩
  | brk=>exact q3
  | ret v=>exact q3
 | false=>
  rw[if_neg Ar]
  exact Na ⟨σ1,H2,I2,q2⟩
end
structure It where
 go:Nat->Hp->Prop
 yld:Nat->Hp->V->Hp->Prop
 stop:Nat->Hp->Prop
def gM(X:Cx)(pins:List (Addr×Obj))(H:Hp)(b:Addr):Prop:=
 H b=none/\b≠X.env.locals/\b∉X.fs/\(b∈X.ex\/X.s₀.heap.objs.size<=b)/\(∀ x c,X.env.cells.lookup x=some c->c≠b)/\∀ p∈X.pn ++ pins,p.1≠b
theorem Inv.fpOk{X:Cx}{pins:List (Addr×Obj)}{σ:St}{H H':Hp}{s:Ah}{b:Addr}(I:Inv X pins σ H s)(hb:s.heap.objs.size<=b)(hn:H' b=none):gM X pins H' b:=by
 refine⟨hn,Ct (Bq I.lt hb),I.nofs hb,.inr (Bc I.sz hb),fun x c e z=>?_,fun p hp z=>?_⟩
 ·obtain⟨v,q⟩:=I.cell x c e
  exact absurd (Bq q.lt (by rw[z];exact hb)) (Gv _)
 ·exact absurd (Bq (Ap (I.pin p hp).1) (by rw[z];exact hb)) (Gv _)
structure iX(P:Bo)(w:Ce)(K:Ac)(tg:Expr)(J:It)(fp:List Addr)(it:Addr)(tn:Nat->Heap->Prop):Prop where
 mem:it∈fp
 obj:∀ i h,tn i h->∀ b∈fp,∃ o,h.get? b=some o/\∀ v,o.data≠.cell v
 keep:∀ i h h',tn i h->(∀ b∈fp,∀ o,h.get? b=some o->h'.get? b=some o)->tn i h'
 item:∀ (X:Cx),X.prog=P->X.w=w->X.K=K->X.calm=true->∀ (i:Nat) (pins:List (Addr×Obj)) (s:Ah) (σ:St) (H:Hp) (E:Ae->Ah->Prop),Inv X pins σ H s->(∀ b∈fp,gM X pins H b)->tn i s.heap->J.go i H->
  Ba (Bj P w) X.A (Hh (.ref it)) (fun r s1=>∃ u,r=some u/\
   Ba (Bj P w) X.A (Nc tg (.ref it) u) (fun _ s2=>∃ x H',Inv X pins σ H' s2/\RelV x u/\J.yld i H x H'/\tn (i + 1) s2.heap/\∀ b∈fp,H' b=none) E s1) E s
 done:∀ (X:Cx),X.prog=P->X.w=w->X.K=K->X.calm=true->∀ (i:Nat) (pins:List (Addr×Obj)) (s:Ah) (σ:St) (H:Hp) (E:Ae->Ah->Prop),Inv X pins σ H s->(∀ b∈fp,gM X pins H b)->tn i s.heap->J.stop i H->
  Ba (Bj P w) X.A (Hh (.ref it)) (fun r s1=>r=none/\Inv X pins σ H s1) E s
 self:∀ (A:Ck) (i:Nat) (s:Ah) (Q:Ae->Ah->Prop) (E:Ae->Ah->Prop),tn i s.heap->Q (.ref it) s->Ba (Bj P w) A (Nh (.ref it)) Q E s
abbrev TI:=St->Hp->(It->Hp->Prop)->Prop
def oQ(X:Cx)(pins:List (Addr×Obj))(σ:St)(tg:Expr)(R:It->Hp->Prop)(itv:Ae)(s2:Ah):Prop:=
 ∃ (it:Addr) (fp:List Addr) (tn:Nat->Heap->Prop) (J:It) (H':Hp),itv=.ref it/\Inv X pins σ H' s2/\iX X.prog X.w X.K tg J fp it tn/\tn 0 s2.heap/\(∀ b∈fp,gM X pins H' b)/\R J H'
def PI(X:Cx)(tg iter:Expr)(wi:TI):Prop:=
 ∀ (pins:List (Addr×Obj)) (s:Ah) (σ:St) (H:Hp) (R:It->Hp->Prop),Inv X pins σ H s->wi σ H R->
  Ba (Bj X.prog X.w) X.A (eval iter X.env) (fun v s1=>Ba (Bj X.prog X.w) X.A (Nh v) (oQ X pins σ tg R) X.xe s1) X.xe s
theorem rA{M:Model}{A:Ck}{E:Ae->Ah->Prop}{s:Ah}{tg:Expr}{it:Addr}{u:Ae}{o:Obj}{n:String}{vs:Array Ae}{Q:Unit->Ah->Prop}(ho:s.heap.get? it=some o)(hc:o.cls=.type n)(hd:o.data=.fields vs)
  (hn : ["enumerate","zip","dict_itemiterator","dict_reverseitemiterator","odict_iterator","itertools.zip_longest","itertools.pairwise"].contains n=false) (hQ:Q () s):Ba M A (Nc tg (.ref it) u) Q E s:=by
 unfold Nc
 cases tg <;> first
  | exact Ag hQ
  | (cases u <;> first
    | exact Ag hQ
    | (refine Aa (wpAny_load ho ?_)
       rw[hc,hd]
       show Ba M A (if (["enumerate","zip","dict_itemiterator","dict_reverseitemiterator","odict_iterator","itertools.zip_longest","itertools.pairwise"].contains n && vs[0]? == some (Fs _))=true then _ else _) Q E s
       rw[if_neg (by intro h;rw[hn,Bool.false_and] at h;cases h)]
       exact Ag hQ))
def nD(K:Ac)(a:Addr):It:=
 ⟨fun i H=>∃ xs x,bF K H a xs/\xs[i]? = some x,fun i H x H'=>H'=H/\∀ xs,bF K H a xs->xs[i]? = some x,fun i H=>∃ xs,bF K H a xs/\xs.length<=i⟩
def uY(K:Ac)(a:Addr):It:=
 ⟨fun i H=>∃ xs x,bN K H a xs/\xs[i]? = some x,fun i H x H'=>H'=H/\∀ xs,bN K H a xs->xs[i]? = some x,fun i H=>∃ xs,bN K H a xs/\xs.length<=i⟩
def oR(lo:Int)(n:Nat):It:=⟨fun i _=>i < n,fun i H x H'=>H'=H/\x=.int (lo + i),fun i _=>n<=i⟩
theorem MU{P:Bo}{w:Ce}{K:Ac}{tg:Expr}(a it:Addr):iX P w K tg (nD K a) [it] it (fun i h=>h.IsListIter it a i) where
 mem:=by simp
 obj:=fun i h st b hb=>by
  have e:b=it:=by simpa using hb
  subst e
  obtain⟨o,e,c,d⟩:=st
  exact⟨o,e,fun v z=>by rw[d] at z;cases z⟩
 keep:=fun i h h' st k=>st.at fun o e=>k it (by simp) o e
 item:=by
  intro X hP hw hK hc i pins s σ H E I hf st hg
  subst hP hw hK
  obtain⟨xs,x,hq,hx⟩:=hg
  obtain⟨its,rv,p,hz⟩:=I.list hq
  obtain⟨u,hu,ru⟩:=rv.get hx
  obtain⟨f0,f1,f2,f3,f4,f5⟩:=hf it (by simp)
  refine wpAny_pyNext_list_item st p.isList (x:=u) (by simpa using hu) fun h' st' sb=>?_
  have I1:Inv X pins σ H {s with heap:=h'}:=I.turned (t':=s.toks) (fun b o hb e=>(sb.2 b hb).trans e) f0 f1 f3 f4 f5
  obtain⟨o,e,c,d⟩:=id st'
  exact⟨u,rfl,rA (s:={s with heap:=h'}) e c d (by decide) ⟨x,H,I1,ru,⟨rfl,fun ys hy=>by rw[I.list_inj hy hq];exact hx⟩,st',fun b hb=>(hf b hb).1⟩⟩
 done:=by
  intro X hP hw hK hc i pins s σ H E I hf st hg
  subst hP hw hK
  obtain⟨xs,hq,hx⟩:=hg
  obtain⟨its,rv,p,hz⟩:=I.list hq
  obtain⟨f0,f1,f2,f3,f4,f5⟩:=hf it (by simp)
  have hl:=rv.length
  exact wpAny_pyNext_list_end (I.ok.hd hc) st p.isList (by simp;lia) fun h' eb=>⟨rfl,I.turned (t':=s.toks) (fun b o hb e=>eb b o hb e) f0 f1 f3 f4 f5⟩
 self:=fun _ _ _ _ _ st h=>wpAny_pyIter_listiter st h
theorem MV{P:Bo}{w:Ce}{K:Ac}{tg:Expr}(a it:Addr):iX P w K tg (uY K a) [it] it (fun i h=>h.IsTupleIter it a i) where
 mem:=by simp
 obj:=fun i h st b hb=>by
  have e:b=it:=by simpa using hb
  subst e
  obtain⟨o,e,c,d⟩:=st
  exact⟨o,e,fun v z=>by rw[d] at z;cases z⟩
 keep:=fun i h h' st k=>st.at fun o e=>k it (by simp) o e
 item:=by
  intro X hP hw hK hc i pins s σ H E I hf st hg
  subst hP hw hK
  obtain⟨xs,x,hq,hx⟩:=hg
  obtain⟨its,rv,p,hz⟩:=I.tuple hq
  obtain⟨u,hu,ru⟩:=rv.get hx
  obtain⟨f0,f1,f2,f3,f4,f5⟩:=hf it (by simp)
  refine wpAny_pyNext_tuple_item st (show s.heap.IsTuple a its.toArray from p) (x:=u) (by simpa using hu) fun h' st' sb=>?_
  have I1:Inv X pins σ H {s with heap:=h'}:=I.turned (t':=s.toks) (fun b o hb e=>(sb.2 b hb).trans e) f0 f1 f3 f4 f5
  obtain⟨o,e,c,d⟩:=id st'
  exact⟨u,rfl,rA (s:={s with heap:=h'}) e c d (by decide) ⟨x,H,I1,ru,⟨rfl,fun ys hy=>by rw[I.tuple_inj hy hq];exact hx⟩,st',fun b hb=>(hf b hb).1⟩⟩
 done:=by
  intro X hP hw hK hc i pins s σ H E I hf st hg
  subst hP hw hK
  obtain⟨xs,hq,hx⟩:=hg
  obtain⟨its,rv,p,hz⟩:=I.tuple hq
  obtain⟨f0,f1,f2,f3,f4,f5⟩:=hf it (by simp)
  have hl:=rv.length
  exact wpAny_pyNext_tuple_end (I.ok.hd hc) st (show s.heap.IsTuple a its.toArray from p) (by simp;lia) fun h' eb=>⟨rfl,I.turned (t':=s.toks) (fun b o hb e=>eb b o hb e) f0 f1 f3 f4 f5⟩
 self:=fun _ _ _ _ _ st h=>wpAny_pyIter_tupleiter st h
theorem MW{P:Bo}{w:Ce}{K:Ac}{tg:Expr}(it:Addr)(lo:Int)(n:Nat):iX P w K tg (oR lo n) [it] it (fun i h=>IsRangeIter h it (lo + (i:Nat) * 1) ((n:Int) - (i:Nat)) 1) where
 mem:=by simp
 obj:=fun i h st b hb=>by
  have e:b=it:=by simpa using hb
  subst e
  exact⟨_,st,fun v z=>by
   have z':Data.fields _=Data.cell v:=z
   cases z'⟩
 keep:=fun i h h' st k=>k it (by simp) _ st
 item:=by
  intro X hP hw hK hc i pins s σ H E I hf st hg
  subst hP hw hK
  obtain⟨f0,f1,f2,f3,f4,f5⟩:=hf it (by simp)
  have W:=Walks.range (prog:=X.prog) (w:=X.w) (I.ok.hd hc) it lo 1 n
  refine W.item i s _ _ hg st fun v h' tk hv st' kk=>?_
  obtain⟨t,rfl⟩:=hv
  have I1:Inv X pins σ H {s with heap:=h',toks:=tk}:=I.turned (fun b o hb e=>kk b o (by simpa using hb) e) f0 f1 f3 f4 f5
  refine⟨_,rfl,rA (s:={s with heap:=h',toks:=tk}) (n:="range_iterator") st' rfl rfl (by decide) ⟨.int (lo + i),H,I1,⟨t,?_⟩,⟨rfl,rfl⟩,st',fun b hb=>(hf b hb).1⟩⟩
  rw[Int.mul_one]
 done:=by
  intro X hP hw hK hc i pins s σ H E I hf st hg
  subst hP hw hK
  obtain⟨f0,f1,f2,f3,f4,f5⟩:=hf it (by simp)
  exact wpAny_pyNext_range_end (I.ok.hd hc) st (by have:n<=i:=hg;lia) fun h' eb=>⟨rfl,I.turned (t':=s.toks) (fun b o hb e=>eb b o hb e) f0 f1 f3 f4 f5⟩
 self:=fun _ _ _ _ _ st h=>wpAny_pyIter_rangeiter st h
section
variable {X:Cx}{tg:Expr}
theorem C0{pins:List (Addr×Obj)}{σ:St}{H:Hp}{s:Ah}{R:It->Hp->Prop}{E:Ae->Ah->Prop}{lo hi:Int}{t u v:Tok}{tk:Nat}(I:Inv X pins σ H s)(h1 : -(2 ^ 62)<=lo)(h2:lo < 2 ^ 62)(h3 : -(2 ^ 62)<=hi)(h4:hi < 2 ^ 62)
  (q:R (oR lo (hi - lo).toNat) H):Ba (Bj X.prog X.w) X.A (Nh (.ref s.heap.objs.size)) (oQ X pins σ tg R) E {s with heap:=s.heap.push {cls:=.type "range",data:=.fields #[.int lo t,.int hi u,.int 1 v]},toks:=tk}:=by
 refine wpAny_pyIter_range (IsRange.new ..) (small_one h1 h2 h3 h4) ?_
 have I1:Inv X pins σ H {s with heap:=s.heap.push {cls:=.type "range",data:=.fields #[.int lo t,.int hi u,.int 1 v]},toks:=tk}:=I.kept fun b o e=>Af _ e
 refine⟨(s.heap.push {cls:=.type "range",data:=.fields #[.int lo t,.int hi u,.int 1 v]}).objs.size,[(s.heap.push {cls:=.type "range",data:=.fields #[.int lo t,.int hi u,.int 1 v]}).objs.size],_,_,H,rfl,
  I1.kept (t':=tk) fun b o e=>Af _ e,MW _ lo (hi - lo).toNat,?_,fun b hb=>?_,q⟩
 ·have e1:lo + ((0:Nat):Int) * 1=lo:=by simp
  have e2:(((hi - lo).toNat:Nat):Int) - ((0:Nat):Int)=Builtin.Range.rangeSize lo hi 1:=by rw[rangeSize_one];split <;> lia
  show IsRangeIter _ _ (lo + ((0:Nat):Int) * 1) ((((hi - lo).toNat:Nat):Int) - ((0:Nat):Int)) 1
  rw[e1,e2]
  exact Au _ rfl
 ·have e:b=(s.heap.push {cls:=.type "range",data:=.fields #[.int lo t,.int hi u,.int 1 v]}).objs.size:=by simpa using hb
  subst e
  exact I1.fpOk (Aj _) (I1.hok.fresh (Aj _))
def MX(ta:TA):TI:=fun σ H R=>ta σ H fun vs H1=>∃ j:Int,vs=[.int j]/\-(2 ^ 62)<=j/\j < 2 ^ 62/\R (oR 0 j.toNat) H1
def MY(ta:TA):TI:=fun σ H R=>ta σ H fun vs H1=>∃ i j:Int,vs=[.int i,.int j]/\(-(2 ^ 62)<=i/\i < 2 ^ 62/\-(2 ^ 62)<=j/\j < 2 ^ 62)/\R (oR i (j - i).toNat) H1
theorem MZ{a:Expr}{ta:TA}{p pos:Pos}(hg:Gl X "range")(hm:X.mg "range" = none)(ha:PA X [a] ta)(hs:Bh [a] X.env=[(false,eval a X.env)]:=by rfl):PI X tg (.Call (.Name "range" p) [a] [] pos) (MX ta):=by
 intro pins s σ H R I h
 refine Call_ (iC I hg hm boot_range (Cu (a9 (ha pos pins s σ H _ I h) fun us s1 ⟨vs,H1,I1,r1,q1⟩=>?_) hs rfl))
 obtain⟨j,e,q1,q2,q⟩:=q1
 subst e
 cases r1 with
 | cons r rr=>
  cases rr
  obtain⟨t,rfl⟩:=r
  exact call_range_1 (C0 I1 (by lia) (by lia) q1 q2 (by simpa using q))
theorem M8{a b:Expr}{ta:TA}{p pos:Pos}(hg:Gl X "range")(hm:X.mg "range" = none)(ha:PA X [a,b] ta)(hs:Bh [a,b] X.env=[(false,eval a X.env),(false,eval b X.env)]:=by rfl)(hs2:Bh [b] X.env=[(false,eval b X.env)]:=by rfl) :
  PI X tg (.Call (.Name "range" p) [a,b] [] pos) (MY ta):=by
 intro pins s σ H R I h
 refine Call_ (iC I hg hm boot_range (Cu (a9 (ha pos pins s σ H _ I h) fun us s1 ⟨vs,H1,I1,r1,q1⟩=>?_) (by rw[hs,hs2]) (by rw[hs2];rfl)))
 obtain⟨i,j,e,⟨q1,q2,q3,q4⟩,q⟩:=q1
 subst e
 cases r1 with
 | cons r rr=>
  cases rr with
  | cons r' rr=>
   cases rr
   obtain⟨t,rfl⟩:=r
   obtain⟨t',rfl⟩:=r'
   exact call_range_2 (C0 I1 q1 q2 q3 q4 q)
def M9(wi:TI)(g:TG)(tb:TS):TS:=fun D σ H=>wi σ H fun J H1=>∃ W:Nat->Nat->St->Hp->Prop,(∃ m,W 0 m σ H1)/\∀ i m σ H,W i m σ H->
 (J.stop i H/\D.nx σ H)\/(J.go i H/\∃ N:St->Hp->Prop,(∀ σ' H',N σ' H'->∃ m',m' < m/\W (i + 1) m' σ' H')/\∀ x H',J.yld i H x H'->g x σ H' fun σ2 H2=>tb {D with nx:=N,ct:=N,bk:=D.nx} σ2 H2)
def oS(fp:List Addr)(h:Heap):List (Addr×Obj):=fp.filterMap fun b=>(h.get? b).map fun o=>(b,o)
theorem rB{fp:List Addr}{h:Heap}{b:Addr}{o:Obj}(hb:b∈fp)(e:h.get? b=some o):(b,o)∈oS fp h:=Jd.mpr ⟨b,hb,by rw[e];rfl⟩
theorem NA{fp:List Addr}{h:Heap}{p:Addr×Obj}(hp:p∈oS fp h):p.1∈fp/\h.get? p.1=some p.2:=by
 obtain⟨b,hb,e⟩:=Jd.mp hp
 cases q:h.get? b with
 | none=>rw[q] at e;cases e
 | some o=>
  rw[q] at e
  have e':(b,o)=p:=Cr e
  subst e'
  exact⟨hb,q⟩
theorem Inv.pinned{pins:List (Addr×Obj)}{σ:St}{H:Hp}{s:Ah}{fp:List Addr}(I:Inv X pins σ H s)(hf:∀ b∈fp,gM X pins H b)(ho:∀ b∈fp,∃ o,s.heap.get? b=some o/\∀ v,o.data≠.cell v):Inv X (pins ++ oS fp s.heap) σ H s:=
 I.pins_of fun p hp=>(Bl.mp hp).elim (fun z=>I.pin p (Ca _ z)) fun z=>by
  obtain⟨hb,e⟩:=NA z
  obtain⟨f0,f1,f2,_⟩:=hf p.1 hb
  obtain⟨o,e',d⟩:=ho p.1 hb
  rw[e] at e';cases e'
  exact⟨e,f0,f1,f2,d⟩
theorem Inv.unpinned{pins pl:List (Addr×Obj)}{σ:St}{H:Hp}{s:Ah}(I:Inv X (pins ++ pl) σ H s):Inv X pins σ H s:=I.pins_of fun p hp=>I.pin p (Ca _ (Bv _ hp))
theorem NB{iter:Expr}{body:List Stmt}{wi:TI}{g:TG}{tb:TS}{pos:Pos}(hp:PassesOwn (Bj X.prog X.w) X.A X.env X.xe)(hc:X.calm=true)(hi:PI X tg iter wi)(hg:PG X tg g)(hb:fM X body tb)
  (hs:∀ x,Gy iter X.env x=pure x:=by intro _;rfl):PS X (.For tg iter body [] pos) (M9 wi g tb):=by
 intro pins s σ H D I h
 refine wpAny_For (a9 (hi pins s σ H _ I h) fun v s1 h1=>a9 h1 fun itv s2 h2=>?_) hs
 obtain⟨it,fp,tn,J,H2,e,I2,T,st2,f2,W,⟨m0,w0⟩,turn⟩:=h2
 subst e
 have stat:∀ {H':Hp},(∀ b∈fp,H' b=none)->∀ b∈fp,gM X pins H' b:=fun hn b hb=>⟨hn b hb,(f2 b hb).2⟩
 refine codeAny_forLoop_any (fun n s'=>∃ i σ' H',Inv X pins σ' H' s'/\tn i s'.heap/\(∀ b∈fp,H' b=none)/\W i n σ' H') ?_ m0 ⟨0,σ,H2,I2,st2,fun b hb=>(f2 b hb).1,w0⟩
 rintro n s3 ⟨i,σ3,H3,I3,st3,fr3,w3⟩
 rcases turn i n σ3 H3 w3 with⟨stop,qn⟩ | ⟨go,N,hN,step⟩
 ·refine Hx hp (a9 (T.done X rfl rfl rfl hc i pins s3 σ3 H3 X.xe I3 (stat fr3) st3 stop) fun r s4 ⟨hr,I4⟩=>?_)
  subst hr
  exact Na ⟨σ3,H3,I4,qn⟩
 ·refine Hx hp (a9 (T.item X rfl rfl rfl hc i pins s3 σ3 H3 X.xe I3 (stat fr3) st3 go) fun r s4 ⟨u,hr,h4⟩=>?_)
  subst hr
  refine Hx hp (a9 h4 fun _ s5 ⟨x,H5,I5,r5,y5,st5,fr5⟩=>?_)
  have I5':=I5.pinned (stat fr5) (T.obj _ _ st5)
  refine Hx hp (a9 (hg _ s5 σ3 H5 x u _ I5' r5 (step x H5 y5)) fun _ s6 ⟨σ6,H6,I6,q6⟩=>?_)
  refine Hx hp (a9 (hb _ s6 σ6 H6 _ I6 q6) fun f s7 q7=>?_)
  have again:∀ {σ7:St} {H7:Hp},Inv X (pins ++ oS fp s5.heap) σ7 H7 s7->N σ7 H7->∃ m,m < n/\∃ i σ' H',Inv X pins σ' H' s7/\tn i s7.heap/\(∀ b∈fp,H' b=none)/\W i m σ' H':=fun {σ7 H7} I7 n7=>by
   obtain⟨m',hm,w7⟩:=hN σ7 H7 n7
   refine⟨m',hm,i + 1,σ7,H7,I7.unpinned,T.keep _ _ _ st5 fun b hb o e=>(I7.pin (b,o) (Ca _ (Ca _ (rB hb e)))).1,fun b hb=>?_,w7⟩
   obtain⟨o,e,d⟩:=T.obj _ _ st5 b hb
   exact(I7.pin (b,o) (Ca _ (Ca _ (rB hb e)))).2.1
  cases f with
  | next=>obtain⟨σ7,H7,I7,n7⟩:=q7;exact again I7 n7
  | cont=>obtain⟨σ7,H7,I7,n7⟩:=q7;exact again I7 n7
  | brk=>obtain⟨σ7,H7,I7,q7⟩:=q7;exact⟨σ7,H7,I7.unpinned,q7⟩
  | ret v=>obtain⟨x7,σ7,H7,I7,r7,q7⟩:=q7;exact⟨x7,σ7,H7,I7.unpinned,r7,q7⟩
end
abbrev R2:=V->V->Hp->VK->Prop
def bG(X:Cx)(f:Ae->Ae->Sem Ae)(r:R2):Prop:=
 ∀ (pins:List (Addr×Obj)) (s:Ah) (σ:St) (H:Hp) (x y:V) (v u:Ae) (Q:VK),Inv X pins σ H s->RelV x v->RelV y u->r x y H Q->
  Ba (Bj X.prog X.w) X.A (f v u) (EP X pins σ Q) X.xe s
def oT(X:Cx)(f:Ae->Sem Ae)(r:V->Hp->VK->Prop):Prop:=
 ∀ (pins:List (Addr×Obj)) (s:Ah) (σ:St) (H:Hp) (x:V) (v:Ae) (Q:VK),Inv X pins σ H s->RelV x v->r x H Q->
  Ba (Bj X.prog X.w) X.A (f v) (EP X pins σ Q) X.xe s
def dA(X:Cx)(f:Ae)(r:List V->Hp->VK->Prop):Prop:=
 ∀ (pins:List (Addr×Obj)) (s:Ah) (σ:St) (H:Hp) (xs:List V) (us:List Ae) (Q:VK),Inv X pins σ H s->aZ xs us->r xs H Q->
  Ba (Bj X.prog X.w) X.A (call f us) (EP X pins σ Q) X.xe s
def NC(X:Cx)(r:V->Hp->(Bool->Hp->Prop)->Prop):Prop:=
 ∀ (pins:List (Addr×Obj)) (s:Ah) (σ:St) (H:Hp) (x:V) (v:Ae) (Q:Bool->Hp->Prop),Inv X pins σ H s->RelV x v->r x H Q->
  Ba (Bj X.prog X.w) X.A (truthy v) (TP X pins σ Q) X.xe s
def oU(r:R2)(ta tb:TE):TE:=fun σ H Q=>ta σ H fun x H1=>tb σ H1 fun y H2=>r x y H2 Q
def ND(r:V->Hp->VK->Prop)(ta:TE):TE:=fun σ H Q=>ta σ H fun x H1=>r x H1 Q
def rI(C:Int->Int->Prop)(g:Int->Int->V):R2:=fun x y H Q=>∃ i j,x=.int i/\y=.int j/\C i j/\Q (g i j) H
def kB(g:Int->Int->V):R2:=fun x y H Q=>∃ i j,x=.int i/\y=.int j/\Q (g i j) H
def rU(g:Int->V):V->Hp->VK->Prop:=fun x H Q=>∃ i,x=.int i/\Q (g i) H
section
variable {X:Cx}{a b c:Expr}{ta tb tc:TE}{pos:Pos}
theorem uZ(ha:PE X a ta)(hb:PE X b tb){pins:List (Addr×Obj)}{s:Ah}{σ:St}{H:Hp}{R:V->V->Hp->Prop}(I:Inv X pins σ H s)
  (h:ta σ H fun x H1=>tb σ H1 fun y H2=>R x y H2) {Q:Ae->Ah->Prop} {f:Ae->Ae->Sem Ae}
  (hf:∀ v u s2 x y H2,Inv X pins σ H2 s2->RelV x v->RelV y u->R x y H2->Ba (Bj X.prog X.w) X.A (f v u) Q X.xe s2) :
  Ba (Bj X.prog X.w) X.A (eval a X.env) (fun v s₁=>Ba (Bj X.prog X.w) X.A (eval b X.env) (fun u s₂=>Ba (Bj X.prog X.w) X.A (f v u) Q X.xe s₂) X.xe s₁) X.xe s:=by
 refine a9 (ha pins s σ H _ I h) fun v s1 ⟨x,H1,I1,r1,q1⟩=>?_
 refine a9 (hb pins s1 σ H1 _ I1 q1) fun u s2 ⟨y,H2,I2,r2,q2⟩=>?_
 exact hf v u s2 x y H2 I2 r1 r2 q2
theorem NF{op:Operator}{r:R2}(ho:bG X (Fg op) r)(ha:PE X a ta)(hb:PE X b tb):PE X (.BinOp a op b pos) (oU r ta tb):=by
 intro pins s σ H Q I h
 exact wpAny_BinOp (uZ ha hb I h fun v u s2 x y H2 I2 rx ry q=>ho pins s2 σ H2 x y v u Q I2 rx ry q)
theorem NG{op:UnaryOp}{r:V->Hp->VK->Prop}(ho:oT X (unaryOp op) r)(ha:PE X a ta):PE X (.UnaryOp op a pos) (ND r ta):=by
 intro pins s σ H Q I h
 exact UnaryOp_ (a9 (ha pins s σ H _ I h) fun v s1 ⟨x,H1,I1,r1,q1⟩=>ho pins s1 σ H1 x v Q I1 r1 q1)
theorem oV{f:Ae->Ae->Sem Ae}{C:Int->Int->Prop}{g:Int->Int->Int}
  (rule:∀ (i j:Int) (t u:Tok) (s:Ah) (Q:Ae->Ah->Prop) (E:Ae->Ah->Prop),C i j->Q (.int (g i j) s.toks) {s with toks:=s.toks + 1}->Ba (Bj X.prog X.w) X.A (f (.int i t) (.int j u)) Q E s) :
  bG X f (rI C fun i j=>.int (g i j)):=by
 intro pins s σ H x y v u Q I rx ry h
 obtain⟨i,j,rfl,rfl,hc,q⟩:=h
 obtain⟨t,rfl⟩:=rx
 obtain⟨t',rfl⟩:=ry
 exact rule i j t t' s _ _ hc ⟨.int (g i j),H,I.tok _,⟨_,rfl⟩,q⟩
theorem C4{f:Ae->Ae->Sem Ae}{g:Int->Int->Int}
  (rule:∀ (i j:Int) (t u:Tok) (s:Ah) (Q:Ae->Ah->Prop) (E:Ae->Ah->Prop),Q (.int (g i j) s.toks) {s with toks:=s.toks + 1}->Ba (Bj X.prog X.w) X.A (f (.int i t) (.int j u)) Q E s) :
  bG X f (kB fun i j=>.int (g i j)):=by
 intro pins s σ H x y v u Q I rx ry h
 obtain⟨i,j,rfl,rfl,q⟩:=h
 obtain⟨t,rfl⟩:=rx
 obtain⟨t',rfl⟩:=ry
 exact rule i j t t' s _ _ ⟨.int (g i j),H,I.tok _,⟨_,rfl⟩,q⟩
theorem rC{f:Ae->Ae->Sem Ae}{g:Int->Int->Bool}
  (rule:∀ (i j:Int) (t u:Tok) (s:Ah) (Q:Ae->Ah->Prop) (E:Ae->Ah->Prop),Q (.bool (g i j)) s->Ba (Bj X.prog X.w) X.A (f (.int i t) (.int j u)) Q E s) :
  bG X f (kB fun i j=>.bl (g i j)):=by
 intro pins s σ H x y v u Q I rx ry h
 obtain⟨i,j,rfl,rfl,q⟩:=h
 obtain⟨t,rfl⟩:=rx
 obtain⟨t',rfl⟩:=ry
 exact rule i j t t' s _ _ ⟨.bl (g i j),H,I,rfl,q⟩
def C5(i j:Int):Prop:=0<=j/\j<=1000000/\i.natAbs < 2 ^ 64
def nE(i j:Int):Prop:=(-(2 ^ 64) < i/\i < 2 ^ 64)\/(-(2 ^ 64) < j/\j < 2 ^ 64)
theorem nE.ok{i j:Int}(h:nE i j):IntMulOk i j:=by
 rcases h with⟨h1,h2⟩ | ⟨h1,h2⟩
 ·exact .of_left (intBits_le_64 h1 h2)
 ·exact .of_right (intBits_le_64 h1 h2)
theorem NH:bG X (Fg .Add) (kB fun i j=>.int (i + j)):=C4 fun _ _ _ _ _ _ _ q=>add_int q
theorem NI:bG X (Fg .Sub) (kB fun i j=>.int (i - j)):=C4 fun _ _ _ _ _ _ _ q=>sub_int q
theorem NJ:bG X (Fg .Mult) (rI nE fun i j=>.int (i * j)):=oV fun _ _ _ _ _ _ _ hc q=>mul_int q hc.ok
theorem NK:bG X (Fg .Mod) (rI (fun _ j=>0 < j) fun i j=>.int (i % j)):=oV fun i j _ _ _ _ _ hc q=>by
 have h1:(0:Int) < j:=hc
 exact mod_int' (by lia) (by rw[Int.fmod_eq_emod_of_nonneg i (by lia)];exact q)
theorem NL:bG X (Fg .Pow) (rI C5 fun i j=>.int (i ^ j.toNat)):=oV fun _ _ _ _ _ _ _ hc q=>pow_int_small hc.1 hc.2.1 hc.2.2 q
theorem NN{f:Ae->Sem Ae}{g:Int->Int}
  (rule:∀ (i:Int) (t:Tok) (s:Ah) (Q:Ae->Ah->Prop) (E:Ae->Ah->Prop),Q (.int (g i) s.toks) {s with toks:=s.toks + 1}->Ba (Bj X.prog X.w) X.A (f (.int i t)) Q E s) :
  oT X f (rU fun i=>.int (g i)):=by
 intro pins s σ H x v Q I rx h
 obtain⟨i,rfl,q⟩:=h
 obtain⟨t,rfl⟩:=rx
 exact rule i t s _ _ ⟨.int (g i),H,I.tok _,⟨_,rfl⟩,q⟩
theorem NO:oT X (unaryOp .USub) (rU fun i=>.int (-i)):=NN fun _ _ _ _ _ q=>neg_int q
end
def rD:V->V->Bool
 | .non,.non=>true | .non,.int _=>true | .int _,.non=>true | .non,.bl _=>true | .bl _,.non=>true | .non,.str _=>true | .str _,.non=>true
 | .int _,.int _=>true | .bl _,.bl _=>true | .str _,.str _=>true | .byt _,.byt _=>true
 | .int _,.str _=>true | .str _,.int _=>true | .bl _,.str _=>true | .str _,.bl _=>true
 | _,_=>false
def rEq:R2:=fun x y H Q=>rD x y=true/\Q (.bl (decide (x=y))) H
def NP:R2:=fun x y H Q=>rD x y=true/\Q (.bl (!decide (x=y))) H
theorem C6{i j:Int}:decide (V.int i=V.int j)=(i == j):=by
 rw[Eu]
 simp
theorem C7{i j:Bool}:decide (V.bl i=V.bl j)=(i == j):=by
 rw[Eu]
 simp
theorem C8{i j:Str}:decide (V.str i=V.str j)=(i == j):=by
 rw[Eu]
 simp
theorem C9{i j:Array UInt8}:decide (V.byt i=V.byt j)=(i.toList == j.toList):=by
 rw[Eu]
 cases i
 cases j
 simp
section
variable {X:Cx}{a b c:Expr}{ta tb tc:TE}{pos:Pos}
theorem cV{pins:List (Addr×Obj)}{σ:St}{H:Hp}{s:Ah}{Q:VK}{k k':Bool}(I:Inv X pins σ H s)(q:Q (.bl k) H)(e:k=k'):EP X pins σ Q (.bool k') s:=by
 subst e
 exact⟨.bl k,H,I,rfl,q⟩
theorem NQ:bG X (Bw .Eq) rEq:=by
 intro pins s σ H x y v u Q I rx ry h
 obtain⟨hs,q⟩:=h
 cases x with
 | non=>
  cases rx
  cases y with
  | non=>cases ry;exact PySem.EqNone.eq_none_none (cV I q (by simp))
  | bl j=>cases ry;exact PySem.EqNone.eq_none_bool (cV I q (by simp))
  | int j=>obtain⟨t',rfl⟩:=ry;exact PySem.EqNone.eq_none_int (cV I q (by simp))
  | str j=>obtain⟨t',rfl⟩:=ry;exact PySem.EqNone.eq_none_str (cV I q (by simp))
  | _=>exact absurd (show false=true from hs) Ar
 | bl i=>
  cases rx
  cases y with
  | non=>cases ry;exact PySem.EqNone.eq_bool_none (cV I q (by simp))
  | bl j=>cases ry;exact eq_bool (cV I q C7)
  | str j=>obtain⟨t',rfl⟩:=ry;exact PySem.EqMixed.eq_bool_str (cV I q (by simp))
  | _=>exact absurd (show false=true from hs) Ar
 | int i=>
  obtain⟨t,rfl⟩:=rx
  cases y with
  | non=>cases ry;exact PySem.EqNone.eq_int_none (cV I q (by simp))
  | int j=>obtain⟨t',rfl⟩:=ry;exact eq_int (cV I q C6)
  | str j=>obtain⟨t',rfl⟩:=ry;exact PySem.EqMixed.eq_int_str (cV I q (by simp))
  | _=>exact absurd (show false=true from hs) Ar
 | str i=>
  obtain⟨t,rfl⟩:=rx
  cases y with
  | non=>cases ry;exact PySem.EqNone.eq_str_none (cV I q (by simp))
  | bl j=>cases ry;exact PySem.EqMixed.eq_str_bool (cV I q (by simp))
  | int j=>obtain⟨t',rfl⟩:=ry;exact PySem.EqMixed.eq_str_int (cV I q (by simp))
  | str j=>obtain⟨t',rfl⟩:=ry;exact eq_str (cV I q C8)
  | _=>exact absurd (show false=true from hs) Ar
 | byt i=>
  obtain⟨t,rfl⟩:=rx
  cases y with
  | byt j=>obtain⟨t',rfl⟩:=ry;exact PySem.W.eq_bytes (cV I q C9)
  | _=>exact absurd (show false=true from hs) Ar
 | _=>cases y <;> exact absurd (show false=true from hs) Ar
theorem NR:bG X (Bw .NotEq) NP:=by
 intro pins s σ H x y v u Q I rx ry h
 obtain⟨hs,q⟩:=h
 cases x with
 | non=>
  cases rx
  cases y with
  | non=>cases ry;exact PySem.EqNone.ne_none_none (cV I q (by simp))
  | bl j=>cases ry;exact PySem.EqNone.ne_none_bool (cV I q (by simp))
  | int j=>obtain⟨t',rfl⟩:=ry;exact PySem.EqNone.ne_none_int (cV I q (by simp))
  | str j=>obtain⟨t',rfl⟩:=ry;exact PySem.EqNone.ne_none_str (cV I q (by simp))
  | _=>exact absurd (show false=true from hs) Ar
 | bl i=>
  cases rx
  cases y with
  | non=>cases ry;exact PySem.EqNone.ne_bool_none (cV I q (by simp))
  | bl j=>cases ry;exact ne_bool (cV I q (congrArg not C7))
  | str j=>obtain⟨t',rfl⟩:=ry;exact PySem.EqMixed.ne_bool_str (cV I q (by simp))
  | _=>exact absurd (show false=true from hs) Ar
 | int i=>
  obtain⟨t,rfl⟩:=rx
  cases y with
  | non=>cases ry;exact PySem.EqNone.ne_int_none (cV I q (by simp))
  | int j=>obtain⟨t',rfl⟩:=ry;exact ne_int (cV I q (congrArg not C6))
  | str j=>obtain⟨t',rfl⟩:=ry;exact PySem.EqMixed.ne_int_str (cV I q (by simp))
  | _=>exact absurd (show false=true from hs) Ar
 | str i=>
  obtain⟨t,rfl⟩:=rx
  cases y with
  | non=>cases ry;exact PySem.EqNone.ne_str_none (cV I q (by simp))
  | bl j=>cases ry;exact PySem.EqMixed.ne_str_bool (cV I q (by simp))
  | int j=>obtain⟨t',rfl⟩:=ry;exact PySem.EqMixed.ne_str_int (cV I q (by simp))
  | str j=>obtain⟨t',rfl⟩:=ry;exact ne_str (cV I q (congrArg not C8))
  | _=>exact absurd (show false=true from hs) Ar
 | byt i=>
  obtain⟨t,rfl⟩:=rx
  cases y with
  | byt j=>obtain⟨t',rfl⟩:=ry;exact PySem.W.ne_bytes (cV I q (congrArg not C9))
  | _=>exact absurd (show false=true from hs) Ar
 | _=>cases y <;> exact absurd (show false=true from hs) Ar
theorem NS:bG X (Bw .Lt) (kB fun i j=>.bl (decide (i < j))):=rC fun _ _ _ _ _ _ _ q=>lt_int q
theorem NT:bG X (Bw .LtE) (kB fun i j=>.bl (decide (i<=j))):=rC fun _ _ _ _ _ _ _ q=>le_int q
theorem NU:bG X (Bw .Gt) (kB fun i j=>.bl (decide (j < i))):=rC fun _ _ _ _ _ _ _ q=>gt_int q
theorem NV:bG X (Bw .GtE) (kB fun i j=>.bl (decide (j<=i))):=rC fun _ _ _ _ _ _ _ q=>ge_int q
theorem NW:bG X (Bw .In) (fun x y H Q=>∃ i j,x=.str i/\y=.str j/\Q (.bl (!(Ik j i 0 j.length 1).isEmpty)) H):=by
 intro pins s σ H x y v u Q I rx ry h
 obtain⟨i,j,rfl,rfl,q⟩:=h
 obtain⟨t,rfl⟩:=rx
 obtain⟨t',rfl⟩:=ry
 exact in_str (cV I q rfl)
theorem NX:bG X (Bw .Is) (fun x y H Q=>y=.non/\Q (.bl (decide (x=.non))) H):=by
 intro pins s σ H x y v u Q I rx ry h
 obtain⟨rfl,q⟩:=h
 cases ry
 refine is_none_gen (cV I q ?_)
 cases x <;> first
  | (cases rx;rfl)
  | (obtain⟨t,rfl⟩:=rx;rfl)
theorem NY:bG X (Bw .NotIn) (fun x y H Q=>∃ i j,x=.str i/\y=.str j/\Q (.bl (!(!(Ik j i 0 j.length 1).isEmpty))) H):=by
 intro pins s σ H x y v u Q I rx ry h
 obtain⟨i,j,rfl,rfl,q⟩:=h
 obtain⟨t,rfl⟩:=rx
 obtain⟨t',rfl⟩:=ry
 exact notIn_str (cV I q rfl)
theorem bG.or{f:Ae->Ae->Sem Ae}{r r':R2}(h:bG X f r)(h':bG X f r'):bG X f (fun x y H Q=>r x y H Q\/r' x y H Q):=by
 intro pins s σ H x y v u Q I rx ry q
 rcases q with q | q
 ·exact h pins s σ H x y v u Q I rx ry q
 ·exact h' pins s σ H x y v u Q I rx ry q
theorem DA(b:Expr){op:CmpOp}(h:op≠.In:=by decide)(h2:op≠.NotIn:=by decide):Hy op b=false:=by
 have e1:(op == CmpOp.In)=false:=by cases op <;> first | rfl | exact absurd rfl h
 have e2:(op == CmpOp.NotIn)=false:=by cases op <;> first | rfl | exact absurd rfl h2
 cases b <;> simp[Hy,e1,e2]
theorem NZ{op:CmpOp}{r:R2}(ho:bG X (Bw op) r)(ha:PE X a ta)(hb:PE X b tb)(hm:Hy op b=false):PE X (.Compare a [op] [b] pos) (oU r ta tb):=by
 intro pins s σ H Q I h
 exact wpAny_Compare1 (uZ ha hb I h fun v u s2 x y H2 I2 rx ry q=>ho pins s2 σ H2 x y v u Q I2 rx ry q) hm
def DB(t:TE):TT:=fun σ H Q=>t σ H fun x H'=>∃ k,x=.bl k/\Q k H'
theorem N0{op:CmpOp}{r:R2}(ho:bG X (Bw op) r)(ha:PE X a ta)(hb:PE X b tb)(hm:Hy op b=false):PT X (.Compare a [op] [b] pos) (DB (oU r ta tb)):=by
 intro pins s σ H Q I h
 refine wpAny_isTrue_Compare1 (a9 (ha pins s σ H _ I h) fun v s1 ⟨x,H1,I1,r1,q1⟩=>a9 (hb pins s1 σ H1 _ I1 q1) fun u s2 ⟨y,H2,I2,r2,q2⟩=>
  a9 (ho pins s2 σ H2 x y v u _ I2 r1 r2 q2) fun c s3 ⟨z,H3,I3,r3,k,e,q3⟩=>?_) hm
 subst e
 cases r3
 exact Ih ⟨H3,I3,q3⟩
def DC(r r':R2)(ta tb tc:TE):TE:=fun σ H Q=>ta σ H fun x H1=>tb σ H1 fun y H2=>r x y H2 fun z H3=>∃ k,z=.bl k/\
 (if k=true then tc σ H3 fun w' H4=>r' y w' H4 Q else Q (.bl false) H3)
theorem N2{op op':CmpOp}{r r':R2}(ho:bG X (Bw op) r)(ho':bG X (Bw op') r')(ha:PE X a ta)(hb:PE X b tb)(hc:PE X c tc)
  (hm:lastMarks [op,op'] [b,c]=false:=by with_unfolding_all rfl):PT X (.Compare a [op,op'] [b,c] pos) (DB (DC r r' ta tb tc)):=by
 intro pins s σ H Q I h
 refine isTrue_chain (a9 (ha pins s σ H _ I h) fun v s1 ⟨x,H1,I1,r1,q1⟩=>test_link (a9 (hb pins s1 σ H1 _ I1 q1) fun u s2 ⟨y,H2,I2,r2,q2⟩=>
  a9 (ho pins s2 σ H2 x y v u _ I2 r1 r2 q2) fun d s3 ⟨z,H3,I3,r3,k,e,q3⟩=>?_)) hm
 subst e
 cases r3
 refine Ih ?_
 cases k with
 | false=>
  obtain⟨k',e',q'⟩:=q3
  cases e'
  exact ite_ff ⟨H3,I3,q'⟩
 | true=>
  refine ite_tt (test_last (a9 (hc pins s3 σ H3 _ I3 q3) fun w' s4 ⟨z',H4,I4,r4,q4⟩=>a9 (ho' pins s4 σ H4 y z' u w' _ I4 r2 r4 q4) fun d' s5 ⟨z2,H5,I5,r5,k2,e2,q5⟩=>?_))
  subst e2
  cases r5
  exact Ih ⟨H5,I5,q5⟩
def DD(K:Ac)(x:V)(H:Hp)(k:Bool):Prop:=
 match x with
 | .non=>k=false
 | .bl b=>k=b
 | .int i=>k=(i != 0)
 | .str y=>y.length<=Am/\k=((y.length:Int) != 0)
 | .byt y=>y.size<=Am/\k=((y.size:Int) != 0)
 | .ref p=>(∃ xs,bF K H p xs/\k = !xs.isEmpty)\/(∃ xs,bN K H p xs/\k = !xs.isEmpty)\/∃ kvs,H p=some (.dK kvs)/\k = !kvs.isEmpty
 | _=>False
theorem N3{κ:Type}{kvs:List (κ×V)}{vs:List (κ×Ae)}(r:KV kvs vs):(!vs.isEmpty) = !kvs.isEmpty:=by
 cases r <;> rfl
theorem DE{xs:List V}{its:List Ae}(r:aZ xs its):(!its.toArray.isEmpty) = !xs.isEmpty:=by
 cases r <;> simp
theorem l9:(Am:Nat) < 2 ^ 63:=by rw[Ir];decide
theorem N4:NC X (fun x H Q=>∃ k,DD X.K x H k/\Q k H):=by
 intro pins s σ H x v Q I rx h
 obtain⟨k,e,q⟩:=h
 have hl:=l9
 have hs:Am=16777216:=Ir
 cases x with
 | non=>
  cases rx
  have e':k=false:=e
  subst e'
  exact truthy_none ⟨H,I,q⟩
 | bl b=>
  cases rx
  have e':k=b:=e
  subst e'
  exact Ih ⟨H,I,q⟩
 | int i=>
  obtain⟨t,rfl⟩:=rx
  have e':k=(i != 0):=e
  subst e'
  exact PySem.P.truthy_int ⟨H,I,q⟩
 | str y=>
  obtain⟨t,rfl⟩:=rx
  obtain⟨hy,e'⟩:y.length<=Am/\k=((y.length:Int) != 0):=e
  subst e'
  exact PySem.P.truthy_str (by lia) ⟨H,I.tok _,q⟩
 | byt y=>
  obtain⟨t,rfl⟩:=rx
  obtain⟨hy,e'⟩:y.size<=Am/\k=((y.size:Int) != 0):=e
  subst e'
  exact PySem.W.truthy_bytes (by lia) ⟨H,I.tok _,q⟩
 | ref p=>
  cases rx
  have e':(∃ xs,bF X.K H p xs/\k = !xs.isEmpty)\/(∃ xs,bN X.K H p xs/\k = !xs.isEmpty)\/∃ kvs,H p=some (.dK kvs)/\k = !kvs.isEmpty:=e
  rcases e' with⟨xs,hx,e'⟩ | ⟨xs,hx,e'⟩ | ⟨kvs,hx,e'⟩
  ·subst e'
   obtain⟨its,r,pl,hz⟩:=I.list hx
   have hlen:=r.length
   exact wpAny_truthy_list pl.isList (by simp only[Bb];lia) ⟨H,I.tok _,by rw[DE r];exact q⟩
  ·subst e'
   obtain⟨its,r,pl,hz⟩:=I.tuple hx
   have hlen:=r.length
   exact truthy_tuple pl (by simp only[Bb];lia) ⟨H,I.tok _,by rw[DE r];exact q⟩
  ·subst e'
   obtain⟨hz,hS,vs,r,m⟩:kvs.length<=Am/\(p == Gb)=false/\∃ vs,KV kvs vs/\s.heap.DictOf (dO X.prog X.w) p vs:=I.hok p _ hx
   have hlen:kvs.length=vs.length:=Ee r
   exact wpAny_truthy_dict hS m (by lia) ⟨H,I.tok _,by rw[N3 r];exact q⟩
 | _=>exact(show False from e).elim
theorem N5(ha:PE X a ta)(he:∀ whole,isTrue a X.env whole=(do let v <-whole;Nj a.pos;Ht [v] (truthy v))) :
  PT X a (fun σ H Q=>ta σ H fun x H'=>∃ k,DD X.K x H' k/\Q k H'):=by
 intro pins s σ H Q I h
 exact isTrue_plain (a9 (ha pins s σ H _ I h) fun v s1 ⟨x,H1,I1,r1,q1⟩=>N4 pins s1 σ H1 x v Q I1 r1 q1) (he _)
theorem vals1{x:V}{us:List Ae}(r:aZ [x] us):∃ u,us=[u]/\RelV x u:=by
 cases r with
 | cons r1 r2=>cases r2;exact⟨_,rfl,r1⟩
theorem vals2{x y:V}{us:List Ae}(r:aZ [x,y] us):∃ u w',us=[u,w']/\RelV x u/\RelV y w':=by
 cases r with
 | cons r1 r2=>
  cases r2 with
  | cons r3 r4=>cases r4;exact⟨_,_,rfl,r1,r3⟩
end
structure mB(h:Heap)(x dx C:Addr)(mA:Str->Option Ae):Prop where
 obj:h.get? x=some (Gm C dx)
 ns:h.Ns1 dx mA
 ne:dx≠x
theorem N6{h:Heap}{dx:Addr}{mA:Str->Option Ae}(n:h.Ns1 dx mA):∃ od,h.get? dx=some od/\∀ name,Mb name od=some (mA name):=by
 obtain⟨o,es,ep,ho,hd,hk,_,hm⟩:=n
 refine⟨o,ho,fun name=>?_⟩
 have e:=hm name
 unfold nsFind findBy at e
 rw[<-Array.find?_toList] at e
 unfold Mb
 rw[hd]
 dsimp only
 split
 ·rename_i y q
  rw[q] at e
  exact congrArg some e
 ·rename_i q
  rw[q] at e
  have a:es.toList.any (·.refKey)=false:=by
   rw[List.any_eq_false]
   intro y hy
   obtain⟨z,t,hkey⟩:=hk y (Array.mem_toList_iff.mp hy)
   simp[DictEntry.refKey,hkey]
  have a':¬ es.toList.any (·.refKey)=true:=by rw[a];exact Ar
  rw[if_neg a']
  exact congrArg some e
theorem mB.look{h:Heap}{x dx C:Addr}{mA:Str->Option Ae}(I:mB h x dx C mA):∃ od,PySem.W.InstAt h x (Gm C dx) C (some od)/\∀ name,Mb name od=some (mA name):=
 let ⟨od,ho,hl⟩:=N6 I.ns
 ⟨od,⟨I.obj,rfl,rfl,ho⟩,hl⟩
section
variable {prog:Bo}{w:Ce}{A:Ck}{E:Ae->Ah->Prop}{s:Ah}{K:Ac}{x dx C f:Addr}{mA:Str->Option Ae}{name:Str}{v:Ae}
theorem N7{expr:Bool}{Q:Ae->Ah->Prop}(X:K.In s.heap)(I:mB s.heap x dx C mA)(hg:Lc K C name=true)(hh:PySem.W.hasDictIn K C=true)
  (ha:Cf K (.ref C) name=some none) (hv:mA name=some v) (hv':PySem.W.handedIn v=true) (h:Q v {s with toks:=s.toks + 1}) :
  Ba (Bj prog w) A (getAttr (.ref x) name expr) Q E s:=by
 obtain⟨od,J,hl⟩:=I.look
 exact PySem.W.get_value X J (Mi hg).1 (PySem.W.findObj_own hh ha rfl (by rw[hl,hv])) hv' h
theorem N8{pl:Sem Bool}{Q:Ae×List Ae->Ah->Prop}(X:K.In s.heap)(I:mB s.heap x dx C mA)(hg:Lc K C name=true)
  (hf:Cf K (.ref C) name=some (some (.ref f))) (ht:Lm K (.ref f)=true) (hv:mA name=none) (h:Q (.ref f,[.ref x]) s) :
  Ba (Bj prog w) A (Nl (.ref x) name pl) Q E s:=by
 obtain⟨od,J,hl⟩:=I.look
 exact PySem.W.method_fn X J (Mi hg).1 (Mi hg).2 hf (beq_iff_eq.mp ht) (by show(Mb name od).map (·.isSome)=some false;rw[hl,hv];rfl) h
theorem N9{ns:List Str}{Q:Unit->Ah->Prop}(X:K.In s.heap)(I:mB s.heap x dx C mA)
  (hs:Cf K (.ref C) "__setattr__" = some (some (.builtin "object.__setattr__"))) (hp:PySem.W.plainOver K C=true) (ht:PySem.W.takerIn K C name=some none) (hh:PySem.W.hasDictIn K C=true)
  (hw:PySem.Within mA ns) (hsz:ns.length<=Am)
  (h:∀ h',mB h' x dx C (fun y=>if y=name then some v else mA y)->Dn dx s.heap h'->Q () {s with heap:=h',toks:=s.toks + 2}) :
  Ba (Bj prog w) A (setAttr (.ref x) name v) Q E s:=by
 obtain⟨od,J,hl⟩:=I.look
 refine PySem.W.set_plain X J hs (PySem.W.osa_open (s:={s with toks:=s.toks + 1}) (r:=none) X J hp ht fun b=>?_)
 obtain⟨cd,hc,hd'⟩:=PySem.W.any_some hh
 have hx:s.heap.get? x=some ⟨.ref C,some dx,.plain,#[]⟩:=I.obj
 refine Aa (Ag (Aa (Aa (wpAny_loadPart hx (Aa (PySem.W.Looks.here (s:={s with toks:=s.toks + 1}) (PySem.W.looks_clsIn X hc) ?_))))))
 rw[hd']
 refine Ag (a:=some dx) (Aa (Ag (Aa ?_)))
 refine wpAny_nsSet1 (s:={s with toks:=s.toks + 1}) I.ns fun h' hn2 hs2=>?_
 obtain⟨oD,esD,epD,hoD,hdD,hcD⟩:=hn2.count (PySem.Within.cons name v hw)
 refine Aa (wpAny_lookBehind hoD (by rw[hdD];exact pastItsLine_dict (Bc hcD (by rw[Bn];lia))) ?_)
 exact Ag (h _ ⟨(hs2.2 _ (Bp I.ne)).trans I.obj,hn2,I.ne⟩ hs2)
theorem OA{R:Result->Ah->Prop}{vs:List Ae}{kw:List (Str×Ae)}(X:K.In s.heap)(hm:PySem.W.makesIn K C=true)
  (hi:Cf K (.ref C) "__init__" = some (some (.ref f))) (hf:PySem.W.typeIn K (.ref f)=some (.type "function"))
  (h:Jb (Bj prog w) (A.under (.builtin "type.__call__" ⟨.ref C :: vs,kw⟩)) (.call (.ref f) ⟨.ref (s.heap.objs.size + 1) :: vs,kw⟩) (PySem.W.InitBack (s.heap.objs.size + 1) R)
   {s with heap:=(s.heap.push Ey).push (Gm C s.heap.objs.size)}) :
  Jb (Bj prog w) A (.call (.ref C) ⟨vs,kw⟩) R s:=by
 obtain⟨hh,g,d,t,os⟩:=s
 exact PySem.W.make_core (PySem.W.makes_of X hm) (PySem.W.looks_findIn X hi) (fun self=>PySem.W.bind_fn X self hf) (.inl rfl) h
end
def putF(f:Str)(v:V):List (Str×V)->List (Str×V)
 | []=>[(f,v)]
 | (g,x) :: r=>if g=f then(g,v) :: r else(g,x) :: putF f v r
theorem DF(f g:Str)(v:V):∀ fs:List (Str×V),(putF f v fs).lookup g=if g=f then some v else fs.lookup g
 | []=>by
  show Cg g [(f,v)]=_
  by_cases h:g=f
  ·have hb:(g == f)=true:=beq_iff_eq.mpr h
   simp only[Cg,hb,if_pos h]
  ·have hb:(g == f)=false:=beq_eq_false_iff_ne.mpr h
   simp only[Cg,hb,if_neg h]
 | (k,x) :: r=>by
  have ih:=DF f g v r
  rw[show putF f v ((k,x) :: r)=(if k=f then(k,v) :: r else(k,x) :: putF f v r) from rfl]
  by_cases hk:k=f
  ·rw[if_pos hk]
   by_cases h:g=k
   ·have hb:(g == k)=true:=beq_iff_eq.mpr h
    simp only[Cg,hb,if_pos (h.trans hk)]
   ·have hb:(g == k)=false:=beq_eq_false_iff_ne.mpr h
    simp only[Cg,hb,if_neg (fun e:g=f=>h (e.trans hk.symm))]
  ·rw[if_neg hk]
   by_cases h:g=k
   ·have hb:(g == k)=true:=beq_iff_eq.mpr h
    simp only[Cg,hb,if_neg (fun e:g=f=>hk (h.symm.trans e))]
   ·have hb:(g == k)=false:=beq_eq_false_iff_ne.mpr h
    simp only[Cg,hb]
    exact ih
theorem u0(f:Str)(v:V):∀ fs:List (Str×V),f∈(putF f v fs).map (·.1)/\∀ g,g∈fs.map (·.1)->g∈(putF f v fs).map (·.1)
 | []=>⟨by simp[putF],fun g h=>by simp at h⟩
 | (k,x) :: r=>by
  obtain⟨i1,i2⟩:=u0 f v r
  rw[show putF f v ((k,x) :: r)=(if k=f then(k,v) :: r else(k,x) :: putF f v r) from rfl]
  by_cases hk:k=f
  ·rw[if_pos hk]
   subst hk
   exact⟨by simp,fun g h=>by simpa using h⟩
  ·rw[if_neg hk]
   refine⟨?_,fun g h=>?_⟩
   ·rw[Ay]
    exact Bd _ i1
   ·rw[Ay] at h ⊢
    rcases Ax.mp h with e | e
    ·exact Ax.mpr (.inl e)
    ·exact Bd _ (i2 g e)
theorem DG(f:Str)(v:V):∀ fs:List (Str×V),(putF f v fs).length<=fs.length + 1
 | []=>by simp[putF]
 | (k,x) :: r=>by
  have ih:=DG f v r
  rw[show putF f v ((k,x) :: r)=(if k=f then(k,v) :: r else(k,x) :: putF f v r) from rfl]
  by_cases hk:k=f
  ·rw[if_pos hk,Bn,Bn];lia
  ·rw[if_neg hk,Bn,Bn];lia
theorem fB.some_of{v:V}{o:Option Ae}(r:fB (some v) o):∃ u,o=some u/\RelV v u:=by
 cases o with
 | none=>exact(show False from r).elim
 | some u=>exact⟨u,rfl,r⟩
theorem fB.none_of{o:Option Ae}(r:fB none o):o=none:=by
 cases o with
 | none=>rfl
 | some u=>exact(show False from r).elim
theorem OB{v:V}{u:Ae}(r:RelV v u):PySem.W.handedIn u=true:=by
 cases v with
 | non=>cases (show u=Value.none from r);rfl
 | bl b=>cases (show u=Value.bool b from r);rfl
 | int i=>obtain⟨t,e⟩:=(show ∃ t,u=Value.int i t from r);cases e;rfl
 | str x=>obtain⟨t,e⟩:=(show ∃ t,u=Value.str x t from r);cases e;rfl
 | byt b=>obtain⟨t,e⟩:=(show ∃ t,u=Value.bytes b t from r);cases e;rfl
 | flt b=>obtain⟨t,e⟩:=(show ∃ t,u=Value.float b t from r);cases e;rfl
 | ref a=>cases (show u=Value.ref a from r);rfl
 | ty n=>cases (show u=Value.type n from r);rfl
section
variable {P:Bo}{w:Ce}{H H':Hp}{h h':Heap}{a C dx:Addr}{fs fs':List (Str×V)}
theorem rE(hok:cR P w H h)(e:H a=some (.ins C dx fs)):∃ mA,mB h a dx C mA/\(∀ f,fB (fs.lookup f) (mA f))/\PySem.Within mA (fs.map (·.1))/\fs.length<=1000/\H dx=some (.own a):=by
 obtain⟨d,z,ne,ob,mA,n,r,q⟩:=(show cN P w H h a (.ins C dx fs) from hok a _ e)
 exact⟨mA,⟨ob,n,ne⟩,r,q,z,d⟩
end
structure gB(K:Ac)(C:Addr):Prop where
 pg:Lc K C Str.empty=true
 hd:PySem.W.hasDictIn K C=true
 po:PySem.W.plainOver K C=true
 sa:Cf K (.ref C) "__setattr__" = some (some (.builtin "object.__setattr__"))
theorem gB.get{K:Ac}{C:Addr}(c:gB K C)(f:Str):Lc K C f=true:=c.pg
def fN(K:Ac)(C:Addr)(f:Str):Prop:=Cf K (.ref C) f=some none
theorem fN.taker{K:Ac}{C:Addr}{f:Str}(n:fN K C f):PySem.W.takerIn K C f=some none:=by
 unfold PySem.W.takerIn
 rw[show Cf K (.ref C) f=some none from n]
 rfl
structure nF(K:Ac)(C:Addr)(m:Str)(f:Addr):Prop where
 at_:Cf K (.ref C) m=some (some (.ref f))
 fn:Lm K (.ref f)=true
 kp:Ex K (.ref f)=true
section
variable {X:Cx}{pins:List (Addr×Obj)}{σ:St}{H:Hp}{s:Ah}{a C dx:Addr}{fs:List (Str×V)}{f:Str}{v:V}{A:Ck}{E:Ae->Ah->Prop}
theorem OC{b:Bool}{Q:Ae->Ah->Prop}(I:Inv X pins σ H s)(e:H a=some (.ins C dx fs))(c:gB X.K C)(n:fN X.K C f)(l:fs.lookup f=some v)
  (h:∀ u s',Inv X pins σ H s'->RelV v u->Q u s'):Ba (Bj X.prog X.w) A (getAttr (.ref a) f b) Q E s:=by
 obtain⟨mA,O,r,_,_,_⟩:=rE I.hok e
 obtain⟨u,hu,ru⟩:=fB.some_of (v:=v) (o:=mA f) (by rw[<-l];exact r f)
 exact N7 I.kIn O (c.get f) c.hd n hu (OB ru) (h u _ (I.tok _) ru)
theorem DH{m:Str}{g:Addr}{pl:Sem Bool}{Q:Ae×List Ae->Ah->Prop}(I:Inv X pins σ H s)(e:H a=some (.ins C dx fs))(c:gB X.K C)(k:nF X.K C m g)(l:fs.lookup m=none)
  (h:Q (.ref g,[.ref a]) s):Ba (Bj X.prog X.w) A (Nl (.ref a) m pl) Q E s:=by
 obtain⟨mA,O,r,_,_,_⟩:=rE I.hok e
 have hn:mA m=none:=fB.none_of (by rw[<-l];exact r m)
 exact N8 I.kIn O (c.get m) k.at_ k.fn hn h
theorem OD{y:V}{u:Ae}{Q:Unit->Ah->Prop}(I:Inv X pins σ H s)(e:H a=some (.ins C dx fs))(c:gB X.K C)(n:fN X.K C f)(hl:fs.length < 1000)(ry:RelV y u)
  (h:∀ s',Inv X pins σ (aQ H a (.ins C dx (putF f y fs))) s'->Q () s'):Ba (Bj X.prog X.w) A (setAttr (.ref a) f u) Q E s:=by
 obtain⟨mA,O,r,wi,_,ho⟩:=rE I.hok e
 have hz:(fs.map (·.1)).length<=Am:=by rw[Ab,Ir];lia
 refine N9 I.kIn O c.sa c.po n.taker c.hd wi hz fun h' O' sb=>h _ ?_
 have hd:∃ o,h'.get? dx=some o:=let ⟨o,_,_,e',_⟩:=O'.ns;⟨o,e'⟩
 refine I.write (x:=a) (e:=dx) (by rw[e];exact True.intro) (.inr ho) (fun b q hb z=>(sb.2 b hb).trans z) hd ?_
 refine⟨by rw[bH O.ne];exact ho,?_,O.ne,O'.obj,_,O'.ns,fun g=>?_,fun g hg=>?_⟩
 ·have:=DG f y fs;lia
 ·show fB ((putF f y fs).lookup g) (if g=f then some u else mA g)
  rw[DF]
  by_cases q:g=f
  ·rw[if_pos q,if_pos q];exact ry
  ·rw[if_neg q,if_neg q];exact r g
 ·by_cases q:g=f
  ·rw[q];exact(u0 f y fs).1
  ·refine(u0 f y fs).2 g (wi g fun z=>hg ?_)
   show(if g=f then some u else mA g)=none
   rw[if_neg q];exact z
theorem Inv.made(I:Inv X pins σ H s):Inv X pins σ (aQ (aQ H s.heap.objs.size (.own (s.heap.objs.size + 1))) (s.heap.objs.size + 1) (.ins C s.heap.objs.size []))
  {s with heap:=(s.heap.push Ey).push (Gm C s.heap.objs.size)}:=by
 have e1:(s.heap.push Ey).get? s.heap.objs.size=some Ey:=Au s.heap rfl
 have e2:((s.heap.push Ey).push (Gm C s.heap.objs.size)).get? (s.heap.objs.size + 1)=some (Gm C s.heap.objs.size):=by
  have:=Au (s.heap.push Ey) (o:=Gm C s.heap.objs.size) rfl
  rwa [Cz] at this
 have e3:(s.heap.push Ey).Ns s.heap.objs.size (fun _=>none):=⟨Ey,#[],_,e1,rfl,(fun e he=>absurd he (by simp)),fun _=>rfl⟩
 have I1:=I.laid (a:=s.heap.objs.size) (o:=.own (s.heap.objs.size + 1)) (h':=s.heap.push Ey) (t':=s.toks) (fun b u q=>Af _ q) (Aj _) ⟨_,e1⟩
 refine I1.laid (a:=s.heap.objs.size + 1) (o:=.ins C s.heap.objs.size []) (t':=s.toks) (fun b u q=>Af _ q) (Fp (Cz _ _)) ?_
 have ne:s.heap.objs.size≠s.heap.objs.size + 1:=Be (Gh _)
 refine⟨by rw[bH ne,cU],Ci _,ne,e2,fun _=>none,(Heap.Ns1.of_empty e3).at fun o q=>Af _ q,fun _=>True.intro,fun y hy=>absurd rfl hy⟩
theorem OE{prog:Bo}{w:Ce}{env:Env}{e:Expr}{f:Str}{pos:Pos}{s:Ah}{Q:Ae->Ah->Prop}(hb:Jl e f env (eval e env)=eval e env)
  (h:Ba (Bj prog w) A (eval e env) (fun o s₁=>Ba (Bj prog w) A (getAttr o f true) Q E s₁) E s):Ba (Bj prog w) A (eval (.Attribute e f pos) env) Q E s:=
 Attribute_any_ h (by rw[arm_eval_Attribute,hb])
end
def OF(K:Ac)(ta:TE)(f:Str):TE:=fun σ H Q=>ta σ H fun x H1=>∃ a C dx fs v,x=.ref a/\H1 a=some (.ins C dx fs)/\gB K C/\fN K C f/\fs.lookup f=some v/\Q v H1
def OG(K:Ac)(ta tv:TE)(f:Str):TS:=fun D σ H=>tv σ H fun y H1=>ta σ H1 fun x H2=>∃ a C dx fs,x=.ref a/\H2 a=some (.ins C dx fs)/\gB K C/\fN K C f/\fs.length < 1000/\
 D.nx σ (aQ H2 a (.ins C dx (putF f y fs)))
section
variable {X:Cx}{o e value:Expr}{f:Str}{pos pos' tpos:Pos}{ta tv:TE}
theorem OH(he:PE X e ta)(hb:Jl e f X.env (eval e X.env)=eval e X.env):PE X (.Attribute e f pos) (OF X.K ta f):=by
 intro pins s σ H Q I h
 refine OE hb (a9 (he pins s σ H _ I h) fun u s1 ⟨x,H1,I1,rx,a,C,dx,fs,v,ex,ea,c,n,l,q⟩=>?_)
 subst ex
 obtain rfl:u=Value.ref a:=rx
 exact OC I1 ea c n l fun u' s2 I2 ru=>⟨v,H1,I2,ru,q⟩
theorem OI(ha:PE X o ta)(hv:PE X value tv)(hs:Js value (some (.Attribute o f pos')) pos.line X.env=pure false):PS X (.Assign [.Attribute o f pos'] value pos) (OG X.K ta tv f):=by
 intro pins s σ H D I h
 refine plainObj_wpAny_Assign_Attribute (a9 (hv pins s σ H _ I h) fun u s1 ⟨y,H1,I1,ry,q⟩=>a9 (ha pins s1 σ H1 _ I1 q) fun ov s2 ⟨x,H2,I2,rx,a,C,dx,fs,ex,ea,c,n,l,q2⟩=>?_) hs
 subst ex
 obtain rfl:ov=Value.ref a:=rx
 exact OD I2 ea c n l ry fun s3 I3=>⟨σ,_,I3,q2⟩
end
section
variable {X:Cx}{pins:List (Addr×Obj)}{σ:St}{H:Hp}{s:Ah}{A:Ck}{E:Ae->Ah->Prop}{Q:Ae->Ah->Prop}{c:Ae}{b:Bool}
inductive gW(K:Ac)(H:Hp):V->Ae->Prop where
 | non:gW K H .non (.type "NoneType")
 | bl (x:Bool):gW K H (.bl x) (.type "bool")
 | int (i:Int):gW K H (.int i) (.type "int")
 | str (x:Str):gW K H (.str x) (.type "str")
 | flt (x:UInt64):gW K H (.flt x) (.type "float")
 | lst {a:Addr} {xs:List V} (e:H a=some (.lst xs)):gW K H (.ref a) (.type "list")
 | frz {a:Addr} {o:Obj} {xs:List V} (e:H a=some (.frz o (.lst xs))):gW K H (.ref a) (.type "list")
 | tup {a:Addr} {xs:List V} (e:H a=some (.tup xs)):gW K H (.ref a) (.type "tuple")
 | dK {a:Addr} {kvs:List (aE×V)} (e:H a=some (.dK kvs)):gW K H (.ref a) (.type "dict")
 | dT {a:Addr} {kvs:List (List aE×V)} (e:H a=some (.dT kvs)):gW K H (.ref a) (.type "dict")
 | ins {a C dx:Addr} {fs:List (Str×V)} (e:H a=some (.ins C dx fs)) (cl:gB K C) (ha:Cf K (.ref C) "__class__" = some (some (.builtin "object.__class__")))
   (hn:PySem.W.specialIn K (.builtin "object.__class__") "__get__" = some (some (.builtin "getset_descriptor.__get__"))) (htk:PySem.W.takesIn K (.builtin "object.__class__")=some true)
   (hm:PySem.W.mroIn K C (.type "object")=some true):gW K H (.ref a) (.ref C)
theorem OJ{x:V}{u t:Ae}(I:Inv X pins σ H s)(rx:RelV x u)(ty:gW X.K H x t)(e:Jf X.K t c=some b)(h:∀ tk,Q (.bool b) {s with toks:=tk}) :
  Ba (Bj X.prog X.w) A (call (.builtin "isinstance") [u,c]) Q E s:=by
 cases ty with
 | non=>cases (show u=Value.none from rx);exact Eo PySem.W.kitx_none I.kIn True.intro e (fun z=>nomatch z) h
 | bl y=>cases (show u=Value.bool y from rx);exact Eo PySem.W.kitx_bool I.kIn True.intro e (fun z=>nomatch z) h
 | int i=>obtain⟨t,q⟩:=(show ∃ t,u=Value.int i t from rx);cases q;exact Eo PySem.W.kitx_int I.kIn True.intro e (fun z=>nomatch z) h
 | str y=>obtain⟨t,q⟩:=(show ∃ t,u=Value.str y t from rx);cases q;exact Eo PySem.W.kitx_str I.kIn True.intro e (fun z=>nomatch z) h
 | flt y=>obtain⟨t,q⟩:=(show ∃ t,u=Value.float y t from rx);cases q;exact Eo PySem.W.kitx_float I.kIn True.intro e (fun z=>nomatch z) h
 | @lst a xs ea=>
  cases (show u=Value.ref a from rx)
  obtain⟨_,_,n,_,h1⟩:=(show cN X.prog X.w H s.heap a (.lst xs) from I.hok a _ ea)
  exact Eo PySem.W.kitx_list I.kIn ⟨_,h1,rfl⟩ e (fun z=>nomatch z) h
 | @frz a ob xs ea=>
  cases (show u=Value.ref a from rx)
  obtain⟨_,_,_,n,_,h1⟩:=(show cN X.prog X.w H s.heap a (.frz ob (.lst xs)) from I.hok a _ ea)
  exact Eo PySem.W.kitx_list I.kIn ⟨_,h1,rfl⟩ e (fun z=>nomatch z) h
 | @tup a xs ea=>
  cases (show u=Value.ref a from rx)
  obtain⟨_,_,_,p⟩:=(show cN X.prog X.w H s.heap a (.tup xs) from I.hok a _ ea)
  obtain⟨o,h1,h2,_⟩:=p
  exact Eo PySem.W.kitx_tuple I.kIn ⟨o,h1,h2⟩ e (fun z=>nomatch z) h
 | @dK a kvs ea=>
  cases (show u=Value.ref a from rx)
  obtain⟨_,_,vs,_,p⟩:=(show cN X.prog X.w H s.heap a (.dK kvs) from I.hok a _ ea)
  obtain⟨o,es,ep,h1,h2,_⟩:=p
  exact Eo PySem.W.kitx_dict I.kIn ⟨o,h1,h2.1⟩ e (fun z=>nomatch z) h
 | @dT a kvs ea=>
  cases (show u=Value.ref a from rx)
  obtain⟨_,_,xs,_,o,es,ep,h1,h2,_⟩:=(show cN X.prog X.w H s.heap a (.dT kvs) from I.hok a _ ea)
  exact Eo PySem.W.kitx_dict I.kIn ⟨o,h1,h2.1⟩ e (fun z=>nomatch z) h
 | @ins a C dx fs ea cl ha hn htk hm=>
  cases (show u=Value.ref a from rx)
  obtain⟨mA,O,_⟩:=rE I.hok ea
  obtain⟨od,J,_⟩:=O.look
  exact Eo (PySem.W.kitx_own (cl.get _) cl.hd ha hn htk hm) I.kIn J e (fun z=>nomatch z) h
end
structure cM(k:Nat)(A:Ck):Prop where
 hd:A.handled=none
 dp:A.depth + 3 * k + 5 < recursionLimit
 un:A.units + 16 * k + 200 < Fn
theorem cM.mono{j k:Nat}{A:Ck}(r:cM k A)(h:j<=k):cM j A:=⟨r.hd,by have:=r.dp;lia,by have:=r.un;lia⟩
theorem cM.deeper{k:Nat}{A:Ck}(r:cM (k + 1) A)(env:Env):cM k (A.deeper env):=
 ⟨r.hd,by have:=r.dp;show A.depth + 1 + 3 * k + 5 < _;lia,by have:=r.un;show A.units + 3 + 16 * k + 200 < _;lia⟩
theorem OK{A:Ck}{C:Addr}{us:List Ae}{kw:List (Str×Ae)}:(A.under (.builtin "type.__call__" ⟨.ref C :: us,kw⟩)).depth=A.depth + 1:=by
 first | rfl | simp[Around.under,Code.weight,Code.isCreation,Code.isGuard,Code.isCaller,Code.frames,Code.isFrame,guardIds]
theorem OL{A:Ck}{C:Addr}{us:List Ae}{kw:List (Str×Ae)}:(A.under (.builtin "type.__call__" ⟨.ref C :: us,kw⟩)).units=A.units + 1:=by
 first | rfl | simp[Around.under,Code.cUnits,Code.frames,Code.isFrame]
theorem cM.make{k:Nat}{A:Ck}(r:cM (k + 1) A)(C:Addr)(us:List Ae)(kw:List (Str×Ae)):cM k (A.under (.builtin "type.__call__" ⟨.ref C :: us,kw⟩)):=
 ⟨r.hd,by have:=r.dp;rw[OK];lia,by have:=r.un;rw[OL];lia⟩
theorem cM.depth{k:Nat}{A:Ck}(r:cM k A):A.depth < recursionLimit:=by have:=r.dp;lia
theorem cM.units{k:Nat}{A:Ck}(r:cM k A):A.units + 64 < Fn:=by have:=r.un;lia
def u3:TA:=fun _ H Q=>Q [] H
def OM(ta:TE)(tr:TA):TA:=fun σ H Q=>ta σ H fun x H1=>tr σ H1 fun xs H2=>Q (x :: xs) H2
section
variable {X:Cx}{e:Expr}{es:List Expr}{te:TE}{t:TA}{pos:Pos}
theorem ON:PA X [] u3:=fun _ _ _ _ H Q I h=>Calls.spliced_nil ⟨[],H,I,.nil,h⟩
theorem OO(ha:PE X e te)(hr:PA X es t)(hs:Bh (e :: es) X.env=(false,eval e X.env) :: Bh es X.env:=by rfl):PA X (e :: es) (OM te t):=by
 intro pos pins s σ H Q I h
 rw[hs]
 show Ba _ _ (spliced ((false,eval e X.env) :: Hf pos (Bh es X.env))) _ _ s
 refine Calls.spliced_cons (a9 (ha pins s σ H _ I h) fun u s1 ⟨x,H1,I1,r1,q1⟩=>?_)
 exact a9 (hr pos pins s1 σ H1 _ I1 q1) fun us s2 ⟨xs,H2,I2,r2,q2⟩=>⟨x :: xs,H2,I2,.cons r1 r2,q2⟩
def OP(t:TA):TE:=fun σ H Q=>t σ H fun xs H1=>xs.length<=Am/\∀ p,H1 p=none->Q (.ref p) (aQ H1 p (.tup xs))
def OQ(t:TA):TE:=fun σ H Q=>t σ H fun xs H1=>xs.length<=Am/\∀ p,H1 p=none->Q (.ref p) (aQ H1 p (.lst xs))
theorem OR{x1}(h:PA X es t):PE X (.Tuple es x1 pos) (OP t):=by
 intro pins s σ H Q I hq
 refine wpAny_Tuple_spliced (a9 (h pos pins s σ H _ I hq) fun us s1 ⟨xs,H1,I1,r,z,q⟩=>⟨by rw[<-r.length];exact z,?_⟩)
 have hf:H1 s1.heap.objs.size=none:=I1.hok.fresh (Aj _)
 refine⟨.ref s1.heap.objs.size,aQ H1 s1.heap.objs.size (.tup xs),I1.laid (t':=s1.toks) (fun b u e=>Af _ e) (Aj _) ?_,rfl,q _ hf⟩
 exact⟨z,us,r,⟨_,Au _ rfl,rfl,_,rfl⟩⟩
theorem DJ(h:PA X es t):PE X (.List es pos) (OQ t):=by
 intro pins s σ H Q I hq
 refine wpAny_List_spliced (a9 (h pos pins s σ H _ I hq) fun us s1 ⟨xs,H1,I1,r,z,q⟩=>⟨by rw[<-r.length];exact z,?_⟩)
 have hf:H1 s1.heap.objs.size=none:=I1.hok.fresh (Aj _)
 refine⟨.ref s1.heap.objs.size,aQ H1 s1.heap.objs.size (.lst xs),I1.laid (t':=s1.toks) (fun b u e=>Af _ e) (Aj _) ?_,rfl,q _ hf⟩
 exact⟨z,us,0,r,Au _ rfl⟩
end
abbrev Sp:=List V->Hp->VK->XK->Prop
abbrev jL:=List Env->Hp->Ah->XK->Ae->Ah->Prop
structure mC(P:Bo)(w:Ce)(K:Ac)(mg:Str->Option Ae)(base:Heap)(A:Ck)(outer:List Env)(s:Ah)(H:Hp):Prop where
 frames:A.frames=some outer
 mod:Mod K mg base
 bs:∀ b o,base.get? b=some o->s.heap.get? b=some o/\H b=none
 bsz:base.objs.size<=s.heap.objs.size
 funs:s.heap.FunFrames base outer
 frf:∀ b∈gV outer,H b=none
 hok:cR P w H s.heap
 bare:Mz s.gens
def CE(outer:List Env)(P:Bo)(w:Ce)(H:Hp)(s:Ah)(Q:VK)(u:Ae)(s':Ah):Prop:=
 ∃ v H',s'.os=s.os/\Mz s'.gens/\Un (gV outer) [] H H' s.heap s'.heap/\cR P w H' s'.heap/\RelV v u/\Q v H'
def CR(CX:jL)(outer:List Env)(P:Bo)(w:Ce)(H:Hp)(s:Ah)(Q:VK)(E:XK)(r:Result)(s':Ah):Prop:=
 match r with
 | .ok (.ret u)=>CE outer P w H s Q u s'
 | .ok _=>False
 | .error e=>CX outer H s E e s'
structure eC(P:Bo)(w:Ce)(K:Ac)(mg:Str->Option Ae)(base:Heap)(CX:jL)(k:Nat)(f:Addr)(fd:Bk)(ps:List Str)(sp:Sp):Prop where
 len:∀ vs H Q E,sp vs H Q E->vs.length=ps.length
 run:∀ (A:Ck) (outer:List Env) (s:Ah) (H:Hp) (args:Args) (us:List Ae) (vs:List V) (Q:VK) (E:XK),cM k A->mC P w K mg base A outer s H->BindsTo s fd args (ps.zip us)->aZ vs us->sp vs H Q E->
  Jb (Bj P w) A (.call (.ref f) args) (CR CX outer P w H s Q E) s
theorem mC.make{P:Bo}{w:Ce}{K:Ac}{mg:Str->Option Ae}{base:Heap}{A:Ck}{outer:List Env}{s:Ah}{H:Hp}(e:mC P w K mg base A outer s H)(C:Addr)(us:List Ae)(kw:List (Str×Ae)) :
  mC P w K mg base (A.under (.builtin "type.__call__" ⟨.ref C :: us,kw⟩)) outer s H:=⟨by first | exact e.frames | (simpa [Around.under,Code.envs,Code.isFrame,pushEnvs] using e.frames),e.mod,e.bs,e.bsz,e.funs,e.frf,e.hok,e.bare⟩
section
variable {X:Cx}{pins:List (Addr×Obj)}{σ:St}{H:Hp}{s s':Ah}
theorem Inv.env0(I:Inv X pins σ H s):mC X.prog X.w X.K X.mg X.base X.A X.stack s H:=
 ⟨I.ok.frames,I.ok.mod,I.bs,Bc I.ok.bsz I.sz,I.stack,I.stkFree,I.hok,I.bare⟩
theorem Inv.after{Q:VK}{u:Ae}(I:Inv X pins σ H s)(h:CE X.stack X.prog X.w H s Q u s'):EP X pins σ Q u s':=by
 obtain⟨v,H',os,bare,un,hok,r,q⟩:=h
 obtain⟨hh,g,d,t,os'⟩:=s'
 obtain rfl:os'=s.os:=os
 exact⟨v,H',I.call (h':=hh) (g':=g) (d':=d) (t':=t) (ch:=[]) un hok bare (fun b z=>absurd z (by simp)),r,q⟩
end
def DK(sp:Sp)(dvs:List V)(E:XK)(t:TA):TE:=fun σ H Q=>t σ H fun vs H1=>sp (vs ++ dvs) H1 Q E
def u5(C:Addr)(m:Str)(sp:Sp)(dvs:List V)(E:XK)(ta:TE)(t:TA):TE:=fun σ H Q=>ta σ H fun x H1=>∃ a dx fs,x=.ref a/\H1 a=some (.ins C dx fs)/\fs.lookup m=none/\
 t σ H1 fun vs H2=>sp (x :: (vs ++ dvs)) H2 Q E
def DL(C:Addr)(sp:Sp)(dvs:List V)(E:XK)(t:TA):TE:=fun σ H Q=>t σ H fun vs H1=>∀ x dx,H1 x=none->H1 dx=none->dx≠x->
 sp (.ref x :: (vs ++ dvs)) (aQ (aQ H1 dx (.own x)) x (.ins C dx [])) (fun v H2=>v=.non/\Q (.ref x) H2) E
def Binds(K:Ac)(fd:Bk)(ps:List Str)(ds:List Ae):Prop:=
 ∀ (s:Ah) (us:List Ae),K.In s.heap->(us ++ ds).length=ps.length->BindsTo s fd ⟨us,[]⟩ (ps.zip (us ++ ds))
theorem Binds.all{K:Ac}{fd:Bk}{ps:List Str}(h:∀ us:List Ae,us.length=ps.length->bindArgs fd ⟨us,[]⟩=pure (ps.zip us)):Binds K fd ps []:=fun s us _ hl=>by
 rw[Jc] at hl ⊢
 exact .of_eq (h us hl)
def kZ(CX:jL)(X:Cx)(E:XK):Prop:=∀ (pins:List (Addr×Obj)) (σ:St) (H:Hp) (s:Ah) (e:Ae) (s':Ah),Inv X pins σ H s->CX X.stack H s E e s'->X.xe e s'
section
variable {X:Cx}{CX:jL}{k:Nat}{f C:Addr}{fd:Bk}{ps:List Str}{sp:Sp}{dvs:List V}{ds:List Ae}{E:XK}{x m:Str}{p pos apos:Pos}{e o:Expr}{es:List Expr}{ta:TE}{t:TA}
theorem rF{pins:List (Addr×Obj)}{σ:St}{H:Hp}{s:Ah}{Q:VK}{us:List Ae}{vs:List V}(F:eC X.prog X.w X.K X.mg X.base CX k f fd ps sp)(hr:cM k X.A)(hb:Binds X.K fd ps ds)(hd:aZ dvs ds)(hx:kZ CX X E)
  (I:Inv X pins σ H s) (r:aZ vs us) (h:sp (vs ++ dvs) H Q E):Ba (Bj X.prog X.w) X.A (call (.ref f) us) (EP X pins σ Q) X.xe s:=by
 have r2:aZ (vs ++ dvs) (us ++ ds):=r.append hd
 have hl:(us ++ ds).length=ps.length:=by rw[<-r2.length];exact F.len _ _ _ _ h
 refine wpAny_call (Kb (F.run X.A X.stack s H ⟨us,[]⟩ (us ++ ds) (vs ++ dvs) Q E hr I.env0 (hb s us I.kIn hl) r2 h) fun r s' hq=>?_)
 cases r with
 | error e=>exact hx pins σ H s e s' I hq
 | ok fl=>
  cases fl with
  | ret u=>exact I.after hq
  | next=>exact Gi hq
  | brk=>exact Gi hq
  | cont=>exact Gi hq
theorem OS(F:eC X.prog X.w X.K X.mg X.base CX k f fd ps sp)(hr:cM k X.A)(hg:Gl X x)(hm:X.mg x=some (.ref f))(hk:Ex X.K (.ref f)=true)(hb:Binds X.K fd ps ds)(hd:aZ dvs ds)(hx:kZ CX X E)
  (ha:PA X (e :: es) t) (hdb:(x == ("__debug__" : Str))=false:=by decide) (he:Bh (e :: es) X.env=(false,eval e X.env) :: Bh es X.env:=by rfl) (hpl:(Hf pos (Bh es X.env)).any (·.1)=false:=by rfl) :
  PE X (.Call (.Name x p) (e :: es) [] pos) (DK sp dvs E t):=by
 intro pins s σ H Q I h
 refine El (qW I hg hm ?_ hdb)
 refine Kn (h₀:=X.base) I.ok.mod.kin hk (a9 (ha pos pins s σ H _ I h) fun us s1 ⟨vs,H1,I1,r,q⟩=>⟨I1.kIn,?_⟩) he hpl
 exact rF F hr hb hd hx I1 r q
theorem OT{pl:Sem Bool}(he:PE X o ta)(c:gB X.K C)(hm:nF X.K C m f)(F:eC X.prog X.w X.K X.mg X.base CX k f fd ps sp)(hr:cM k X.A)(hb:Binds X.K fd ps ds)(hd:aZ dvs ds)(hx:kZ CX X E)(ha:PA X (e :: es) t)
  (hst:Bh (e :: es) X.env=(false,eval e X.env) :: Bh es X.env:=by rfl) (hpl:(Hf pos (Bh es X.env)).any (·.1)=false:=by rfl)
  (ht:eval (.Call (.Attribute o m apos) (e :: es) [] pos) X.env=(do
   let ov <-eval o X.env
   Nj apos.atName
   let (f,first) <-Ht [ov] (Nl ov m pl)
   callWith pos f first (Hf pos (Bh (e :: es) X.env)) (backToKw pos (Lx [] X.env))):=by rfl) :
  PE X (.Call (.Attribute o m apos) (e :: es) [] pos) (u5 C m sp dvs E ta t):=by
 intro pins s σ H Q I h
 refine PySem.W.methodCall_KW (pl:=pl) (a9 (he pins s σ H _ I h) fun u s1 ⟨x,H1,I1,rx,a,dx,fs,ex,ea,l,q⟩=>?_) ht
 subst ex
 obtain rfl:u=Value.ref a:=rx
 refine DH I1 ea c hm l ?_
 refine Kn (first:=[.ref a]) (h₀:=X.base) I.ok.mod.kin hm.kp (a9 (ha pos pins s1 σ H1 _ I1 q) fun us s2 ⟨vs,H2,I2,r,q2⟩=>⟨I2.kIn,?_⟩) hst hpl
 exact rF (us:=.ref a :: us) (vs:=.ref a :: vs) F hr hb hd hx I2 (.cons rfl r) q2
theorem OU{pl:Sem Bool}(he:PE X o ta)(c:gB X.K C)(hm:nF X.K C m f)(F:eC X.prog X.w X.K X.mg X.base CX k f fd ps sp)(hr:cM k X.A)(hb:Binds X.K fd ps ds)(hd:aZ dvs ds)(hx:kZ CX X E)
  (ht:eval (.Call (.Attribute o m apos) [] [] pos) X.env=(do
   let ov <-eval o X.env
   Nj apos.atName
   let (f,first) <-Ht [ov] (Nl ov m pl)
   callWith pos f first (Hf pos (Bh [] X.env)) (backToKw pos (Lx [] X.env))):=by rfl) :
  PE X (.Call (.Attribute o m apos) [] [] pos) (u5 C m sp dvs E ta u3):=by
 intro pins s σ H Q I h
 refine PySem.W.methodCall_KW (pl:=pl) (a9 (he pins s σ H _ I h) fun u s1 ⟨x,H1,I1,rx,a,dx,fs,ex,ea,l,q⟩=>?_) ht
 subst ex
 obtain rfl:u=Value.ref a:=rx
 refine DH I1 ea c hm l ?_
 exact PySem.W.callWith_K0 (first:=[.ref a]) I1.kIn hm.kp (rF (us:=[.ref a]) (vs:=[.ref a]) F hr hb hd hx I1 (.cons rfl .nil) q)
structure Mk(K:Ac)(C f:Addr):Prop where
 makes:PySem.W.makesIn K C=true
 init:Cf K (.ref C) "__init__" = some (some (.ref f))
 fn:Lm K (.ref f)=true
 kp:Ex K (.ref C)=true
theorem DM{pins:List (Addr×Obj)}{σ:St}{H:Hp}{s:Ah}{Q:VK}{us:List Ae}{vs:List V}(M:Mk X.K C f)(F:eC X.prog X.w X.K X.mg X.base CX k f fd ps sp)(hr:cM (k + 1) X.A)(hb:Binds X.K fd ps ds)(hd:aZ dvs ds)
  (hx:kZ CX X E) (I:Inv X pins σ H s) (r:aZ vs us)
  (h:∀ x dx,H x=none->H dx=none->dx≠x->sp (.ref x :: (vs ++ dvs)) (aQ (aQ H dx (.own x)) x (.ins C dx [])) (fun v H2=>v=.non/\Q (.ref x) H2) E) :
  Ba (Bj X.prog X.w) X.A (call (.ref C) us) (EP X pins σ Q) X.xe s:=by
 have hq:=h (s.heap.objs.size + 1) s.heap.objs.size (I.hok.fresh (Kj _)) (I.hok.fresh (Aj _)) (Be (Gh _))
 have I2:=Inv.made (C:=C) I
 have r2:aZ (V.ref (s.heap.objs.size + 1) :: (vs ++ dvs)) (Value.ref (s.heap.objs.size + 1) :: (us ++ ds)):=.cons rfl (r.append hd)
 have hl:(Value.ref (s.heap.objs.size + 1) :: us ++ ds).length=ps.length:=by
  have e:=r2.length
  rw[F.len _ _ _ _ hq] at e
  exact e.symm
 refine wpAny_call (OA (f:=f) I.kIn M.makes M.init (beq_iff_eq.mp M.fn) (Kb (F.run _ X.stack _ _ ⟨Value.ref (s.heap.objs.size + 1) :: us,[]⟩ (Value.ref (s.heap.objs.size + 1) :: (us ++ ds)) _ _ E (hr.make C us [])
  (I2.env0.make C us []) (hb _ (Value.ref (s.heap.objs.size + 1) :: us) I2.kIn hl) r2 hq) fun r s' hq'=>?_))
 cases r with
 | error e=>exact hx pins σ _ _ e s' I2 hq'
 | ok fl=>
  cases fl with
  | ret u=>
   obtain⟨v,H',I3,rv,ev,q3⟩:=I2.after hq'
   subst ev
   exact⟨rv,⟨V.ref (s.heap.objs.size + 1),H',I3,rfl,q3⟩⟩
  | next=>exact Gi hq'
  | brk=>exact Gi hq'
  | cont=>exact Gi hq'
theorem OV(M:Mk X.K C f)(F:eC X.prog X.w X.K X.mg X.base CX k f fd ps sp)(hr:cM (k + 1) X.A)(hg:Gl X x)(hm:X.mg x=some (.ref C))(hb:Binds X.K fd ps ds)(hd:aZ dvs ds)(hx:kZ CX X E)
  (ha:PA X (e :: es) t) (hdb:(x == ("__debug__" : Str))=false:=by decide) (he:Bh (e :: es) X.env=(false,eval e X.env) :: Bh es X.env:=by rfl) (hpl:(Hf pos (Bh es X.env)).any (·.1)=false:=by rfl) :
  PE X (.Call (.Name x p) (e :: es) [] pos) (DL C sp dvs E t):=by
 intro pins s σ H Q I h
 refine El (qW I hg hm ?_ hdb)
 refine Kn (h₀:=X.base) I.ok.mod.kin M.kp (a9 (ha pos pins s σ H _ I h) fun us s1 ⟨vs,H1,I1,r,q⟩=>⟨I1.kIn,?_⟩) he hpl
 exact DM M F hr hb hd hx I1 r q
theorem OW(M:Mk X.K C f)(F:eC X.prog X.w X.K X.mg X.base CX k f fd ps sp)(hr:cM (k + 1) X.A)(hg:Gl X x)(hm:X.mg x=some (.ref C))(hb:Binds X.K fd ps ds)(hd:aZ dvs ds)(hx:kZ CX X E)
  (hdb:(x == ("__debug__" : Str))=false:=by decide):PE X (.Call (.Name x p) [] [] pos) (DL C sp dvs E u3):=by
 intro pins s σ H Q I h
 refine El (qW I hg hm ?_ hdb)
 exact PySem.W.callWith_K0 I.kIn M.kp (DM (us:=[]) M F hr hb hd hx I .nil h)
end
structure nG(N P:List Str)(sc:Jm):Prop where
 kind:sc.kind=.function
 co:sc.isCoroutine=false
 gen:sc.isGenerator=false
 nd:N.Nodup
 pre:N.take P.length=P
 par:∀ x∈P,sc.names.lookup x=some .local\/sc.names.lookup x=some .cell
 nofree:∀ y∈sc.names,y.2≠.free
theorem DN{kindOf:Str->Option Iu}{x:Str}:∀ {binds:List (Str×Ae)} {m:Str->Option Ae},(∀ v,(x,v)∉binds)->bindL kindOf binds m x=m x
 | [],_,_=>rfl
 | (n,v) :: r,m,h=>by
  unfold bindL
  rw[DN fun w hw=>h w (Bd _ hw)]
  split
  ·have:x≠n:=by rintro rfl;exact h v Bf
   simp[this]
  ·rfl
theorem DO{kindOf:Str->Option Iu}{x:Str}:∀ {binds:List (Str×Ae)} {m:Str->Option Ae},(∀ v,(x,v)∉binds)->bindC kindOf binds m x=m x
 | [],_,_=>rfl
 | (n,v) :: r,m,h=>by
  unfold bindC
  rw[DO fun w hw=>h w (Bd _ hw)]
  split
  ·rfl
  ·have:x≠n:=by rintro rfl;exact h v Bf
   simp[this]
theorem DP{kindOf:Str->Option Iu}{x:Str}{v:Ae}:∀ {P:List Str} {vs:List Ae} {i:Nat} {m:Str->Option Ae},P.Nodup->P[i]? = some x->vs[i]? = some v->kindOf x=some .local->
  bindL kindOf (P.zip vs) m x=some v
 | [],_,_,_,_,h,_,_=>by simp at h
 | _ :: _,[],_,_,_,_,h,_=>by simp at h
 | p :: P,w :: vs,0,m,nd,h1,h2,hk=>by
  simp at h1 h2;subst h1;subst h2
  show bindL kindOf ((p,w) :: P.zip vs) m p=_
  unfold bindL
  rw[DN fun v hv=>(Dg.mp nd).1 (List.of_mem_zip hv).1,if_pos hk]
  simp
 | p :: P,w :: vs,i + 1,m,nd,h1,h2,hk=>by
  show bindL kindOf ((p,w) :: P.zip vs) m x=_
  unfold bindL
  exact DP (i:=i) (Dg.mp nd).2 (by simpa using h1) (by simpa using h2) hk
theorem DQ{kindOf:Str->Option Iu}{x:Str}{v:Ae}:∀ {P:List Str} {vs:List Ae} {i:Nat} {m:Str->Option Ae},P.Nodup->P[i]? = some x->vs[i]? = some v->kindOf x≠some .local->
  bindC kindOf (P.zip vs) m x=some v
 | [],_,_,_,_,h,_,_=>by simp at h
 | _ :: _,[],_,_,_,_,h,_=>by simp at h
 | p :: P,w :: vs,0,m,nd,h1,h2,hk=>by
  simp at h1 h2;subst h1;subst h2
  show bindC kindOf ((p,w) :: P.zip vs) m p=_
  unfold bindC
  rw[DO fun v hv=>(Dg.mp nd).1 (List.of_mem_zip hv).1,if_neg hk]
  simp
 | p :: P,w :: vs,i + 1,m,nd,h1,h2,hk=>by
  show bindC kindOf ((p,w) :: P.zip vs) m x=_
  unfold bindC
  exact DQ (i:=i) (Dg.mp nd).2 (by simpa using h1) (by simpa using h2) hk
def start(N:List Str)(vs:List V):St:=vs.map some ++ Bs (N.length - vs.length) none
def k7(CX:jL)(P:Bo)(w:Ce)(K:Ac)(mg:Str->Option Ae)(base:Heap)(N:List Str)(qual:Str)(scope:Jm)(f:Addr)(cd:Ae)(A:Ck)(outer:List Env)(s:Ah)(H:Hp)(E:XK):Cx where
 prog:=P
 w:=w
 K:=K
 mg:=mg
 base:=base
 A:=A.deeper (Lz qual scope s.heap.objs.size f cd)
 N:=N
 s₀:=s
 H₀:=H
 env:=Lz qual scope s.heap.objs.size f cd
 outer:=outer
 stack:=Lz qual scope s.heap.objs.size f cd :: outer
 ex:=[]
 calm:=true
 fn:=fun _=>true
 pn:=[]
 xe:=fun e s'=>Ba (Bj P w) (A.deeper (Lz qual scope s.heap.objs.size f cd)) (leaving (Lz qual scope s.heap.objs.size f cd) e) (fun _ s''=>CX outer H s E e s'') (fun e' s''=>CX outer H s E e' s'') s'
theorem DR{sc:Jm}{n:Nat}{x:Str}(h:sc.names.lookup x=some .cell):∃ c,(cellsFrom n sc.names []).lookup x=some c:=by
 have q:=PySem.W.cellsFrom_some sc.names n [] (.inl h)
 exact Gs.mp q
theorem OX{CX:jL}{P:Bo}{w:Ce}{K:Ac}{mg:Str->Option Ae}{base:Heap}{N ps:List Str}{qual:Str}{scope:Jm}{f:Addr}{cd:Ae}{A:Ck}{outer:List Env}{s s1:Ah}{H:Hp}{E:XK}{us:List Ae}{vs:List V}
  (S:nG N ps scope) (hd:A.handled=none) (e0:mC P w K mg base A outer s H) (hl:vs.length=ps.length) (r:aZ vs us)
  (x:InCallC s s.heap.objs.size (bindL (Lz qual scope s.heap.objs.size f cd).kindOf (ps.zip us) fun _=>none) (cellsFrom (s.heap.objs.size + 1) scope.names []) (bindC (Lz qual scope s.heap.objs.size f cd).kindOf (ps.zip us) fun _=>none) s1) :
  Inv (k7 CX P w K mg base N qual scope f cd A outer s H E) [] (start N vs) H s1:=by
 have hpl:ps.length<=N.length:=by have:=congrArg Ds S.pre;rw[Cb] at this;lia
 obtain⟨h1,tk,rfl,hk⟩:=x.done
 have noA:∀ b:Addr,b∉(k7 CX P w K mg base N qual scope f cd A outer s H E).ex:=fun b z=>absurd (show b∈([]:List Addr) from z) (by simp)
 refine⟨⟨e0.mod,S.kind,rfl,rfl,Aj _,fun y z c h1 h2=>?_,fun y hy=>?_,fun y c _ h=>?_,fun _=>hd,Around.frames_deeper e0.frames,.inr ⟨rfl,rfl⟩,fun b z=>absurd z (noA b),e0.bs,e0.bsz,fun b _ _=>noA b,fun b z=>absurd z (noA b),e0.funs,e0.frf⟩,
  rfl,e0.bare,Un.kept hk,⟨_,x.toInCall.ns,fun i y v h1 h2 h3=>?_⟩,fun y c h=>⟨_,x.cell y c h⟩,e0.hok.fresh (Aj _),fun y c h=>?_,fun p hp=>absurd (show p∈([]:List (Addr×Obj)) from hp) (by simp),e0.hok.kept hk,?_⟩
 ·exact name_of_addr x.apart (Gw h1) (Gw h2)
 ·have hy:scope.names.lookup y=some .cell\/scope.names.lookup y=some .free:=hy
  rcases hy with hy | hy
  ·exact DR hy
  ·exact absurd rfl (S.nofree _ (Gw hy))
 ·exact Jr (x.above y c (Gw h))
 ·have hi:i < vs.length:=by
   unfold start at h2
   by_cases hi:i < vs.length
   ·exact hi
   ·rw[List.getElem?_append_right (by simpa using hi)] at h2
    rw[List.getElem?_replicate] at h2
    split at h2 <;> cases h2
  have ha:vs[i]? = some v:=by
   unfold start at h2
   rw[List.getElem?_append_left (by simpa using hi),Av] at h2
   cases e:vs[i]? with
   | none=>rw[e] at h2;cases h2
   | some a=>rw[e] at h2;cases h2;rfl
  obtain⟨u,hu,rv⟩:=r.get ha
  have hp:ps[i]? = some y:=by
   rw[<-S.pre,List.getElem?_take_of_lt (by lia)];exact h1
  have ndP:ps.Nodup:=by rw[<-S.pre];exact S.nd.sublist (List.take_sublist _ _)
  refine⟨u,rv,?_⟩
  rcases S.par y (An hp) with k | k
  ·exact .inl ⟨k,DP ndP hp hu k⟩
  ·obtain⟨c,e⟩:=DR (n:=s.heap.objs.size + 1) k
   refine .inr ⟨.inl k,c,e,?_⟩
   have q:=x.cell y c e
   rw[DQ ndP hp hu (by show scope.names.lookup y≠_;rw[k];decide)] at q
   exact q
 ·exact e0.hok.fresh (Jr (x.above y c (Gw h)))
 ·unfold start
  show _=N.length
  rw[Ao,Ab,List.length_replicate]
  lia
theorem OY{CX:jL}{P:Bo}{w:Ce}{K:Ac}{mg:Str->Option Ae}{base:Heap}{k:Nat}{f:Addr}{name qual:Str}{params:Arguments}{body:List Stmt}{scope:Jm}{dV kV doc pm cdv ct oc:Ae}{an od:Option Addr}
  {osl:Array (Option Ae)} {N ps:List Str} {sp:Sp} (lk:K.lookup f=some ⟨oc,od,.func (Ep name qual params body scope dV kV doc pm an cdv ct),osl⟩) (hcd:Jg K cdv qual=true) (S:nG N ps scope)
  (len:∀ vs H Q E,sp vs H Q E->vs.length=ps.length)
  (hbody:∀ (A:Ck) (outer:List Env) (s:Ah) (H:Hp) (vs:List V) (Q:VK) (E:XK),cM k (A.deeper (Lz qual scope s.heap.objs.size f cdv))->sp vs H Q E->
   ∃ t,fM (k7 CX P w K mg base N qual scope f cdv A outer s H E) body t/\t {nx:=fun _ H'=>Q .non H',rt:=Q} (start N vs) H) :
  eC P w K mg base CX (k + 1) f (Ep name qual params body scope dV kV doc pm an cdv ct) ps sp:=by
 refine⟨len,fun A outer s H args us vs Q E hr e0 hb r hsp=>?_⟩
 have hl:=len _ _ _ _ hsp
 have KX:K.In s.heap:=e0.mod.kin.keeps fun b o e=>(e0.bs b o e).1
 have lim:s.heap.NoLimit:=e0.mod.nolimit.keeps fun b o e=>(e0.bs b o e).1
 have hkind:∀ y∈ps.zip us,scope.names.lookup y.1=some .local\/(scope.names.lookup y.1=some .cell/\((cellsFrom (s.heap.objs.size + 1) scope.names []).lookup y.1).isSome=true):=fun⟨n,v⟩ hy=>by
  rcases S.par n (List.of_mem_zip hy).1 with q | q
  ·exact .inl q
  ·exact .inr ⟨q,PySem.W.cellsFrom_some _ _ _ (.inl q)⟩
 refine codeAny_call_function hr.depth (KX _ _ lk) rfl S.co S.gen rfl (PySem.W.codeRec_of KX hcd) (hb _ _ _ _ ?_)
 refine wpAny_newFunctionEnv_cells S.kind hkind fun env he s1 x=>?_
 subst he
 refine⟨lim.keeps x.toInCall.keep,codeAny_func ?_⟩
 obtain⟨t,ht,hq⟩:=hbody A outer s H vs Q E (hr.deeper _) hsp
 have I:Inv (k7 CX P w K mg base N qual scope f cdv A outer s H E) [] (start N vs) H s1:=OX S hr.hd e0 hl r x
 refine Hs (ht [] s1 (start N vs) H _ I hq) (fun fl s' hs=>?_) fun e s' hs=>hs
 have fin:∀ {σ':St} {H':Hp} {v:V} {u:Ae},Inv (k7 CX P w K mg base N qual scope f cdv A outer s H E) [] σ' H' s'->RelV v u->Q v H'->CE outer P w H s Q u s':=
  fun {σ' H' v u} J rv q=>⟨v,H',J.os,J.bare,J.base,J.hok,rv,q⟩
 cases fl with
 | ret u=>
  obtain⟨v,σ',H',J,rv,q⟩:=hs
  exact fin J rv q
 | next=>
  obtain⟨σ',H',J,q⟩:=hs
  exact fin (v:=V.non) (u:=Value.none) J rfl q
 | brk=>
  obtain⟨_,_,_,q⟩:=hs
  exact Gi q
 | cont=>
  obtain⟨_,_,_,q⟩:=hs
  exact Gi q
section
variable {X:Cx}{x:Str}{p pos:Pos}{e:Expr}{es:List Expr}{t:TA}{id T:String}{r:List V->Hp->VK->Prop}
def u6(r:List V->Hp->VK->Prop)(t:TA):TE:=fun σ H Q=>t σ H fun vs H1=>r vs H1 Q
theorem OZ(hc:dA X (.builtin id) r)(hg:Gl X x)(hm:X.mg x=none)(hv:Co x=some (.builtin id))(ha:PA X (e :: es) t)(hn:x≠"__name__":=by decide)(hdb:(x == ("__debug__" : Str))=false:=by decide)
  (he:Bh (e :: es) X.env=(false,eval e X.env) :: Bh es X.env:=by rfl) (hpl:(Hf pos (Bh es X.env)).any (·.1)=false:=by rfl):PE X (.Call (.Name x p) (e :: es) [] pos) (u6 r t):=by
 intro pins s σ H Q I h
 refine El (iC I hg hm hv ?_ hn hdb)
 exact PyProof.Rows.callWith_builtin1 (a9 (ha pos pins s σ H _ I h) fun us s1 ⟨vs,H1,I1,r1,q1⟩=>hc pins s1 σ H1 vs us Q I1 r1 q1) he hpl
theorem O0(hc:dA X (.type T) r)(hg:Gl X x)(hm:X.mg x=none)(hv:Co x=some (.type T))(ha:PA X (e :: es) t)(hn:x≠"__name__":=by decide)(hdb:(x == ("__debug__" : Str))=false:=by decide)
  (he:Bh (e :: es) X.env=(false,eval e X.env) :: Bh es X.env:=by rfl) (hpl:(Hf pos (Bh es X.env)).any (·.1)=false:=by rfl):PE X (.Call (.Name x p) (e :: es) [] pos) (u6 r t):=by
 intro pins s σ H Q I h
 refine El (iC I hg hm hv ?_ hn hdb)
 exact Cu (a9 (ha pos pins s σ H _ I h) fun us s1 ⟨vs,H1,I1,r1,q1⟩=>hc pins s1 σ H1 vs us Q I1 r1 q1) he hpl
end
end L2
namespace HT
open PySem PyProof.Rows
section
variable {prog:Bo}{w:Ce}{A:Ck}{E:Ae->Ah->Prop}{s:Ah}
theorem cat_tup{t b:Addr}{vs ws:List Ae}{Q:Ae->Ah->Prop}(ht:IsTup s.heap t vs.toArray)(hb:IsTup s.heap b ws.toArray)(hv:vs≠[])
  (h1:ws=[]->Q (.ref t) s) (h2:ws≠[]->Q (.ref s.heap.objs.size) {s with heap:=s.heap.push {cls:=.type "tuple",data:=.seq (vs ++ ws).toArray}})
  (hsz:vs.length + ws.length<=Am):Ba (Bj prog w) A (Fg .Add (.ref t) (.ref b)) Q E s:=by
 obtain⟨⟨cls,dd,data,sl⟩,ho,hc,n,hd⟩:=id ht
 obtain⟨⟨cls2,dd2,data2,sl2⟩,ho2,hc2,n2,hd2⟩:=id hb
 simp only at hc hd hc2 hd2
 subst hc hd hc2 hd2
 have e:vs.toArray ++ ws.toArray=(vs ++ ws).toArray:=by simp
 by_cases hw:ws=[]
 ·exact concat_meets ⟨_,ho,rfl⟩ ⟨_,ho2,rfl⟩ noFill_tuple_add seq_tuple_add PySem.F.slot_tuple_add PySem.F.entry_tuple_add (PySem.F.args_tuple_add_2 _ _)
   (tuple_addW1 t b vs.toArray ws.toArray n n2 dd dd2 sl sl2 (by simpa using hv) (by simp[hw])) ⟨ho,ho2,h1 hw⟩
 ·refine concat_meets ⟨_,ho,rfl⟩ ⟨_,ho2,rfl⟩ noFill_tuple_add seq_tuple_add PySem.F.slot_tuple_add PySem.F.entry_tuple_add (PySem.F.args_tuple_add_2 _ _)
   (tuple_addW2 t b vs.toArray ws.toArray n n2 dd dd2 sl sl2 (by simpa using hv) (by simpa using hw) (by rw[Bb,Bb];exact hsz)) ⟨ho,ho2,?_⟩
  rw[e]
  exact h2 hw
def sIx(n d:Nat):Option Int->Nat
 | none=>d
 | some v=>if v < 0 then(v + (n:Int)).toNat else min v.toNat n
theorem sIx_none(n d:Nat):sIx n d none=d:=rfl
theorem sIx_nat(n d k:Nat):sIx n d (some (k:Int))=min k n:=by
 show(if (k:Int) < 0 then((k:Int) + (n:Int)).toNat else min (k:Int).toNat n)=min k n
 rw[if_neg (by lia),Bz]
theorem O3(n d:Nat)(hd:d<=n)(o:Option Int):sIx n d o<=n:=by
 cases o with
 | none=>exact hd
 | some v=>
  show(if v < 0 then(v + (n:Int)).toNat else min v.toNat n)<=n
  by_cases hv:v < 0
  ·rw[if_pos hv];lia
  ·rw[if_neg hv];exact Nat.min_le_right _ _
theorem DS(v:Int)(n d:Nat):(if v < 0 then max (v + (n:Int)) 0 else min v (n:Int))=((sIx n d (some v):Nat):Int):=by
 show(if v < 0 then max (v + (n:Int)) 0 else min v (n:Int))=(((if v < 0 then(v + (n:Int)).toNat else min v.toNat n):Nat):Int)
 by_cases hv:v < 0
 ·simp only[if_pos hv];lia
 ·simp only[if_neg hv];lia
theorem O4(lo hi:Option Int)(n:Nat):Kd lo hi 1 (n:Int)=(((sIx n 0 lo:Nat):Int),((sIx n n hi:Nat):Int)):=by
 have h1:¬ ((1:Int) < 0):=by lia
 unfold Kd
 simp only[h1,if_false]
 refine Mp ?_ ?_
 ·cases lo with
  | none=>rfl
  | some v=>exact DS v n 0
 ·cases hi with
  | none=>rfl
  | some v=>exact DS v n n
theorem O5(i j:Nat):Hl (i:Int) (j:Int) 1=j - i:=by
 unfold Hl
 have h1:(1:Int) > 0:=by lia
 simp only[h1,if_true,Int.ediv_one]
 split <;> lia
theorem DT{v:Ae}{o:Option Int}{Q:Option Int->Ah->Prop}(p:IsPart v o)(h:Q o s):Ba (Bj prog w) A (Builtin.Slice.slicePartIndex v) Q E s:=by
 cases p with
 | none=>exact slicePart_none h
 | int i t=>exact slicePart_int h
theorem O6{sl:Addr}{vl vu:Ae}{lo hi:Option Int}{n:Nat}{Q:Int×Int×Nat->Ah->Prop}(hs:s.heap.IsSliceOf sl vl vu .none)(pl:IsPart vl lo)(pu:IsPart vu hi)
  (h:Q (((sIx n 0 lo:Nat):Int),1,sIx n n hi - sIx n 0 lo) s):Ba (Bj prog w) A (Builtin.Slice.sliceApplied (.ref sl) (pure (n:Int))) Q E s:=by
 obtain⟨os,hos,hcs,hds⟩:=id hs
 unfold Builtin.Slice.sliceApplied Builtin.Slice.sliceFields
 refine Aa (Aa (Ez hos hds (x:=vl) rfl (Aa (Ez hos hds (x:=vu) rfl (Aa (Ez hos hds (x:=.none) rfl (Ag ?_)))))))
 refine Aa (slicePart_none ?_)
 show Ba _ _ (if ((1:Int) == 0)=true then _ else _) _ _ s
 rw[if_neg (by decide)]
 refine Aa (DT pl (Aa (DT pu (Aa (Ag ?_)))))
 show Ba _ _ (match Kd lo hi 1 (n:Int) with | (lo,hi)=>pure (lo,(1:Int),Hl lo hi 1)) _ _ s
 rw[O4 lo hi n]
 show Ba _ _ (pure (((sIx n 0 lo:Nat):Int),(1:Int),Hl ((sIx n 0 lo:Nat):Int) ((sIx n n hi:Nat):Int) 1)) _ _ s
 rw[O5]
 exact Ag h
theorem O7(xs:Array Ae)(i k:Nat):((Bu k).filterMap fun(m:Nat)=>xs[((i:Int) + (m:Int) * 1).toNat]?).toArray=((xs.toList.drop i).take k).toArray:=by
 have e:(fun(m:Nat)=>xs[((i:Int) + (m:Int) * 1).toNat]?)=fun m=>xs[i + m]?:=by
  funext m
  have:((i:Int) + (m:Int) * 1).toNat=i + m:=by lia
  rw[this]
 rw[e]
 have:=pick_run xs i k
 rw[Kv] at this
 have e2:((fun x=>xs[x]?) ∘ fun x=>i + x)=fun m=>xs[i + m]?:=rfl
 rw[e2] at this
 rw[this]
theorem getItem_tuple_cut{t sl:Addr}{items:Array Ae}{vl vu:Ae}{lo hi:Option Int}{Q:Ae->Ah->Prop}(ht:IsTup s.heap t items)(hs:s.heap.IsSliceOf sl vl vu .none)(pl:IsPart vl lo)(pu:IsPart vu hi)
  (hw:¬ (sIx items.size 0 lo=0/\sIx items.size items.size hi=items.size))
  (h:Q (.ref s.heap.objs.size) {s with heap:=s.heap.push {cls:=.type "tuple",data:=.seq ((items.toList.drop (sIx items.size 0 lo)).take (sIx items.size items.size hi - sIx items.size 0 lo)).toArray}})
  (hsz:items.size<=Am):Ba (Bj prog w) A (getItem (.ref t) (.ref sl)) Q E s:=by
 have htake:sizeOk (.seq ((items.toList.drop (sIx items.size 0 lo)).take (sIx items.size items.size hi - sIx items.size 0 lo)).toArray):=by
  show((items.toList.drop (sIx items.size 0 lo)).take (sIx items.size items.size hi - sIx items.size 0 lo)).toArray.size<=Am
  rw[Bb,Cb,Gg,Bx]
  lia
 have hj:sIx items.size items.size hi<=items.size:=O3 _ _ (Aj _) hi
 obtain⟨os,hos,hcs,hds⟩:=id hs
 have hTs:s.TypeIs (.ref sl) "slice":=⟨os,hos,hcs⟩
 unfold getItem
 try with_reducible refine Cq ?_
 first | refine Aa (Ag ?_) | skip
 refine Aa (wpAny_sequenceKey ht.typeIs (by decide) ?_)
 refine Aa (Dv (name:=Cs "__getitem__") ht.typeIs Iw
  (Dh Iw ht.typeIs entry_tuple_getitem ?_ (args_tuple_getitem _ _)))
 show Ba _ _ (Builtin.Tuple.tupleItemsOf (.ref t) >>= _) _ _ s
 refine Aa (tupleItemsOf_ ht ?_)
 refine Aa (Jz hTs ?_)
 rw[if_pos (by decide)]
 refine Aa (O6 hs pl pu ?_)
 have hno:¬ ((((sIx items.size 0 lo:Nat):Int) == 0 && (1:Int) == 1 && (sIx items.size items.size hi - sIx items.size 0 lo) == items.size)=true):=by
  intro q
  rw[Cj,Cj] at q
  have q1:((sIx items.size 0 lo:Nat):Int)=0:=eq_of_beq q.1.1
  have q2:sIx items.size items.size hi - sIx items.size 0 lo=items.size:=eq_of_beq q.2
  exact hw ⟨by lia,by lia⟩
 show Ba _ _ (if (((sIx items.size 0 lo:Nat):Int) == 0 && (1:Int) == 1 && (sIx items.size items.size hi - sIx items.size 0 lo) == items.size)=true then _ else _) _ _ s
 rw[if_neg hno,O7]
 first
  | exact Aa (m:=Hw _) (Cy (Ag ⟨_,rfl,Ag h⟩) htake)
  | exact Aa (m:=Hw _) (Cy (Aa (Ag (Ag ⟨_,rfl,Ag h⟩))) htake)
  | exact Aa (Aa (m:=Hw _) (Cy (Ag (Ag ⟨_,rfl,Ag h⟩)) htake))
  | exact Aa (Aa (m:=Hw _) (Cy (Ag ⟨_,rfl,Ag h⟩) htake))
end
end HT
namespace L2
open PySem PySem.Spec PyProof.Rows
abbrev TO:=St->Hp->(Option Int->Hp->Prop)->Prop
def PO(X:Cx)(e:Option Expr)(t:TO):Prop:=
 ∀ (pins:List (Addr×Obj)) (s:Ah) (σ:St) (H:Hp) (Q:Option Int->Hp->Prop),Inv X pins σ H s->t σ H Q->
  Ba (Bj X.prog X.w) X.A (evalPart e X.env) (fun u s'=>∃ o H',Inv X pins σ H' s'/\IsPart u o/\Q o H') X.xe s
def O8:TO:=fun _ H Q=>Q none H
def O9(t:TE):TO:=fun σ H Q=>t σ H fun x H1=>∃ i,x=.int i/\Q (some i) H1
theorem intsAre_of{ns:List Int}:∀ {us:List Ae},aZ (ns.map V.int) us->Hv us ns:=by
 induction ns with
 | nil=>intro us r;rw[Jo] at r;cases r;exact .nil
 | cons n ns ih=>
  intro us r
  rw[Ay] at r
  cases r with
  | cons r1 r2=>
   obtain⟨t,e⟩:=r1
   subst e
   exact .cons n t (ih r2)
section
variable {X:Cx}{e:Expr}{te:TE}{lo hi:Option Expr}{tl th:TO}{pos p2:Pos}
theorem PB:PO X none O8:=by
 intro pins s σ H Q I h
 rw[evalPart_none]
 exact Ag ⟨none,H,I,.none,h⟩
theorem PC(h:PE X e te):PO X (some e) (O9 te):=by
 intro pins s σ H Q I hw
 rw[evalPart_some]
 refine a9 (h pins s σ H _ I hw) fun u s1 ⟨x,H1,I1,r1,q1⟩=>?_
 obtain⟨i,rfl,q⟩:=q1
 obtain⟨t,rfl⟩:=r1
 exact⟨some i,H1,I1,.int i t,q⟩
def rG(X:Cx)(r:V->Option Int->Option Int->Hp->VK->Prop):Prop:=
 ∀ (pins:List (Addr×Obj)) (s:Ah) (σ:St) (H:Hp) (x:V) (v vl vu:Ae) (lo hi:Option Int) (sl:Addr) (Q:VK),Inv X pins σ H s->RelV x v->s.heap.IsSliceOf sl vl vu .none->IsPart vl lo->IsPart vu hi->r x lo hi H Q->
  ∃ T id,typeLookup (.type T) "__getitem__" = pure (some (.builtin id))/\s.TypeIs v T/\Ba (Bj X.prog X.w) X.A (getItem v (.ref sl)) (EP X pins σ Q) X.xe s
def PD(r:V->Option Int->Option Int->Hp->VK->Prop)(te:TE)(tl th:TO):TE:=fun σ H Q=>te σ H fun x H1=>tl σ H1 fun l H2=>th σ H2 fun u H3=>r x l u H3 Q
theorem DU{r:V->Option Int->Option Int->Hp->VK->Prop}(hr:rG X r)(he:PE X e te)(hl:PO X lo tl)(hu:PO X hi th):PE X (.Subscript e (.Slice lo hi none p2) pos) (PD r te tl th):=by
 intro pins s σ H Q I h
 refine Subscript_ (a9 (he pins s σ H _ I h) fun v s1 ⟨x,H1,I1,r1,q1⟩=>?_)
 refine wpAny_Slice (a9 (hl pins s1 σ H1 _ I1 q1) fun vl s2 ⟨l,H2,I2,pl,q2⟩=>a9 (hu pins s2 σ H2 _ I2 q2) fun vu s3 ⟨u,H3,I3,pu,q3⟩=>?_)
 rw[evalPart_none]
 refine Ag ?_
 have I4:Inv X pins σ H3 {s3 with heap:=s3.heap.push {cls:=.type "slice",data:=.fields #[vl,vu,.none]}}:=I3.kept (t':=s3.toks) fun b ob q=>Af _ q
 obtain⟨T,id,hT,ht,hg⟩:=hr pins {s3 with heap:=s3.heap.push {cls:=.type "slice",data:=.fields #[vl,vu,.none]}} σ H3 x v vl vu l u s3.heap.objs.size Q I4 r1 (Heap.IsSliceOf.new ..) pl pu q3
 show Ba (Bj X.prog X.w) X.A (subscriptTail e (.Slice lo hi none p2) v (.ref s3.heap.objs.size)) (EP X pins σ Q) X.xe {s3 with heap:=s3.heap.push {cls:=.type "slice",data:=.fields #[vl,vu,.none]}}
 exact tail_any (ops:=[.ref s3.heap.objs.size,v]) ht hT hg (by with_unfolding_all rfl)
def k9(xs:List V)(lo hi:Option Int):List V:=(xs.drop (HT.sIx xs.length 0 lo)).take (HT.sIx xs.length xs.length hi - HT.sIx xs.length 0 lo)
theorem DV(xs:List V)(lo hi:Option Int):(k9 xs lo hi).length<=xs.length:=by
 unfold k9
 rw[Cb,Gg]
 lia
def PF(K:Ac):V->Option Int->Option Int->Hp->VK->Prop:=fun x lo hi H Q=>∃ a xs,x=.ref a/\bN K H a xs/\
 ¬ (HT.sIx xs.length 0 lo=0/\HT.sIx xs.length xs.length hi=xs.length)/\∀ p,H p=none->Q (.ref p) (aQ H p (.tup (k9 xs lo hi)))
theorem PH:rG X (PF X.K):=by
 intro pins s σ H x v vl vu lo hi sl Q I rx hs pl pu h
 obtain⟨a,xs,rfl,hx,hw,q⟩:=h
 cases rx
 obtain⟨its,r,ht,hz⟩:=I.tuple hx
 have hlen:its.toArray.size=xs.length:=by rw[Bb];exact r.length.symm
 refine⟨"tuple",_,Iw.lookup,ht.typeIs,?_⟩
 refine HT.getItem_tuple_cut ht hs pl pu (by rw[hlen];exact hw) ?_ (by rw[hlen];exact hz)
 rw[hlen]
 refine⟨.ref s.heap.objs.size,_,I.laid (t':=s.toks) (o:=.tup (k9 xs lo hi)) (fun b ob q=>Af _ q) (Aj _) ?_,rfl,q _ (I.hok.fresh (Aj _))⟩
 exact⟨Bc (DV xs lo hi) hz,_,(r.drop (HT.sIx xs.length 0 lo)).take (HT.sIx xs.length xs.length hi - HT.sIx xs.length 0 lo),IsTup.new _ _⟩
def PJ(K:Ac):R2:=fun x y H Q=>∃ a b xs ys,x=.ref a/\y=.ref b/\bN K H a xs/\bN K H b ys/\xs≠[]/\xs.length + ys.length<=Am/\
 (ys=[]->Q (.ref a) H)/\(ys≠[]->∀ p,H p=none->Q (.ref p) (aQ H p (.tup (xs ++ ys))))
theorem aZ.nil_iff{xs:List V}{us:List Ae}(r:aZ xs us):us=[]↔xs=[]:=by
 cases r with
 | nil=>simp
 | cons _ _=>simp
theorem PK:bG X (Fg .Add) (PJ X.K):=by
 intro pins s σ H x y v u Q I rx ry h
 obtain⟨a,b,xs,ys,rfl,rfl,ha,hb,hx,hz,q1,q2⟩:=h
 cases rx
 cases ry
 obtain⟨its,r1,p1,_⟩:=I.tuple ha
 obtain⟨its2,r2,p2,_⟩:=I.tuple hb
 refine HT.cat_tup p1 p2 (fun z=>hx (r1.nil_iff.mp z)) (fun z=>⟨.ref a,H,I,rfl,q1 (r2.nil_iff.mp z)⟩) (fun z=>?_) (by rw[<-r1.length,<-r2.length];exact hz)
 refine⟨.ref s.heap.objs.size,_,I.laid (t':=s.toks) (o:=.tup (xs ++ ys)) (fun b ob q=>Af _ q) (Aj _) ?_,rfl,q2 (fun w=>z (r2.nil_iff.mpr w)) _ (I.hok.fresh (Aj _))⟩
 exact⟨by rw[Ao];exact hz,_,r1.append r2,IsTup.new _ _⟩
end
def hX(n:Nat)(i:Int):Option Nat:=if 0<=i then(if i < n then some i.toNat else none) else if -(n:Int)<=i then some (i + n).toNat else none
def cB{α:Type}(xs:List α)(i:Int):Option α:=(hX xs.length i).bind fun j=>xs[j]?
theorem DW{n:Nat}{i:Int}{j:Nat}(h:hX n i=some j):seqIndex? i n=some j/\j < n/\-(n:Int)<=i/\i < n:=by
 unfold hX at h
 by_cases h0:0<=i
 ·rw[if_pos h0] at h
  by_cases h1:i < n
  ·rw[if_pos h1] at h
   have e:i.toNat=j:=Cr h
   exact⟨by rw[seqIndex_of h0 h1,e],by lia,by lia,h1⟩
  ·rw[if_neg h1] at h;cases h
 ·rw[if_neg h0] at h
  by_cases h1 : -(n:Int)<=i
  ·rw[if_pos h1] at h
   have e:(i + n).toNat=j:=Cr h
   exact⟨by rw[seqIndex_neg (by lia) h1,e],by lia,h1,by lia⟩
  ·rw[if_neg h1] at h;cases h
theorem u7{α:Type}{xs:List α}{i:Int}{v:α}(h:cB xs i=some v):∃ j,seqIndex? i xs.length=some j/\xs[j]? = some v/\j < xs.length/\-(xs.length:Int)<=i/\i < xs.length:=by
 unfold cB at h
 cases e:hX xs.length i with
 | none=>rw[e] at h;cases h
 | some j=>
  rw[e] at h
  obtain⟨h1,h2,h3,h4⟩:=DW e
  exact⟨j,h1,h,h2,h3,h4⟩
theorem iE{α:Type}{xs:List α}{j:Nat}{v:α}(h:xs[j]? = some v):cB xs (j:Int)=some v:=by
 have hj:j < xs.length:=(Ai.mp h).1
 have e:hX xs.length (j:Int)=some j:=by
  unfold hX
  rw[if_pos (by lia),if_pos (by lia)];simp
 unfold cB;rw[e];exact h
theorem DX{α:Type}(xs:List α)(v:α):cB (xs ++ [v]) (-1)=some v:=by
 have hl:(xs ++ [v]).length=xs.length + 1:=by simp
 have e:hX (xs ++ [v]).length (-1)=some xs.length:=by
  unfold hX
  rw[hl,if_neg (by decide),if_pos (by lia)]
  congr 1
  lia
 unfold cB
 rw[e]
 show(xs ++ [v])[xs.length]? = some v
 simp
def DY(b:Expr):Prop:=∀ o i,subscripted b false o i=operate [o,i] (getItem o i)
def iF(X:Cx)(r:R2):Prop:=
 ∀ (value slice:Expr) (pins:List (Addr×Obj)) (s:Ah) (σ:St) (H:Hp) (x y:V) (v u:Ae) (Q:VK),Inv X pins σ H s->RelV x v->RelV y u->r x y H Q->
  subscripted slice false v u=operate [v,u] (getItem v u)->Ba (Bj X.prog X.w) X.A (subscriptTail value slice v u) (EP X pins σ Q) X.xe s
def iG(X:Cx)(id:String)(r:V->List V->Hp->VK->Prop):Prop:=
 ∀ (pins:List (Addr×Obj)) (s:Ah) (σ:St) (H:Hp) (x:V) (xs:List V) (v:Ae) (us:List Ae) (Q:VK),Inv X pins σ H s->RelV x v->aZ xs us->r x xs H Q->
  Ba (Bj X.prog X.w) X.A (call (.builtin id) (v :: us)) (EP X pins σ Q) X.xe s
section
variable {X:Cx}{a b:Expr}{ta tb:TE}{pos:Pos}
theorem iF.or{r r':R2}(h:iF X r)(h':iF X r'):iF X (fun x y H Q=>r x y H Q\/r' x y H Q):=by
 intro value slice pins s σ H x y v u Q I rx ry q hs
 rcases q with q | q
 ·exact h value slice pins s σ H x y v u Q I rx ry q hs
 ·exact h' value slice pins s σ H x y v u Q I rx ry q hs
theorem PL{r:R2}(hr:iF X r)(ha:PE X a ta)(hb:PE X b tb)(hs:DY b):PE X (.Subscript a b pos) (oU r ta tb):=by
 intro pins s σ H Q I h
 exact Subscript_ (uZ ha hb I h fun v u s2 x y H2 I2 rx ry q=>hr a b pins s2 σ H2 x y v u Q I2 rx ry q (hs _ _))
def PM(K:Ac):R2:=fun x y H Q=>∃ p xs i v,x=.ref p/\y=.int i/\bF K H p xs/\cB xs i=some v/\Q v H
def PN(K:Ac):R2:=fun x y H Q=>∃ p xs i v,x=.ref p/\y=.int i/\bN K H p xs/\cB xs i=some v/\Q v H
def PQ:R2:=fun x y H Q=>∃ z i c,x=.str z/\y=.int i/\z.length<=Am/\cB z.cps.toList i=some c/\Q (.str ⟨#[c]⟩) H
theorem PR:iF X (PM X.K):=by
 intro value slice pins s σ H x y v u Q I rx ry h hs
 obtain⟨p,xs,i,z,rfl,rfl,hq,he,q⟩:=h
 cases rx
 obtain⟨t,rfl⟩:=ry
 obtain⟨its,r,pl,hz⟩:=I.list hq
 obtain⟨j,h1,h2,h3,h4,h5⟩:=u7 he
 obtain⟨w,ew,rw'⟩:=r.get h2
 have hl:=r.length
 have hn:=l9
 have fin:EP X pins σ Q w s:=⟨z,H,I,rw',q⟩
 by_cases h0:0<=i
 ·have hj:i.toNat=j:=by
   rw[seqIndex_of h0 h5] at h1
   exact Cr h1
  exact item_listR pl.isList h0 (by lia) (by rw[hj];simpa using ew) fin hs
 ·have hj:(i + (its.toArray.size:Int)).toNat=j:=by
   rw[seqIndex_neg (by lia) h4] at h1
   rw[Bb,<-hl]
   exact Cr h1
  exact subscriptTail_builtinR (x:=w) pl.isList.typeIs slot_list_getitem.lookup
   (wpAny_getItem_list_neg (Q:=fun r s'=>r=w/\EP X pins σ Q r s') pl.isList (by lia) (by rw[Bb] <;> lia) (by lia) (by rw[hj];simpa using ew) ⟨rfl,fin⟩) hs
theorem PU:iF X (PN X.K):=by
 intro value slice pins s σ H x y v u Q I rx ry h hs
 obtain⟨p,xs,i,z,rfl,rfl,hq,he,q⟩:=h
 cases rx
 obtain⟨t,rfl⟩:=ry
 obtain⟨its,r,pl,hz⟩:=I.tuple hq
 obtain⟨j,h1,h2,h3,h4,h5⟩:=u7 he
 obtain⟨w,ew,rw'⟩:=r.get h2
 have hl:=r.length
 have hn:=l9
 have fin:EP X pins σ Q w s:=⟨z,H,I,rw',q⟩
 exact subscriptTail_builtinR (x:=w) pl.typeIs slot_tuple_getitem.lookup
  (getItem_tuple (j:=j) (Q:=fun r s'=>r=w/\EP X pins σ Q r s') pl (by lia) (by lia) (by rw[Bb,<-hl];exact h1) (by simpa using ew) ⟨rfl,fin⟩) hs
theorem PV:iF X PQ:=by
 intro value slice pins s σ H x y v u Q I rx ry h hs
 obtain⟨z,i,c,rfl,rfl,hz,he,q⟩:=h
 obtain⟨t,rfl⟩:=rx
 obtain⟨t',rfl⟩:=ry
 obtain⟨j,h1,h2,h3,h4,h5⟩:=u7 he
 have hl:z.cps.toList.length=z.length:=by simp[Str.length]
 rw[hl] at h1 h4 h5
 have hn:=l9
 exact tail_any (typeIs_str s z t) slot_str_getitem.lookup (getItem_str (c:=c) (by
  have e1:decide (i < -(2 ^ 63:Int))=false:=decide_eq_false (by lia)
  have e2:decide (i ≥ 2 ^ 63)=false:=decide_eq_false (by lia)
  rw[e1,e2,Bool.or_false]) (by rw[h1];simpa using h2) ⟨.str ⟨#[c]⟩,H,I.tok _,⟨_,rfl⟩,q⟩) hs
theorem PX(its:List Ae)(n j:Nat)(u:Ae):Ji (·.setIfInBounds j u) {cls:=.type "list",data:=.seq its.toArray n} = {cls:=.type "list",data:=.seq (its.set j u).toArray n}:=by
 simp[Ji]
theorem Inv.lst{pins:List (Addr×Obj)}{σ:St}{H:Hp}{s:Ah}{p:Addr}{xs:List V}(I:Inv X pins σ H s)(h:H p=some (.lst xs)) :
  ∃ (its:List Ae) (n:Nat),aZ xs its/\s.heap.get? p=some {cls:=.type "list",data:=.seq its.toArray n}/\xs.length<=Am:=by
 obtain⟨z,its,n,r,e⟩:=I.hok p _ h
 exact⟨its,n,r,e,z⟩
theorem Inv.lstUpd{pins:List (Addr×Obj)}{σ:St}{H:Hp}{s:Ah}{p:Addr}{xs ys:List V}{its its':List Ae}{n n':Nat}{f:Obj->Obj}(I:Inv X pins σ H s)(h:H p=some (.lst xs))
  (ho:s.heap.get? p=some {cls:=.type "list",data:=.seq its.toArray n}) (hf:f {cls:=.type "list",data:=.seq its.toArray n} = {cls:=.type "list",data:=.seq its'.toArray n'}) (r:aZ ys its') (hz:ys.length<=Am) (t:Nat) :
  Inv X pins σ (aQ H p (.lst ys)) {s with heap:=s.heap.update p f,toks:=t}:=by
 have e:(s.heap.update p f).get? p=some {cls:=.type "list",data:=.seq its'.toArray n'}:=by
  rw[Er f ho (by rw[hf] <;> rfl),hf]
 refine I.write (x:=p) (e:=p) (by rw[h];trivial) (.inl rfl) (fun b u hb q=>(Fz _ _ (Bp hb)).trans q) ⟨_,e⟩ ?_
 exact⟨hz,its',n',r,e⟩
def PY:V->V->V->Hp->(Hp->Prop)->Prop:=fun o i v H Q=>∃ p xs k j,o=.ref p/\i=.int k/\H p=some (.lst xs)/\hX xs.length k=some j/\Q (aQ H p (.lst (xs.set j v)))
theorem PZ:qY X PY:=by
 intro pins s σ H o i v ov iv u Q I ro ri rv h
 obtain⟨p,xs,k,j,rfl,rfl,hp,hj,q⟩:=h
 cases ro
 obtain⟨t,rfl⟩:=ri
 obtain⟨its,n,r,ho,hz⟩:=I.lst hp
 obtain⟨h1,h2,h3,h4⟩:=DW hj
 have hl:=r.length
 have hn:=l9
 have I':Inv X pins σ (aQ H p (.lst (xs.set j v))) {s with heap:=s.heap.update p (Ji (·.setIfInBounds j u))}:=
  I.lstUpd hp ho (PX its n j u) (r.set rv j) (by rw[List.length_set];exact hz) s.toks
 by_cases h0:0<=k
 ·have hk:k.toNat=j:=by
   rw[seqIndex_of h0 h4] at h1
   exact Cr h1
  exact PySem.W.ki_setAt ho h0 (by lia) (by rw[Bb,<-hl];exact h4) (by rw[hk];exact⟨_,I',q⟩)
 ·have hk:(k + (its.toArray.size:Int)).toNat=j:=by
   rw[seqIndex_neg (by lia) h3] at h1
   rw[Bb,<-hl]
   exact Cr h1
  exact PySem.W.ki_setBack ho (by lia) (by rw[Bb,<-hl];exact h3) (by lia) (by rw[hk];exact⟨_,I',q⟩)
theorem P0(lo hi:Option Int)(n:Nat):(Kr lo hi none n).1=((HT.sIx n 0 lo:Nat):Int)/\(Kr lo hi none n).2.1=((HT.sIx n n hi:Nat):Int)/\(Kr lo hi none n).2.2=1:=by
 refine⟨?_,?_,rfl⟩
 ·cases lo with
  | none=>simp[Kr,HT.sIx]
  | some i=>
   simp only[Kr,HT.sIx,Option.getD_none,show(1:Int) > 0 by decide,if_true]
   by_cases h:i < 0
   ·simp only[h,if_true] <;> lia
   ·simp only[h,if_false] <;> lia
 ·cases hi with
  | none=>simp[Kr,HT.sIx]
  | some i=>
   simp only[Kr,HT.sIx,Option.getD_none,show(1:Int) > 0 by decide,if_true]
   by_cases h:i < 0
   ·simp only[h,if_true] <;> lia
   ·simp only[h,if_false] <;> lia
theorem P1(its:List Ae)(lo hi:Option Int):slicePick its.toArray lo hi none=((its.drop (HT.sIx its.length 0 lo)).take (HT.sIx its.length its.length hi - HT.sIx its.length 0 lo)).toArray:=by
 obtain⟨h1,h2,h3⟩:=P0 lo hi its.toArray.size
 unfold slicePick
 rw[h1,h2,h3]
 simp only[sliceRange_one,pick_run,Bb] <;> rfl
def P2(K:Ac):V->Option Int->Option Int->Hp->VK->Prop:=fun x lo hi H Q=>∃ a xs,x=.ref a/\bF K H a xs/\∀ p,H p=none->Q (.ref p) (aQ H p (.lst (k9 xs lo hi)))
theorem u9:rG X (P2 X.K):=by
 intro pins s σ H x v vl vu lo hi sl Q I rx hs pl pu h
 obtain⟨a,xs,rfl,hx,q⟩:=h
 cases rx
 obtain⟨its,r,ht,hz⟩:=I.list hx
 have hlen:=r.length
 refine⟨"list",_,slot_list_getitem.lookup,ht.isList.typeIs,?_⟩
 refine wpAny_getItem_list_slice ht.isList hs pl pu .none (by simp) ?_ (by rw[Bb] <;> lia)
 rw[P1,<-hlen]
 refine⟨.ref s.heap.objs.size,_,I.laid (t':=s.toks) (o:=.lst (k9 xs lo hi)) (fun b ob q=>Af _ q) (Aj _) ?_,rfl,q _ (I.hok.fresh (Aj _))⟩
 exact⟨Bc (DV xs lo hi) hz,_,0,(r.drop (HT.sIx xs.length 0 lo)).take (HT.sIx xs.length xs.length hi - HT.sIx xs.length 0 lo),Au _ rfl⟩
def jM:V->Bool
 | .non=>true
 | .bl _=>true
 | .int _=>true
 | .str _=>true
 | _=>false
def jN:V->V->Bool
 | .non,.non=>true
 | .bl a,.bl b=>a == b
 | .bl a,.int b=>(if a then 1 else 0) == b
 | .int a,.bl b=>a == (if b then 1 else 0)
 | .int a,.int b=>a == b
 | .str a,.str b=>a == b
 | _,_=>false
theorem P4{A:Ck}{s:Ah}{y x:V}{u v:Ae}(ry:RelV y u)(rx:RelV x v)(fy:jM y=true)(fx:jM x=true):Nq A s u v (jN y x):=by
 cases y with
 | non=>
  cases ry
  cases x with
  | non=>cases rx;exact SeqAt.EqAt.same _
  | bl b=>cases rx;exact SeqAt.EqAt.none_bool b
  | int b=>obtain⟨t,rfl⟩:=rx;exact SeqAt.EqAt.none_int b t
  | str b=>obtain⟨t,rfl⟩:=rx;exact SeqAt.EqAt.none_str b t
  | _=>exact absurd (show false=true from fx) Ar
 | bl a=>
  cases ry
  cases x with
  | non=>cases rx;exact SeqAt.EqAt.bool_none a
  | bl b=>cases rx;exact SeqAt.EqAt.bool_bool a b
  | int b=>obtain⟨t,rfl⟩:=rx;exact SeqAt.EqAt.bool_int a b t
  | str b=>obtain⟨t,rfl⟩:=rx;exact SeqAt.EqAt.bool_str a b t
  | _=>exact absurd (show false=true from fx) Ar
 | int a=>
  obtain⟨t',rfl⟩:=ry
  cases x with
  | non=>cases rx;exact SeqAt.EqAt.int_none a t'
  | bl b=>cases rx;exact SeqAt.EqAt.int_bool a t' b
  | int b=>obtain⟨t,rfl⟩:=rx;exact SeqAt.EqAt.int_int a t' b t
  | str b=>obtain⟨t,rfl⟩:=rx;exact SeqAt.EqAt.int_str a t' b t
  | _=>exact absurd (show false=true from fx) Ar
 | str a=>
  obtain⟨t',rfl⟩:=ry
  cases x with
  | non=>cases rx;exact SeqAt.EqAt.str_none a t'
  | bl b=>cases rx;exact SeqAt.EqAt.str_bool a t' b
  | int b=>obtain⟨t,rfl⟩:=rx;exact SeqAt.EqAt.str_int a t' b t
  | str b=>obtain⟨t,rfl⟩:=rx;exact SeqAt.EqAt.str_str a t' b t
  | _=>exact absurd (show false=true from fx) Ar
 | _=>exact absurd (show false=true from fy) Ar
def gN(x:V)(u:Ae):Bool:=match u with
 | .none=>jN .non x
 | .bool b=>jN (.bl b) x
 | .int i _=>jN (.int i) x
 | .str z _=>jN (.str z) x
 | _=>false
theorem DZ{x y:V}{u:Ae}(r:RelV y u)(f:jM y=true):gN x u=jN y x:=by
 cases y with
 | non=>cases r;rfl
 | bl b=>cases r;rfl
 | int i=>obtain⟨t,rfl⟩:=r;rfl
 | str z=>obtain⟨t,rfl⟩:=r;rfl
 | _=>exact absurd (show false=true from f) Ar
theorem oW{x:V}:∀ {xs:List V} {us:List Ae},aZ xs us->xs.all jM=true->us.any (gN x)=xs.any fun y=>jN y x
 | _,_,.nil,_=>rfl
 | y :: xs,u :: us,.cons r t,f=>by
  rw[Iz,Cj] at f
  rw[Ge,Ge,DZ r f.1,oW t f.2]
theorem oX{A:Ck}{s:Ah}{x:V}{v:Ae}(rx:RelV x v)(fx:jM x=true):∀ {xs:List V} {us:List Ae},aZ xs us->xs.all jM=true->∀ u∈us,Nq A s u v (gN x u)
 | _,_,.nil,_=>fun u hu=>by cases hu
 | y :: xs,u :: us,.cons r t,f=>fun u' hu=>by
  rw[Iz,Cj] at f
  rcases Ax.mp hu with rfl | hu
  ·rw[DZ r f.1];exact P4 r rx f.1 fx
  ·exact oX rx fx t f.2 u' hu
def inV(x:V)(xs:List V):Bool:=xs.any fun y=>jN y x
def rIn(K:Ac)(neg:Bool):R2:=fun x y H Q=>∃ p xs,y=.ref p/\(bF K H p xs\/bN K H p xs)/\jM x=true/\xs.all jM=true/\Q (.bl (if neg then !inV x xs else inV x xs)) H
theorem P5:bG X (Bw .In) (rIn X.K false):=by
 intro pins s σ H x y v u Q I rx ry h
 obtain⟨p,xs,rfl,hq,fx,fs,q⟩:=h
 cases ry
 rcases hq with hq | hq
 ·obtain⟨its,r,pl,hz⟩:=I.list hq
  refine SeqAt.in_listAt (gN x) pl.isList (fun w hw=>oX rx fx r fs w (by simpa using hw)) ⟨.bl _,H,I,rfl,?_⟩
  rw[show its.toArray.any (gN x)=its.any (gN x) by simp,oW r fs]
  exact q
 ·obtain⟨its,r,pl,hz⟩:=I.tuple hq
  refine SeqAt.in_tupleAt (gN x) pl (fun w hw=>oX rx fx r fs w (by simpa using hw)) ⟨.bl _,H,I,rfl,?_⟩
  rw[show its.toArray.any (gN x)=its.any (gN x) by simp,oW r fs]
  exact q
theorem P6:bG X (Bw .NotIn) (rIn X.K true):=by
 intro pins s σ H x y v u Q I rx ry h
 obtain⟨p,xs,rfl,hq,fx,fs,q⟩:=h
 cases ry
 rcases hq with hq | hq
 ·obtain⟨its,r,pl,hz⟩:=I.list hq
  refine SeqAt.notIn_listAt (gN x) pl.isList (fun w hw=>oX rx fx r fs w (by simpa using hw)) ⟨.bl _,H,I,rfl,?_⟩
  rw[show its.toArray.any (gN x)=its.any (gN x) by simp,oW r fs]
  exact q
 ·obtain⟨its,r,pl,hz⟩:=I.tuple hq
  refine SeqAt.notIn_tupleAt (gN x) pl (fun w hw=>oX rx fx r fs w (by simpa using hw)) ⟨.bl _,H,I,rfl,?_⟩
  rw[show its.toArray.any (gN x)=its.any (gN x) by simp,oW r fs]
  exact q
theorem P7:dA X (.builtin "len") (fun xs H Q=>∃ p ys,xs=[.ref p]/\(bF X.K H p ys\/bN X.K H p ys)/\Q (.int ys.length) H):=by
 intro pins s σ H xs us Q I r h
 obtain⟨p,ys,rfl,hq,q⟩:=h
 obtain⟨u,rfl,rx⟩:=vals1 r
 cases rx
 have hn:=l9
 rcases hq with hq | hq
 ·obtain⟨its,r',pl,hz⟩:=I.list hq
  have hlen:=r'.length
  exact Calls.call_len_list pl.isList (by simp only[Bb] <;> lia) ⟨.int ys.length,H,I.tok _,⟨s.toks + 1,by rw[Bb,hlen]⟩,q⟩
 ·obtain⟨its,r',pl,hz⟩:=I.tuple hq
  have hlen:=r'.length
  exact len_tuple pl (by simp only[Bb] <;> lia) ⟨.int ys.length,H,I.tok _,⟨s.toks + 1,by rw[Bb,hlen]⟩,q⟩
theorem P8:dA X (.builtin "len") (fun xs H Q=>∃ z,xs=[.str z]/\z.length<=Am/\Q (.int z.length) H):=by
 intro pins s σ H xs us Q I r h
 obtain⟨z,rfl,hz,q⟩:=h
 obtain⟨u,rfl,t,rfl⟩:=vals1 r
 have hn:=l9
 exact len_str (by lia) ⟨.int z.length,H,I.tok _,⟨_,rfl⟩,q⟩
theorem dA.or{f:Ae}{r r':List V->Hp->VK->Prop}(h:dA X f r)(h':dA X f r'):dA X f (fun xs H Q=>r xs H Q\/r' xs H Q):=by
 intro pins s σ H xs us Q I rs q
 rcases q with q | q
 ·exact h pins s σ H xs us Q I rs q
 ·exact h' pins s σ H xs us Q I rs q
theorem P9:dA X (.type "list") (fun xs H Q=>∃ p ys,xs=[.ref p]/\(bF X.K H p ys\/bN X.K H p ys)/\∀ l,H l=none->Q (.ref l) (aQ H l (.lst ys))):=by
 intro pins s σ H xs us Q I r h
 obtain⟨p,ys,rfl,hq,q⟩:=h
 obtain⟨u,rfl,rx⟩:=vals1 r
 cases rx
 have fin:∀ (its:List Ae),aZ ys its->ys.length<=Am->∀ (h':Heap) (c':Nat),(∀ b o',s.heap.get? b=some o'->h'.get? b=some o')->
   h'.get? s.heap.objs.size=some {cls:=.type "list",dict:=none,data:=.seq its.toArray c',slots:=#[]}->EP X pins σ Q (.ref s.heap.objs.size) {s with heap:=h'}:=fun its r' hz h' c' kp e=>
  ⟨.ref s.heap.objs.size,_,I.laid (t':=s.toks) kp (Aj _) (show cN X.prog X.w _ h' _ (.lst ys) from⟨hz,its,c',r',e⟩),rfl,q _ (I.hok.fresh (Aj _))⟩
 rcases hq with hq | hq
 ·obtain⟨its,r',pl,hz⟩:=I.list hq
  have hlen:=r'.length
  obtain⟨o,ho,hc,n,hd⟩:=pl.isList
  exact call_list_seq p (.inl rfl) ho hc hd (fun h' c' kp e=>fin its r' hz h' c' kp e) (by simp only[Bb] <;> lia)
 ·obtain⟨its,r',pl,hz⟩:=I.tuple hq
  have hlen:=r'.length
  obtain⟨o,ho,hc,n,hd⟩:=pl
  exact call_list_seq p (.inr rfl) ho hc hd (fun h' c' kp e=>fin its r' hz h' c' kp e) (by simp only[Bb] <;> lia)
theorem QA:dA X (.type "tuple") (fun xs H Q=>∃ p ys,xs=[.ref p]/\((bF X.K H p ys/\∀ l,H l=none->Q (.ref l) (aQ H l (.tup ys)))\/(bN X.K H p ys/\Q (.ref p) H))):=by
 intro pins s σ H xs us Q I r h
 obtain⟨p,ys,rfl,h⟩:=h
 obtain⟨u,rfl,rx⟩:=vals1 r
 cases rx
 rcases h with⟨hq,q⟩ | ⟨hq,q⟩
 ·obtain⟨its,r',pl,hz⟩:=I.list hq
  have hlen:=r'.length
  refine call_tuple_list pl.isList (fun h' kp=>?_) (by simp only[Bb] <;> lia)
  have I1:Inv X pins σ H {s with heap:=h'}:=I.kept (t':=s.toks) kp
  have I2:Inv X pins σ (aQ H h'.objs.size (.tup ys)) {s with heap:=h'.push {cls:=.type "tuple",data:=.seq its.toArray}}:=
   I1.laid (t':=s.toks) (fun b o e=>Af _ e) (Aj _) (show cN X.prog X.w _ _ _ (.tup ys) from⟨hz,its,r',IsTup.new _ _⟩)
  exact⟨.ref h'.objs.size,_,I2,rfl,q _ (I1.hok.fresh (Aj _))⟩
 ·obtain⟨its,r',pl,hz⟩:=I.tuple hq
  exact call_tuple_same pl ⟨.ref p,H,I,rfl,q⟩
def rH(K:Ac)(T:String)(x:V)(H:Hp):Prop:=match x with
 | .str _=>T = "str"
 | .int _=>T = "int"
 | .ref p=>(T = "list"/\∃ xs,bF K H p xs)\/(T = "tuple"/\∃ o,K.lookup p=some o/\o.cls=.type "tuple"/\o.dict=none)\/
   (T = "dict"/\((∃ kvs,Rd H p (.dK kvs))\/∃ kvs,Rd H p (.dT kvs)))\/(T = "set"/\∃ S n,H p=some (.set S n))
 | _=>False
theorem D0{pins:List (Addr×Obj)}{σ:St}{H:Hp}{s:Ah}{T:String}{x:V}{v:Ae}(I:Inv X pins σ H s)(r:RelV x v)(ty:rH X.K T x H) :
  s.TypeIs v T/\∀ a,v=.ref a->∃ ob,s.heap.get? a=some ob/\ob.dict=none:=by
 cases x with
 | str z=>
  obtain⟨t,rfl⟩:=r
  cases (show T = "str" from ty)
  exact⟨typeIs_str s z t,fun _ e=>nomatch e⟩
 | int i=>
  obtain⟨t,rfl⟩:=r
  cases (show T = "int" from ty)
  exact⟨typeIs_int s i t,fun _ e=>nomatch e⟩
 | ref p=>
  cases r
  rcases ty with⟨rfl,xs,hq⟩ | ⟨rfl,o,hk,hc,hd⟩ | ⟨rfl,hk⟩ | ⟨rfl,S,n,hk⟩
  ·obtain⟨its,_,pl,_⟩:=I.list hq
   refine⟨pl.isList.typeIs,fun a e=>?_⟩
   cases e
   obtain⟨o,n,e,c,hd,_⟩:=pl
   exact⟨o,e,hd⟩
  ·refine⟨⟨o,I.kIn p o hk,hc⟩,fun a e=>?_⟩
   cases e
   exact⟨o,I.kIn _ o hk,hd⟩
  ·have z:∃ o,s.heap.get? p=some o/\o.ExactDict:=by
    rcases hk with⟨kvs,hk⟩ | ⟨kvs,hk⟩
    ·obtain⟨_,_,_,_,o,_,_,e,ex,_⟩:=hk.ok I.hok
     exact⟨o,e,ex⟩
    ·obtain⟨_,_,_,_,o,_,_,e,ex,_⟩:=hk.ok I.hok
     exact⟨o,e,ex⟩
   obtain⟨o,e,ex⟩:=z
   refine⟨⟨o,e,ex.1⟩,fun a e2=>?_⟩
   cases e2
   exact⟨o,e,ex.2.1⟩
  ·obtain⟨o,_,_,_,e,ex,_⟩:=I.hok p _ hk
   refine⟨⟨o,e,ex.1⟩,fun a e2=>?_⟩
   cases e2
   exact⟨o,e,ex.2.1⟩
 | _=>exact Gi ty
def QB(K:Ac)(T:String)(r:V->List V->Hp->VK->Prop)(to:TE):TE:=fun σ H Q=>to σ H fun x H1=>rH K T x H1/\r x [] H1 Q
def QC(K:Ac)(T:String)(r:V->List V->Hp->VK->Prop)(to:TE)(t:TA):TE:=fun σ H Q=>to σ H fun x H1=>rH K T x H1/\t σ H1 fun xs H2=>r x xs H2 Q
variable {o e:Expr}{es:List Expr}{to:TE}{t:TA}{name:Str}{apos cpos:Pos}{T id:String}{r:V->List V->Hp->VK->Prop}
theorem QD(pa:PlainAttrs T)(slot:Slot T name id)(hty:typeOf (.builtin id)=pure (.type "method_descriptor"))(hm:iG X id r)(ho:PE X o to)
  (hbase:Jl o name X.env (eval o X.env)=eval o X.env:=by rfl) (hline:(apos.endLine == cpos.line)=true:=by rfl):PE X (.Call (.Attribute o name apos) [] [] cpos) (QB X.K T r to):=by
 intro pins s σ H Q I h
 refine wpAny_Call_method0_late hbase hline (a9 (ho pins s σ H _ I h) fun v s1 ⟨x,H1,I1,r1,ty,q1⟩=>?_)
 obtain⟨h1,h2⟩:=D0 I1 r1 ty
 exact⟨T,id,pa,slot,hty,h1,h2,Calls.callWith_builtin rfl (PySem.evalArgs_none (hm pins s1 σ H1 x [] v [] Q I1 r1 .nil q1))⟩
theorem QE(pa:PlainAttrs T)(slot:Slot T name id)(hty:typeOf (.builtin id)=pure (.type "method_descriptor"))(hm:iG X id r)(ho:PE X o to)(ha:PA X (e :: es) t)
  (hbase:Jl o name X.env (eval o X.env)=eval o X.env:=by rfl)
  (hfew:((Hf cpos (Bh (e :: es) X.env)).all (fun x=>!x.1) && (backToKw cpos (Lx [] X.env)).all (fun x=>x.1.isSome)
   && decide ((e :: es).length + ([]:List Keyword).length + (if ([]:List Keyword).isEmpty then 0 else 1) < 30))=true:=by rfl)
  (hline:(apos.endLine == cpos.line)=true:=by rfl) (hs:Bh (e :: es) X.env=(false,eval e X.env) :: Bh es X.env:=by rfl) (hplain:(Hf cpos (Bh es X.env)).any (·.1)=false:=by rfl) :
  PE X (.Call (.Attribute o name apos) (e :: es) [] cpos) (QC X.K T r to t):=by
 intro pins s σ H Q I h
 refine wpAny_Call_method_late hbase hfew hline rfl (a9 (ho pins s σ H _ I h) fun v s1 ⟨x,H1,I1,r1,ty,q1⟩=>?_)
 obtain⟨h1,h2⟩:=D0 I1 r1 ty
 refine⟨T,id,pa,slot,hty,h1,h2,?_⟩
 have hA:=ha cpos pins s1 σ H1 _ I1 q1
 rw[hs] at hA ⊢
 refine Calls.callWith_builtin (by show(false || (Hf cpos (Bh es X.env)).any (·.1))=false;rw[hplain] <;> rfl) (Calls.evalArgs_plain ?_)
 exact a9 hA fun us s2 ⟨vs,H2,I2,r2,q2⟩=>hm pins s2 σ H2 x vs v us Q I2 r1 r2 q2
end
def vA(X:Cx)(id:String)(r:V->List V->Hp->VK->Prop):Prop:=
 ∀ (pins:List (Addr×Obj)) (s:Ah) (σ:St) (H:Hp) (x:V) (xs:List V) (v:Ae) (us:List Ae) (Q:VK),Inv X pins σ H s->RelV x v->aZ xs us->r x xs H Q->
  Ba (Bj X.prog X.w) X.A (call (.builtin id) (v :: us)) (EP X pins σ Q) X.xe s
theorem aZ.one:∀ {x:V} {us:List Ae},aZ [x] us->∃ u,us=[u]/\RelV x u
 | _,_,.cons r .nil=>⟨_,rfl,r⟩
theorem aZ.zero:∀ {us:List Ae},aZ [] us->us=[]
 | _,.nil=>rfl
theorem aZ.dropLast{xs:List V}{us:List Ae}(h:aZ xs us):aZ xs.dropLast us.dropLast:=by
 induction h with
 | nil=>exact .nil
 | cons r t ih=>
  cases t with
  | nil=>exact .nil
  | cons q t'=>exact .cons r ih
theorem aZ.rep{xs:List V}{us:List Ae}(h:aZ xs us):∀ k:Nat,aZ (Bs k xs).flatten (Bs k us).flatten
 | 0=>.nil
 | k + 1=>by
  rw[Fw,Fw,Hu,Hu]
  exact aZ.append h (aZ.rep h k)
theorem QF{α:Type}(l:List α):l.eraseIdx (l.length - 1)=l.dropLast:=by
 induction l with
 | nil=>rfl
 | cons a r ih=>
  cases r with
  | nil=>rfl
  | cons b r=>
   have e:(a :: b :: r).length - 1=((b :: r).length - 1) + 1:=by
    have h1:(a :: b :: r).length=r.length + 2:=rfl
    have h2:(b :: r).length=r.length + 1:=rfl
    lia
   rw[e,List.eraseIdx_cons_succ,ih]
   all_goals rfl
theorem foldl_rep(its:List Ae):∀ (k:Nat) (acc:List Ae),
  List.foldl (fun x1 x2=>x1 ++ x2) acc.toArray (Bs k its.toArray)=(acc ++ (Bs k its).flatten).toArray
 | 0,acc=>by simp
 | k + 1,acc=>by
  have e:acc.toArray ++ its.toArray=(acc ++ its).toArray:=by simp
  have e2:(acc ++ its) ++ (Bs k its).flatten=acc ++ (Bs (k + 1) its).flatten:=by
   rw[Fw,Hu,Fu]
  rw[<-e2,<-foldl_rep its k (acc ++ its),<-e,Fw,Fd]
section
variable {X:Cx}{pins:List (Addr×Obj)}{σ:St}{H:Hp}{s:Ah}{l b:Addr}{xs ys zs:List V}
theorem Inv.lset{its its':List Ae}{n:Nat}{f:Array Ae->Array Ae}{t':Nat}(I:Inv X pins σ H s)(hH:H l=some (.lst xs))
  (e:s.heap.get? l=some {cls:=.type "list",data:=.seq its.toArray n}) (hf:f its.toArray=its'.toArray) (hv:aZ ys its') (hz:ys.length<=Am) :
  Inv X pins σ (aQ H l (.lst ys)) {s with heap:=s.heap.update l (Ji f),toks:=t'}:=by
 have q:=PySem.IsL.update e f
 rw[hf] at q
 refine I.write (x:=l) (e:=l) (by rw[hH];exact trivial) (.inl rfl) (fun b' u hb hu=>(Fz s.heap (Ji f) (Bp hb)).trans hu) ⟨_,q⟩ ?_
 exact⟨hz,its',_,hv,q⟩
theorem Inv.lnew{its:List Ae}{t':Nat}(I:Inv X pins σ H s)(hv:aZ ys its)(hz:ys.length<=Am) :
  Inv X pins σ (aQ H s.heap.objs.size (.lst ys)) {s with heap:=s.heap.push {cls:=.type "list",data:=.seq its.toArray},toks:=t'}:=
 I.laid (fun _ _ q=>Af _ q) (Aj _) ⟨hz,its,0,hv,Au _ rfl⟩
theorem Inv.fresh(I:Inv X pins σ H s):H s.heap.objs.size=none:=I.hok.fresh (Aj _)
theorem Inv.lstM(I:Inv X pins σ H s)(hH:H l=some (.lst xs)):xs.length<=Am/\∃ (its:List Ae) (n:Nat),aZ xs its/\xs.length=its.length/\s.heap.get? l=some {cls:=.type "list",data:=.seq its.toArray n}:=by
 obtain⟨z,its,n,r,e⟩:=I.hok l _ hH
 exact⟨z,its,n,r,r.length,e⟩
theorem QG{n:Nat}(h:n<=Am):Kl n=false:=by
 unfold Kl
 exact decide_eq_false (by lia)
end
section
variable {X:Cx}
def rAppend:V->List V->Hp->VK->Prop:=fun x vs H Q=>∃ l xs y,x=.ref l/\vs=[y]/\H l=some (.lst xs)/\xs.length < Am/\Q .non (aQ H l (.lst (xs ++ [y])))
theorem D1:vA X "list.append" rAppend:=by
 intro pins s σ H x vs v us Q I rx rv h
 obtain⟨l,xs,y,rfl,rfl,hH,hz,q⟩:=h
 cases rx
 obtain⟨u,rfl,ru⟩:=rv.one
 obtain⟨z,its,n,r,hl,e⟩:=I.lstM hH
 refine Ll Dr ⟨_,e,rfl⟩ F.entry_list_append (F.args_list_append_2 _ _) (PySem.list_append l its.toArray n u (by rw[Bb];lia)) ⟨e,?_⟩
 refine⟨.non,_,I.lset (its':=its ++ [u]) hH e (by simp) (r.append (.cons ru .nil)) ?_,rfl,q⟩
 rw[Ao,Cd]
 lia
def rPop:V->List V->Hp->VK->Prop:=fun x vs H Q=>∃ l xs y,x=.ref l/\vs=[]/\H l=some (.lst xs)/\xs[xs.length - 1]? = some y/\Q y (aQ H l (.lst xs.dropLast))
theorem QH:vA X "list.pop" rPop:=by
 intro pins s σ H x vs v us Q I rx rv h
 obtain⟨l,xs,y,rfl,rfl,hH,hy,q⟩:=h
 cases rx
 have hus:=rv.zero
 subst hus
 obtain⟨z,its,n,r,hl,e⟩:=I.lstM hH
 obtain⟨u,hu,ru⟩:=r.get hy
 have hy':its.toArray[its.toArray.size - 1]? = some u:=by
  show its.toArray[its.length - 1]? = some u
  rw[<-Gj,<-hl]
  exact hu
 refine Ll Mu ⟨_,e,rfl⟩ F.entry_list_pop (F.args_list_pop_1 _) (MeetsSeq.list_pop_last l its.toArray n u hy' (by rw[Bb];lia)) ⟨e,?_⟩
 refine⟨y,_,I.lset (its':=its.dropLast) hH e ?_ r.dropLast ?_,ru,q⟩
 ·show its.toArray.eraseIdxIfInBounds (its.toArray.size - 1)=its.dropLast.toArray
  rw[Bb,List.eraseIdxIfInBounds_toArray,QF]
 ·rw[List.length_dropLast]
  lia
def QI:R2:=fun x y H Q=>∃ l b xs zs,x=.ref l/\y=.ref b/\H l=some (.lst xs)/\H b=some (.lst zs)/\xs.length + zs.length<=Am/\∀ p,H p=none->Q (.ref p) (aQ H p (.lst (xs ++ zs)))
theorem QJ:bG X (Fg .Add) QI:=by
 intro pins s σ H x y v u Q I rx ry h
 obtain⟨l,b,xs,zs,rfl,rfl,hH,hB,hz,q⟩:=h
 cases rx
 cases ry
 obtain⟨z,its,n,r,hl,e⟩:=I.lstM hH
 obtain⟨z2,its2,n2,r2,hl2,e2⟩:=I.lstM hB
 refine PySem.P.add_list e e2 ?_ (by rw[Bb,Bb];lia)
 have ea:its.toArray ++ its2.toArray=(its ++ its2).toArray:=by simp
 rw[ea]
 exact⟨.ref _,_,I.lnew (t':=s.toks) (r.append r2) (by rw[Ao];lia),rfl,q _ I.fresh⟩
def QK:R2:=fun x y H Q=>∃ l k xs,x=.ref l/\y=.int k/\H l=some (.lst xs)/\-(2 ^ 63)<=k/\k < 2 ^ 63/\xs.length * k.toNat<=Am/\
 ∀ p,H p=none->Q (.ref p) (aQ H p (.lst (Bs k.toNat xs).flatten))
theorem QL{α:Type}(xs:List α)(k:Nat):(Bs k xs).flatten.length=k * xs.length:=by
 induction k with
 | zero=>simp
 | succ k ih=>rw[Fw,Hu,Ao,ih,Nat.succ_mul,Nat.add_comm]
theorem QM:bG X (Fg .Mult) QK:=by
 intro pins s σ H x y v u Q I rx ry h
 obtain⟨l,k,xs,rfl,rfl,hH,h1,h2,hz,q⟩:=h
 cases rx
 obtain⟨t,rfl⟩:=ry
 obtain⟨z,its,n,r,hl,e⟩:=I.lstM hH
 have hlen:its.toArray.size * k.toNat<=Am:=by rw[Bb,<-hl];exact hz
 have hcap:¬ its.toArray.size * k.toNat > (2 ^ 63 - 1) / 8:=by
  have:(Am:Nat)<=(2 ^ 63 - 1) / 8:=by decide
  lia
 have hfit:¬ (!Builtin.List.listFitsIndex k)=true:=by
  rw[fitsIndex_both h1 h2]
  exact Ar
 have hlong:¬ Kl (its.toArray.size * k.toNat)=true:=by
  rw[QG hlen]
  exact Ar
 have hnew:List.foldl (fun x1 x2=>x1 ++ x2) #[] (Bs (if its.toArray.isEmpty=true then 0 else k.toNat) its.toArray)=(Bs k.toNat its).flatten.toArray:=by
  have f0:∀ m:Nat,List.foldl (fun x1 x2=>x1 ++ x2) #[] (Bs m its.toArray)=(Bs m its).flatten.toArray:=fun m=>by
   have:=foldl_rep its m []
   rw[Kk] at this
   exact this
  rw[f0]
  cases its with
  | nil=>simp
  | cons a r'=>rw[if_neg (by simp)]
 refine wpAny_binaryOp_repeat_ref (T:="list") (U:="int") (by decide) ⟨_,e,rfl⟩ (fun s'=>typeIs_int s' k t) noFill_list_mul F.fills_int_mul F.slot_int_rmul repeat_list F.slot_int_index.lookup
  (Ll F.slot_int_rmul (typeIs_int s k t) F.entry_int_rmul (F.args_int_rmul_2 _ _) (int___rmul___int_list k t l its.toArray n)
   ⟨e,rfl,⟨_,e,rfl⟩,Ll F.slot_list_mul ⟨_,e,rfl⟩ F.entry_list_mul (F.args_list_mul_2 _ _) (AutoListH.list___mul___list_int_3 l its.toArray n k t hfit hcap hlong) ⟨e,?_⟩⟩)
 rw[hnew]
 exact⟨.ref _,_,I.lnew (t':=s.toks) (r.rep k.toNat) (by rw[QL,Nat.mul_comm];exact hz),rfl,q _ I.fresh⟩
end
section
variable {κ:Type}[DecidableEq κ]
def fP(kvs:List (κ×V))(k:κ):Option V:=(kvs.find? fun kv=>decide (kv.1=k)).map (·.2)
def eJ(kvs:List (κ×V))(k:κ)(v:V):List (κ×V):=
 if (kvs.any fun kv=>decide (kv.1=k))=true then kvs.map (fun kv=>if kv.1=k then(kv.1,v) else kv) else kvs ++ [(k,v)]
def mD(kvs:List (κ×V))(k:κ):List (κ×V):=kvs.filter fun kv=>decide (kv.1≠k)
theorem rJ{p:κ×V}{r:List (κ×V)}{k:κ}(e:p.1=k):fP (p :: r) k=some p.2:=by simp[fP,Fe,e]
theorem rK{p:κ×V}{r:List (κ×V)}{k:κ}(e:¬ p.1=k):fP (p :: r) k=fP r k:=by simp[fP,Fe,e]
theorem D2(k:κ):∀ kvs:List (κ×V),(kvs.any fun kv=>decide (kv.1=k))=(fP kvs k).isSome
 | []=>rfl
 | p :: r=>by
  rw[Ge]
  by_cases e:p.1=k
  ·simp only[rJ e,decide_eq_true e,Bool.true_or,Option.isSome_some]
  ·rw[rK e,decide_eq_false e,Bool.false_or];exact D2 k r
theorem oY(kvs:List (κ×V))(k:κ)(v:V):(eJ kvs k v).length<=kvs.length + 1:=by
 unfold eJ
 split
 ·rw[Ab];lia
 ·rw[Ao,Bn,List.length_nil];lia
theorem fB.isSome_eq{o:Option V}{u:Option Ae}(r:fB o u):o.isSome=u.isSome:=by
 cases o with
 | none=>cases u with
  | none=>rfl
  | some _=>exact(show False from r).elim
 | some _=>cases u with
  | none=>exact(show False from r).elim
  | some _=>rfl
theorem fB.getD{o:Option V}{u:Option Ae}{d:V}{d':Ae}(r:fB o u)(rd:RelV d d'):RelV (o.getD d) (u.getD d'):=by
 cases o with
 | none=>cases u with
  | none=>exact rd
  | some _=>exact(show False from r).elim
 | some _=>cases u with
  | none=>exact(show False from r).elim
  | some _=>exact r
theorem KV.val{kvs:List (κ×V)}{vs:List (κ×Ae)}(r:KV kvs vs)(k:κ):fB (fP kvs k) (valueAt vs k):=by
 unfold KV at r
 induction r with
 | nil=>exact True.intro
 | @cons p q ps qs h t ih=>
  obtain⟨h1,h2⟩:=h
  by_cases e:p.1=k
  ·have e':q.1=k:=h1.symm.trans e
   have b:valueAt (q :: qs) k=some q.2:=by simp[valueAt,Fe,e']
   rw[rJ e,b];exact h2
  ·have e':¬ q.1=k:=fun z=>e (h1.trans z)
   have b:valueAt (q :: qs) k=valueAt qs k:=by simp[valueAt,Fe,e']
   rw[rK e,b];exact ih
theorem KV.any{kvs:List (κ×V)}{vs:List (κ×Ae)}(r:KV kvs vs)(k:κ):(kvs.any fun kv=>decide (kv.1=k))=vs.any fun kv=>decide (kv.1=k):=by
 unfold KV at r
 induction r with
 | nil=>rfl
 | cons h t ih=>rw[Ge,Ge,ih,h.1]
theorem KV.repl{kvs:List (κ×V)}{vs:List (κ×Ae)}(r:KV kvs vs)(k:κ){y:V}{u:Ae}(ry:RelV y u) :
  KV (kvs.map fun kv=>if kv.1=k then(kv.1,y) else kv) (vs.map fun kv=>if kv.1=k then(kv.1,u) else kv):=by
 unfold KV at r ⊢
 induction r with
 | nil=>exact .nil
 | @cons p q ps qs h t ih=>
  rw[Ay,Ay]
  refine .cons ?_ ih
  obtain⟨h1,h2⟩:=h
  by_cases e:p.1=k
  ·rw[if_pos e,if_pos (h1.symm.trans e)];exact⟨h1,ry⟩
  ·rw[if_neg e,if_neg (fun z=>e (h1.trans z))];exact⟨h1,h2⟩
theorem KV.put{kvs:List (κ×V)}{vs:List (κ×Ae)}(r:KV kvs vs)(k:κ){y:V}{u:Ae}(ry:RelV y u):KV (eJ kvs k y) (stored vs k u):=by
 unfold eJ stored
 rw[r.any k]
 by_cases e:(vs.any fun kv=>decide (kv.1=k))=true
 ·rw[if_pos e,if_pos e];exact r.repl k ry
 ·rw[if_neg e,if_neg e];exact Paired.snoc r ⟨rfl,ry⟩
theorem KV.length{kvs:List (κ×V)}{vs:List (κ×Ae)}(r:KV kvs vs):kvs.length=vs.length:=Ee r
theorem QN(kvs:List (κ×V))(k:κ):(mD kvs k).length<=kvs.length:=Gk _ _
end
theorem lA{P:Bo}{w:Ce}{k:aE}{u:Ae}(r:RelV (kV k) u):(dO P w).is k u=true:=by
 cases k with
 | inl i=>obtain⟨t,e⟩:=(show ∃ t,u=Value.int i t from r);subst e;exact K5 P w i t
 | inr x=>obtain⟨t,e⟩:=(show ∃ t,u=Value.str x t from r);subst e;exact K6 P w x t
theorem D4{P:Bo}{w:Ce}:∀ {ks:List aE} {us:List Ae},aZ (ks.map kV) us->ItemsAre (dO P w) ks us
 | [],_,r=>by rw[Jo] at r;cases r;exact .nil
 | k :: ks,_,r=>by
  rw[Ay] at r
  cases r with
  | cons h t=>exact .cons (lA h) (D4 t)
abbrev KT(H:Hp):List (List aE×V)->List (List aE×Addr×Ae)->Prop:=Gr fun p q=>p.1=q.1/\H q.2.1=some (.tup (p.1.map kV))/\RelV p.2 q.2.2
theorem KT.val{H:Hp}{kvs:List (List aE×V)}{xs:List (List aE×Addr×Ae)}(r:KT H kvs xs)(k:List aE):fB (fP kvs k) ((Mh xs k).map (·.2)):=by
 induction r with
 | nil=>exact True.intro
 | @cons p q ps qs h t ih=>
  obtain⟨h1,_,h2⟩:=h
  by_cases e:p.1=k
  ·have e':q.1=k:=h1.symm.trans e
   have b:Mh (q :: qs) k=some q.2:=by simp[Mh,Fe,e']
   rw[rJ e,b];exact h2
  ·have e':¬ q.1=k:=fun z=>e (h1.trans z)
   have b:Mh (q :: qs) k=Mh qs k:=by simp[Mh,Fe,e']
   rw[rK e,b];exact ih
theorem KT.repl{H:Hp}{kvs:List (List aE×V)}{xs:List (List aE×Addr×Ae)}(r:KT H kvs xs)(k:List aE){y:V}{u:Ae}(ry:RelV y u) :
  KT H (kvs.map fun kv=>if kv.1=k then(kv.1,y) else kv) (xs.map (putAt k u)):=by
 induction r with
 | nil=>exact .nil
 | @cons p q ps qs h t ih=>
  rw[Ay,Ay]
  refine .cons ?_ ih
  obtain⟨h1,h2,h3⟩:=h
  unfold putAt
  by_cases e:p.1=k
  ·rw[if_pos e,if_pos (h1.symm.trans e)];exact⟨h1,h2,ry⟩
  ·rw[if_neg e,if_neg (fun z=>e (h1.trans z))];exact⟨h1,h2,h3⟩
theorem KT.put{H:Hp}{kvs:List (List aE×V)}{xs:List (List aE×Addr×Ae)}(r:KT H kvs xs)(k:List aE){b:Addr}{y:V}{u:Ae}(hb:H b=some (.tup (k.map kV)))(ry:RelV y u) :
  KT H (eJ kvs k y) (Mw xs k b u):=by
 have e:(kvs.any fun kv=>decide (kv.1=k))=(Mh xs k).isSome:=by
  rw[D2,(r.val k).isSome_eq,Ky]
 unfold eJ Mw
 rw[e]
 by_cases q:(Mh xs k).isSome=true
 ·rw[if_pos q,if_pos q];exact r.repl k ry
 ·rw[if_neg q,if_neg q];exact Paired.snoc r ⟨rfl,hb,ry⟩
theorem KT.keeps{H H':Hp}{kvs:List (List aE×V)}{xs:List (List aE×Addr×Ae)}(r:KT H kvs xs)(ht:∀ b ys,H b=some (.tup ys)->H' b=some (.tup ys)):KT H' kvs xs:=
 Paired.mapP r fun _ _ z=>⟨z.1,ht _ _ z.2.1,z.2.2⟩
section
variable {P:Bo}{w:Ce}{H:Hp}{h:Heap}{a:Addr}
theorem D5{u:HO}(ok:cR P w H h)(e:Rd H a u):cN P w H h a u:=e.ok ok
theorem lB{kvs:List (aE×V)}(ok:cR P w H h)(e:Rd H a (.dK kvs)):kvs.length<=Am/\(a == Gb)=false/\∃ vs,KV kvs vs/\h.DictOf (dO P w) a vs:=
 show cN P w H h a (.dK kvs) from D5 ok e
theorem QO{kvs:List (aE×V)}(ok:cR P w H h)(e:H a=some (.dK kvs)):kvs.length<=Am/\(a == Gb)=false/\∃ vs,KV kvs vs/\h.DictOf (dO P w) a vs:=lB ok (.inl e)
theorem iY{ks:List aE}(ok:cR P w H h)(e:H a=some (.tup (ks.map kV))):(Fy (dO P w)).is h ks a:=by
 obtain⟨_,its,r,o,h1,h2,n,h3⟩:=(show cN P w H h a (.tup (ks.map kV)) from ok a _ e)
 exact⟨o,its.toArray,n,h1,h2,h3,by simpa using D4 r⟩
theorem mE{kvs:List (List aE×V)}(ok:cR P w H h)(e:Rd H a (.dT kvs)):kvs.length<=Am/\(a == Gb)=false/\
  ∃ xs,KT H kvs xs/\h.DictOfH (Fy (dO P w)) a xs:=by
 obtain⟨z,y,xs,r,o,es,ep,h1,h2,h3,h4,h5⟩:=(show cN P w H h a (.dT kvs) from D5 ok e)
 refine⟨z,y,xs,r,o,es,ep,h1,h2,h3,h4,fun x hx=>?_,h5⟩
 have all:∀ {l:List (List aE×V)} {m:List (List aE×Addr×Ae)},KT H l m->∀ x∈m,(Fy (dO P w)).is h x.1 x.2.1:=by
  intro l m q
  induction q with
  | nil=>intro x hx;exact nomatch hx
  | @cons p q ps qs hq t ih=>
   intro x hx
   rcases Ax.mp hx with e | hx
   ·subst e
    exact iY ok (by rw[<-hq.1];exact hq.2.1)
   ·exact ih x hx
 exact all r x hx
theorem rL{kvs:List (List aE×V)}(ok:cR P w H h)(e:H a=some (.dT kvs)):kvs.length<=Am/\(a == Gb)=false/\
  ∃ xs,KT H kvs xs/\h.DictOfH (Fy (dO P w)) a xs:=mE ok (.inl e)
end
def gO(H:Hp)(a:Addr)(y:V)(r:Option V):Prop:=
 (∃ kvs k,Rd H a (.dK kvs)/\y=kV k/\r=fP kvs k)\/∃ kvs k b,Rd H a (.dT kvs)/\y=.ref b/\H b=some (.tup (k.map kV))/\r=fP kvs k
def lC(H:Hp)(a:Addr)(y v:V)(H':Hp):Prop:=
 (∃ kvs k,H a=some (.dK kvs)/\y=kV k/\kvs.length < Am/\H'=aQ H a (.dK (eJ kvs k v)))\/
 ∃ kvs k b,H a=some (.dT kvs)/\y=.ref b/\H b=some (.tup (k.map kV))/\kvs.length < Am/\H'=aQ H a (.dT (eJ kvs k v))
theorem lC.k{H:Hp}{a:Addr}{kvs:List (aE×V)}{k:aE}{v:V}(e:H a=some (.dK kvs))(hl:kvs.length < Am):lC H a (kV k) v (aQ H a (.dK (eJ kvs k v))):=.inl ⟨kvs,k,e,rfl,hl,rfl⟩
theorem lC.t{H:Hp}{a b:Addr}{kvs:List (List aE×V)}{k:List aE}{v:V}(e:H a=some (.dT kvs))(eb:H b=some (.tup (k.map kV)))(hl:kvs.length < Am) :
  lC H a (.ref b) v (aQ H a (.dT (eJ kvs k v))):=.inr ⟨kvs,k,b,e,rfl,eb,hl,rfl⟩
section
variable {X:Cx}{pins:List (Addr×Obj)}{σ:St}{H:Hp}{s:Ah}{a:Addr}{y v:V}{u r:Ae}{o:Option V}{A:Ck}{E:Ae->Ah->Prop}
theorem Inv.big(I:Inv X pins σ H s):Gb < s.heap.objs.size:=by
 have h:Eb < s.heap.objs.size:=(I.mod.glob.keeps I.bk).lt
 exact Gd (by decide) h
theorem QP{Q:Ae->Ah->Prop}(hu:A.units + 1 < Fn)(I:Inv X pins σ H s)(g:gO H a y (some v))(ry:RelV y u)(h:∀ w' s',Inv X pins σ H s'->RelV v w'->Q w' s') :
  Ba (Bj X.prog X.w) A (getItem (.ref a) u) Q E s:=by
 rcases g with⟨kvs,k,e,ey,l⟩ | ⟨kvs,k,b,e,ey,eb,l⟩
 ·subst ey
  obtain⟨z,hd,vs,rel,dd⟩:=lB I.hok e
  obtain⟨w',hw,rw'⟩:=fB.some_of (v:=v) (o:=valueAt vs k) (by rw[l];exact rel.val k)
  exact wpAny_getItem_of (lA ry) dd.mapOf hw (h w' _ (I.tok _) rw')
 ·subst ey
  cases (show u=Value.ref b from ry)
  obtain⟨z,hd,xs,rel,dd⟩:=mE I.hok e
  obtain⟨w',hw,rw'⟩:=fB.some_of (v:=v) (o:=(Mh xs k).map (·.2)) (by rw[l];exact rel.val k)
  obtain⟨p,hp,hp2⟩:=Bg.mp hw
  refine wpAny_getItem_heap (Ew hu) (iY I.hok eb) dd hp ?_
  rw[hp2]
  exact h w' _ (I.tok _) rw'
theorem QQ{Q:Ae->Ah->Prop}(hu:A.units + 1 < Fn)(I:Inv X pins σ H s)(g:gO H a y o)(ry:RelV y u)(h:∀ s',Inv X pins σ H s'->Q (.bool o.isSome) s') :
  Ba (Bj X.prog X.w) A (Bw .In u (.ref a)) Q E s:=by
 rcases g with⟨kvs,k,e,ey,l⟩ | ⟨kvs,k,b,e,ey,eb,l⟩
 ·subst ey
  obtain⟨z,hd,vs,rel,dd⟩:=lB I.hok e
  refine wpAny_in_of (lA ry) hd dd.mapOf ?_
  rw[<-(rel.val k).isSome_eq,<-l]
  exact h _ (I.tok _)
 ·subst ey
  cases (show u=Value.ref b from ry)
  obtain⟨z,hd,xs,rel,dd⟩:=mE I.hok e
  refine wpAny_in_heap (Ew hu) (iY I.hok eb) hd dd ?_
  have q:=(rel.val k).isSome_eq
  rw[Ky] at q
  rw[<-q,<-l]
  exact h _ (I.tok _)
theorem QS{Q:Ae->Ah->Prop}(hu:A.units + 1 < Fn)(I:Inv X pins σ H s)(g:gO H a y o)(ry:RelV y u)(h:∀ s',Inv X pins σ H s'->Q (.bool (!o.isSome)) s') :
  Ba (Bj X.prog X.w) A (Bw .NotIn u (.ref a)) Q E s:=by
 rcases g with⟨kvs,k,e,ey,l⟩ | ⟨kvs,k,b,e,ey,eb,l⟩
 ·subst ey
  obtain⟨z,hd,vs,rel,dd⟩:=lB I.hok e
  refine wpAny_notIn_of (lA ry) hd dd.mapOf ?_
  rw[<-(rel.val k).isSome_eq,<-l]
  exact h _ (I.tok _)
 ·subst ey
  cases (show u=Value.ref b from ry)
  obtain⟨z,hd,xs,rel,dd⟩:=mE I.hok e
  refine wpAny_notIn_heap (Ew hu) (iY I.hok eb) hd dd ?_
  have q:=(rel.val k).isSome_eq
  rw[Ky] at q
  rw[<-q,<-l]
  exact h _ (I.tok _)
theorem oZ{h':Heap}{t':Nat}{ob:HO}(I:Inv X pins σ H s)(mu:oP (H a))(hs:Dn a s.heap h')(he:∃ q,h'.get? a=some q)(new:cN X.prog X.w (aQ H a ob) h' a ob) :
  Inv X pins σ (aQ H a ob) {s with heap:=h',toks:=t'}:=
 I.write (x:=a) (e:=a) mu (.inl rfl) (fun b q hb z=>(hs.2 b hb).trans z) he new
theorem QT{P:Bo}{w:Ce}{H':Hp}{h':Heap}{kvs:List (aE×V)}{vs:List (aE×Ae)}(z:kvs.length<=Am)(hd:(a == Gb)=false)(rel:KV kvs vs)(dd:h'.DictOf (dO P w) a vs) :
  cN P w H' h' a (.dK kvs):=⟨z,hd,vs,rel,dd⟩
theorem QU{H':Hp}{Q:Unit->Ah->Prop}(hu:A.units + 1 < Fn)(I:Inv X pins σ H s)(g:lC H a y v H')(ry:RelV y u)(rv:RelV v r)(h:∀ s',Inv X pins σ H' s'->Q () s') :
  Ba (Bj X.prog X.w) A (setItem (.ref a) u r) Q E s:=by
 rcases g with⟨kvs,k,e,ey,l,eH⟩ | ⟨kvs,k,b,e,ey,eb,l,eH⟩
 ·subst ey eH
  obtain⟨z,hd,vs,rel,dd⟩:=QO I.hok e
  have hz:vs.length<=Am:=by rw[<-rel.length];exact z
  have hl:(eJ kvs k v).length<=Am:=by have:=oY kvs k v;lia
  refine wpAny_setItem_pairs (hsz:=hz) (lA ry) dd fun h' dd' hs=>h _ ?_
  have he:∃ q,h'.get? a=some q:=let ⟨q,_,_,hq,_⟩:=dd';⟨q,hq⟩
  exact oZ I (by rw[e];exact True.intro) hs he (QT hl hd (rel.put k rv) dd')
 ·subst ey eH
  cases (show u=Value.ref b from ry)
  obtain⟨z,hd,xs,rel,dd⟩:=rL I.hok e
  have hz:xs.length<=Am:=by rw[<-Ee rel];exact z
  have hl:(eJ kvs k v).length<=Am:=by have:=oY kvs k v;lia
  refine wpAny_setItem_heap (hsz:=hz) (Ew hu) (iY I.hok eb) dd fun h' dd' hs=>h _ ?_
  obtain⟨q,es,ep,hq,h2,h3,h4,_,h5⟩:=dd'
  refine oZ I (by rw[e];exact True.intro) hs ⟨q,hq⟩ ⟨hl,hd,_,(rel.put k eb rv).keeps fun c ys ec=>?_,q,es,ep,hq,h2,h3,h4,h5⟩
  rw[bH (qT ec e (fun z=>nomatch z))]
  exact ec
end
section
variable {X:Cx}{pins:List (Addr×Obj)}{σ:St}{H:Hp}{s:Ah}{a:Addr}{kvs:List (aE×V)}{k:aE}{u:Ae}{A:Ck}{E:Ae->Ah->Prop}
theorem QV{Q:Ae->Ah->Prop}(I:Inv X pins σ H s)(e:Rd H a (.dK kvs))(h:∀ t s',Inv X pins σ H s'->Q (.int kvs.length t) s'):Ba (Bj X.prog X.w) A (call (.builtin "len") [.ref a]) Q E s:=by
 obtain⟨z,hd,vs,rel,dd⟩:=lB I.hok e
 refine call_len_dict hd dd (by rw[<-rel.length];rw[Ir] at z;lia) ?_
 rw[<-rel.length]
 exact h _ _ (I.tok _)
end
theorem QW{X:Cx}{pins:List (Addr×Obj)}{σ:St}{H:Hp}{s:Ah}{a:Addr}{y:V}{o:Option V}(I:Inv X pins σ H s)(g:gO H a y o):s.TypeIs (.ref a) "dict":=by
 rcases g with⟨kvs,k,e,_,_⟩ | ⟨kvs,k,b,e,_,_,_⟩
 ·obtain⟨_,_,vs,_,dd⟩:=lB I.hok e
  exact dd.typeIs
 ·obtain⟨_,_,xs,_,dd⟩:=mE I.hok e
  exact dd.typeIs
theorem QX{P:Bo}{w:Ce}{H:Hp}(h:Heap)(hb:Gb < h.objs.size):cN P w H (h.push {cls:=.type "dict",data:=.dict #[]}) h.objs.size (.dK []):=
 ⟨Ci _,beq_eq_false_iff_ne.mpr (Bp (Be hb)),[],.nil,Heap.DictOf.new h⟩
theorem D6{P:Bo}{w:Ce}{H:Hp}(h:Heap)(hb:Gb < h.objs.size):cN P w H (h.push {cls:=.type "dict",data:=.dict #[]}) h.objs.size (.dT []):=
 ⟨Ci _,beq_eq_false_iff_ne.mpr (Bp (Be hb)),[],.nil,_,#[],0,Au _ rfl,⟨rfl,rfl,rfl⟩,rfl,rfl,Fq⟩
def QY:TE:=fun _ H Q=>∀ p,H p=none->Q (.ref p) (aQ H p (.dK []))
def QZ:TE:=fun _ H Q=>∀ p,H p=none->Q (.ref p) (aQ H p (.dT []))
section
variable {X:Cx}{pos:Pos}
theorem Q0:PE X (.Dict [] [] pos) QY:=fun pins s σ H Q I h=>
 wpAny_Dict_empty ⟨.ref s.heap.objs.size,_,I.laid (a:=s.heap.objs.size) (o:=.dK []) (t':=s.toks) (fun _ _ q=>Af _ q) (Aj _) (QX s.heap I.big),rfl,h _ (I.hok.fresh (Aj _))⟩
theorem Q1:PE X (.Dict [] [] pos) QZ:=fun pins s σ H Q I h=>
 wpAny_Dict_empty ⟨.ref s.heap.objs.size,_,I.laid (a:=s.heap.objs.size) (o:=.dT []) (t':=s.toks) (fun _ _ q=>Af _ q) (Aj _) (D6 s.heap I.big),rfl,h _ (I.hok.fresh (Aj _))⟩
end
def vB:List (TE×TE)->St->Hp->(List (V×V)->Hp->Prop)->Prop
 | [],_,H,Q=>Q [] H
 | (tk,tv) :: r,σ,H,Q=>tk σ H fun x H1=>tv σ H1 fun y H2=>vB r σ H2 fun ps H3=>Q ((x,y) :: ps) H3
abbrev VV:List (V×V)->List (Ae×Ae)->Prop:=Gr fun p q=>RelV p.1 q.1/\RelV p.2 q.2
def vD(X:Cx)(pos:Pos)(keys:List (Option Expr))(values:List Expr)(trs:List (TE×TE)):Prop:=
 ∀ (pins:List (Addr×Obj)) (s:Ah) (σ:St) (H:Hp) (Q:List (V×V)->Hp->Prop),Inv X pins σ H s->vB trs σ H Q->
  Ba (Bj X.prog X.w) X.A (evalPairs (pairTrees keys values X.env pos)) (fun vs s'=>∃ ps H',Inv X pins σ H' s'/\VV ps vs/\Q ps H') X.xe s
theorem Q2{X:Cx}{pos:Pos}:vD X pos [] [] []:=fun pins s σ H Q I h=>pairTrees_nil_walk ⟨[],H,I,.nil,h⟩
theorem Q3{X:Cx}{pos:Pos}{k v:Expr}{ks:List (Option Expr)}{vs:List Expr}{tk tv:TE}{trs:List (TE×TE)}(hk:PE X k tk)(hv:PE X v tv)(hr:vD X pos ks vs trs) :
  vD X pos (some k :: ks) (v :: vs) ((tk,tv) :: trs):=fun pins s σ H Q I h=>
 pairTrees_cons_walk (a9 (hk pins s σ H _ I h) fun u s1 ⟨x,H1,I1,rx,q1⟩=>a9 (hv pins s1 σ H1 _ I1 q1) fun w2 s2 ⟨y,H2,I2,ry,q2⟩=>
  a9 (hr pins s2 σ H2 _ I2 q2) fun ws s3 ⟨ps,H3,I3,rel,q3⟩=>⟨(x,y) :: ps,H3,I3,.cons ⟨rx,ry⟩ rel,q3⟩)
section
variable {X:Cx}{pins:List (Addr×Obj)}{σ:St}{H:Hp}{s:Ah}{a:Addr}{y d:V}{u r:Ae}{o:Option V}{A:Ck}{E:Ae->Ah->Prop}
theorem D7{Q:Ae->Ah->Prop}(hu:A.units + 1 < Fn)(I:Inv X pins σ H s)(g:gO H a y o)(ry:RelV y u)(h:∀ w' s',Inv X pins σ H s'->RelV (o.getD .non) w'->Q w' s') :
  Ba (Bj X.prog X.w) A (call (.builtin "dict.get") [.ref a,u]) Q E s:=by
 rcases g with⟨kvs,k,e,ey,l⟩ | ⟨kvs,k,b,e,ey,eb,l⟩
 ·subst ey
  obtain⟨z,hd,vs,rel,dd⟩:=lB I.hok e
  refine Lb Jn dd.typeIs Jh (PySem.F.args_dict_get_2 _ _) (meets_dict_get (dO X.prog X.w) a (lA ry) hd) ⟨_,dd.mapOf,h _ _ (I.tok _) ?_⟩
  rw[l]
  exact(rel.val k).getD rfl
 ·subst ey
  cases (show u=Value.ref b from ry)
  obtain⟨z,hd,xs,rel,dd⟩:=mE I.hok e
  refine Lb Jn dd.typeIs Jh (PySem.F.args_dict_get_2 _ _) (meetsH_dict_get (Fy (dO X.prog X.w)) a b hd) ⟨Ew hu,k,xs,iY I.hok eb,dd,h _ _ (I.tok _) ?_⟩
  rw[l]
  exact(rel.val k).getD rfl
theorem D8{Q:Ae->Ah->Prop}(hu:A.units + 1 < Fn)(I:Inv X pins σ H s)(g:gO H a y o)(ry:RelV y u)(rd:RelV d r)(h:∀ w' s',Inv X pins σ H s'->RelV (o.getD d) w'->Q w' s') :
  Ba (Bj X.prog X.w) A (call (.builtin "dict.get") [.ref a,u,r]) Q E s:=by
 rcases g with⟨kvs,k,e,ey,l⟩ | ⟨kvs,k,b,e,ey,eb,l⟩
 ·subst ey
  obtain⟨z,hd,vs,rel,dd⟩:=lB I.hok e
  refine Lb Jn dd.typeIs Jh (PySem.F.args_dict_get_3 _ _ _) (meets_dict_get_default (dO X.prog X.w) a (lA ry) hd r) ⟨_,dd.mapOf,h _ _ (I.tok _) ?_⟩
  rw[l]
  exact(rel.val k).getD rd
 ·subst ey
  cases (show u=Value.ref b from ry)
  obtain⟨z,hd,xs,rel,dd⟩:=mE I.hok e
  refine Lb Jn dd.typeIs Jh (PySem.F.args_dict_get_3 _ _ _) (meetsH_dict_get_default (Fy (dO X.prog X.w)) a b hd r) ⟨Ew hu,k,xs,iY I.hok eb,dd,h _ _ (I.tok _) ?_⟩
  rw[l]
  exact(rel.val k).getD rd
end
end L2
namespace Att
open PySem PySem.W PySem.Calls PyProof.Rows
theorem Q4{P:Params}{h:Heap}:∀ (ns:List Int) (vs:List Ae),WellAll P h vs (ns.map WData.int)->Hv vs ns:=by
 intro ns
 induction ns with
 | nil=>
  intro vs w
  rw[Jo] at w
  cases w
  exact .nil
 | cons n ns ih=>
  intro vs w
  rw[Ay] at w
  cases w with
  | cons a b=>
   cases a
   exact .cons _ _ (ih _ b)
theorem Q5{l:OpenLaw}{n:Nat}(hn:l.most=some n){P:Params}{h:Heap}{args:List WData}{vals:List Ae}
  (hpre:l.row.toRowW.claim.pre args=true) (hwl:WellAll P h vals args) :
  ∃ a vs ns,vals=[Value.ref a]/\args=[WData.list (ns.map WData.int)]/\h.get? a=some {cls:=.type "list",data:=.seq vs.toArray}/\Hv vs ns/\ns.length<=n:=by
 have hsh:WShape.hasAll [] args [.list .int]=true:=(pre_splitW hpre).1
 have hc:l.pre.holds [] {args:=args} = true:=(pre_splitW hpre).2
 obtain⟨d,r,rfl,h1,h2⟩:=hasAllW_cons hsh
 obtain rfl:=hasAllW_nil h2
 obtain⟨xs,rfl,h3⟩:=hasW_list h1
 obtain⟨ns,rfl⟩:=items_int h3
 have hlen:ns.length<=n:=by
  unfold OpenLaw.pre at hc
  have h4:(WTm.not (.lt (.lit (.int (n:Int))) (.len (.arg 0)))).holds [] {args:=[.list (ns.map .int)]} = true:=by
   have h4:=(holds_andW hc).1
   rw[hn] at h4
   exact h4
  have h5:=condW_of h4 (w_not (w_lt w_lit (w_len_list (w_arg rfl))))
  rw[Ab] at h5
  refine Nat.le_of_not_lt fun q=>?_
  have q':(n:Int) < ((ns.length:Nat):Int):=by lia
  first
   | (rw[decide_eq_true q'] at h5;exact absurd h5 (by decide))
   | (simp at h5;lia)
 cases hwl with
 | cons w1 w2=>
  cases w2
  cases w1 with
  | list ho hall=>exact⟨_,_,ns,rfl,rfl,ho,Q4 ns _ hall,hlen⟩
theorem Q6(l:OpenLaw)(args:List WData):l.row.toRowW.claim.post args (.bool true) args=true:=
 postW_of (r:=l.row.toRowW) (X:=(true == true))
  (show WShape.has [] (.bool true) .bool=true by first | rfl | decide | simp[WShape.has,WShape.arms,WShape.armsAll])
  (show(WTm.eq .res (.lit (.bool true))).value [] {args:=args,res:=some (.bool true),after:=args} = some (.bool (true == true)) from w_eq_bool (w_res rfl) w_lit) rfl
theorem attach_call{l:OpenLaw}{n:Nat}{q:Bo}{loose:List Str}{XP:(Str->Option Ae)->Heap->Prop}{YP:Ce->Heap->Prop}{d:DefRec}
  (hn:l.most=some n) (hdf:d.params.defaults=[])
  (call:∀ (w:Ce) (s₀ s₁:Ah) (mg mb:Str->Option Ae) (fa:Addr) (o:Obj) (pm cd doc:Ae) (a:Addr) (vs:List Ae) (ns:List Int),
   Ground q loose [] XP w s₀ mg mb s₁.heap->YP w s₁.heap->
   s₁.heap.get? fa=some o->o.data=.func (docDef d.name d.params d.body d.scope pm cd doc)->s₁.heap.CodeRec cd d.name->mg d.name=some (.ref fa)->
   s₁.heap.get? a=some {cls:=.type "list",data:=.seq vs.toArray}->Hv vs ns->ns.length<=n->s₁.gens = #[]->
   Jb (Bj l.prog w) callerA (.call (.ref fa) ⟨[.ref a],[]⟩) (fun r s'=>r=.ok (.ret (.bool true))/\OldK s₁.heap s'.heap/\s'.os=s₁.os/\Mz s'.gens) s₁) :
  WalkO q loose XP YP l.row.toRowW d [] (fun f vs=>PySem.call f vs):=by
 intro w s₀ s₁ mg mb G Y fa o pm cd doc dV kV ho hd hcd hD hmg hg args vals as hpre hlay hrd hwl hlo
 obtain rfl:dV=.none:=Dflts.none hD hdf
 obtain rfl:kV=.none:=Dflts.noKw hD
 obtain⟨a,vs,ns,rfl,rfl,hobj,hints,hlen⟩:=Q5 hn hpre hwl
 refine enter_call (Kb (call w s₀ s₁ mg mb fa o pm cd doc a vs ns G Y ho (fd_plain hd) hcd hmg hobj hints hlen hg) fun r s' hq=>?_)
 obtain⟨rfl,h2,h3,h4⟩:=hq
 exact⟨.inl ⟨.bool true,.bool true,[],rfl,fun _=>rfl,.bool true,Q6 l _,fun _=>⟨List.Pairwise.nil,fun _ hm=>(nomatch hm)⟩⟩,h2,h3,h4⟩
end Att
namespace L2
open PySem PySem.Spec PyProof.Rows
theorem D9:∀ {vs:List Ae} {ns:List Int},Hv vs ns->aZ (ns.map V.int) vs
 | _,_,.nil=>.nil
 | _,_,.cons n t h=>.cons ⟨t,rfl⟩ (D9 h)
def rM(H:Hp):Prop:=∀ b,H b=none\/∃ o xs,H b=some (.frz o (.lst xs))
theorem Q7{P:Bo}{w:Ce}{K:Ac}{mg mb:Str->Option Ae}{CX:jL}{k:Nat}{fa a:Addr}{fd:Bk}{x:Str}{sp:Sp}{s₁:Ah}{vs:List Ae}{ns:List Int}
  (KX:K.In s₁.heap) (hns:s₁.heap.Ns Eb mg) (hb:s₁.heap.Ns builtinsNs mb) (hbb:∀ x:Str,x≠"__name__"->mb x=Co x) (hlim:s₁.heap.NoLimit) (hg:s₁.gens = #[])
  (ha:s₁.heap.get? a=some {cls:=.type "list",data:=.seq vs.toArray}) (hi:Hv vs ns) (hl:ns.length<=Am) (hr:cM k callerA)
  (F:∀ base:Heap,K.In base->base.Ns Eb mg->eC P w K mg base CX k fa fd [x] sp) (hbind:∀ (s:Ah) (u:Ae),BindsTo s fd ⟨[u],[]⟩ [(x,u)])
  (hsp:∀ H:Hp,rM H->bF K H a (ns.map V.int)->sp [.ref a] H (fun v _=>v=.bl true) fun _ _ _=>False)
  (hCX:∀ H e s',CX [] H s₁ (fun _ _ _=>False) e s'->False) :
  Jb (Bj P w) callerA (.call (.ref fa) ⟨[.ref a],[]⟩) (fun r s'=>r=.ok (.ret (.bool true))/\OldK s₁.heap s'.heap/\s'.os=s₁.os/\Mz s'.gens) s₁:=by
 have rv:=D9 hi
 have lenV:=hi.length
 have core:∀ H:Hp,rM H->bF K H a (ns.map V.int)->cR P w H s₁.heap->(∀ b,H b≠none->b=a)->(H a≠none->K.lookup a=none)->
   Jb (Bj P w) callerA (.call (.ref fa) ⟨[.ref a],[]⟩) (fun r s'=>r=.ok (.ret (.bool true))/\OldK s₁.heap s'.heap/\s'.os=s₁.os/\Mz s'.gens) s₁:=by
  intro H hO hS hok hA hK
  have base_of:∀ {b:Addr} {o:Obj},s₁.heap.get? b=some o->H b=none->(j9 s₁.heap H).get? b=some o:=fun e n=>K8 e n
  have noA:∀ {b:Addr} {o:Obj} {es:Array Ib} {ep:Nat},s₁.heap.get? b=some o->o.data=.dict es ep->H b=none:=fun {b o es ep} e d=>by
   cases q:H b with
   | none=>rfl
   | some u=>
    have e':b=a:=hA b (by rw[q];simp)
    subst e'
    rw[ha] at e;cases e
    have d':Data.seq vs.toArray _=Data.dict es ep:=d
    cases d'
  have nsK:∀ {b:Addr} {m:Str->Option Ae},s₁.heap.Ns b m->(j9 s₁.heap H).Ns b m:=fun {b m} ⟨o,es,ep,e,d,r⟩=>⟨o,es,ep,base_of e (noA e d),d,r⟩
  have hKb:K.In (j9 s₁.heap H):=fun b o e=>base_of (KX b o e) (by
   cases q:H b with
   | none=>rfl
   | some u=>
    have e':b=a:=hA b (by rw[q];simp)
    subst e'
    rw[hK (by rw[q];simp)] at e;cases e)
  have hM:Mod K mg (j9 s₁.heap H):=⟨hKb,nsK hns,⟨mb,nsK hb,hbb⟩,let ⟨mc,h1,h2⟩:=hlim;⟨mc,nsK h1,h2⟩⟩
  have e0:mC P w K mg (j9 s₁.heap H) callerA [] s₁ H:=⟨rfl,hM,fun b o e=>K9 e,Fp (K7 _ _),trivial,fun b hb=>absurd (show b∈([]:List Addr) from hb) (by simp),hok,.of_eq hg⟩
  refine Kb ((F _ hKb (nsK hns)).run callerA [] s₁ H ⟨[.ref a],[]⟩ [.ref a] [.ref a] _ _ hr e0 (hbind s₁ (.ref a)) (.cons rfl .nil) (hsp H hO hS)) fun r s' h=>?_
  cases r with
  | error e=>exact(hCX H e s' h).elim
  | ok fl=>
   cases fl with
   | next=>exact Gi h
   | brk=>exact Gi h
   | cont=>exact Gi h
   | ret u=>
    obtain⟨v,H',os,bare,un,hok',r',q⟩:=h
    have q':v=.bl true:=q
    subst q'
    obtain rfl:u=Value.bool true:=r'
    refine⟨rfl,OldK.of_keep fun b o e=>?_,os,bare⟩
    cases q:H b with
    | none=>exact un.keep b o e q (by intro z;exact absurd (show b∈([]:List Addr) from z) (by simp)) (by simp)
    | some u=>
     rcases hO b with z | ⟨ob,xs,z⟩
     ·rw[q] at z;cases z
     ·have z2:=un.frzs b ob _ z
      obtain⟨e1,_⟩:=hok b _ z
      obtain⟨e2,_⟩:=hok' b _ z2
      rw[e] at e1;cases e1
      exact e2
 cases hk:K.lookup a with
 | some o=>
  have e:=KX a o hk
  rw[ha] at e
  cases e
  refine core (fun _=>none) (fun _=>.inl rfl) (.inr ⟨_,vs.toArray,_,hk,rfl,rfl,rfl,by rw[Bb,lenV];exact hl,by simpa using rv⟩) (fun b u z=>by have z':(none:Option HO)=some u:=z;cases z') (fun b z=>absurd rfl z) fun z=>absurd rfl z
 | none=>
  refine core (fun b=>if b=a then some (.frz {cls:=.type "list",data:=.seq vs.toArray} (.lst (ns.map V.int))) else none) (fun b=>?_) (.inl (.inr ⟨{cls:=.type "list",data:=.seq vs.toArray},if_pos rfl⟩)) (fun b u z=>?_) (fun b z=>?_) fun _=>hk
  ·by_cases hb:b=a
   ·exact .inr ⟨_,_,if_pos hb⟩
   ·exact .inl (if_neg hb)
  ·by_cases hb:b=a
   ·have z':=(if_pos hb).symm.trans z
    cases z'
    subst hb
    exact⟨ha,by rw[Ab];exact hl,vs,_,rv,ha⟩
   ·have z':=(if_neg hb).symm.trans z
    cases z'
  ·by_cases hb:b=a
   ·exact hb
   ·exact absurd (if_neg hb) z
theorem Q8{l:PySem.W.OpenLaw}{n k:Nat}{q:Bo}{loose:List Str}{XP:(Str->Option Ae)->Heap->Prop}{YP:Ce->Heap->Prop}{d:DefRec}{K:Params->Ac}{CX:Ce->jL}{sp:Ce->Sp}{x:Str}
  (hn:l.most=some n) (hn2:n<=Am) (hdf:d.params.defaults=[]) (hr:cM k callerA)
  (hY:∀ (w:Ce) (h:Heap),YP w h->(K w.params).In h)
  (F:∀ (w:Ce) (mg:Str->Option Ae) (fa:Addr) (h:Heap),(K w.params).In h->h.Ns Eb mg->mg d.name=some (.ref fa)->
   ∃ fd:Bk,(∀ (s:Ah) (u:Ae),BindsTo s fd ⟨[u],[]⟩ [(x,u)])/\
    ∀ base:Heap,(K w.params).In base->base.Ns Eb mg->eC l.prog w (K w.params) mg base (CX w) k fa fd [x] (sp w))
  (hsp:∀ (w:Ce) (H:Hp) (a:Addr) (ns:List Int),ns.length<=n->rM H->bF (K w.params) H a (ns.map V.int)->sp w [.ref a] H (fun v _=>v=.bl true) fun _ _ _=>False)
  (hCX:∀ (w:Ce) (H:Hp) (s:Ah) (e:Ae) (s':Ah),CX w [] H s (fun _ _ _=>False) e s'->False) :
  PySem.W.WalkO q loose XP YP l.row.toRowW d [] (fun f vs=>PySem.call f vs):=by
 refine Att.attach_call hn hdf fun w s₀ s₁ mg mb fa o pm cd doc a vs ns G Y ho hd hcd hmg hobj hints hlen hg=>?_
 have KX:=hY w _ Y
 obtain⟨fd,hb,hF⟩:=F w mg fa _ KX G.T.g hmg
 exact Q7 KX G.T.g G.T.b G.T.builtins G.T.nolimit hg hobj hints (Bc hlen hn2) hr hF hb (fun H hO hS=>hsp w H a ns hlen hO hS) fun H e s'=>hCX w H s₁ e s'
abbrev fD:jL:=fun _ _ _ _ _ _=>False
abbrev E0:XK:=fun _ _ _=>False
theorem nH{X:Cx}:kZ fD X E0:=fun _ _ _ _ _ _ _ h=>h.elim
structure jO(K:Ac)(x qual:Str)(st:Stmt)(f:Addr)(fd:Bk):Prop where
 ex:∃ (oc:Ae) (od:Option Addr) (kV doc pm:Ae) (an:Option Addr) (cdv ct:Ae) (osl:Array (Option Ae)),
  fd=Ep x qual (iB st) (gL st) (eQ st) .none kV doc pm an cdv ct/\K.lookup f=some ⟨oc,od,.func fd,osl⟩/\Jg K cdv qual=true
 kp:Ex K (.ref f)=true
section
variable {P:Bo}{w:Ce}{K:Ac}{mg:Str->Option Ae}{base:Heap}
theorem jO.ok{x qual:Str}{st:Stmt}{f:Addr}{fd:Bk}{N ps:List Str}{k:Nat}{sp:Sp}(F:jO K x qual st f fd)(S:nG N ps (eQ st))(len:∀ vs H Q E,sp vs H Q E->vs.length=ps.length)
  (hbody:∀ (cdv:Ae) (A:Ck) (outer:List Env) (s:Ah) (H:Hp) (vs:List V) (Q:VK) (E:XK),cM k (A.deeper (Lz qual (eQ st) s.heap.objs.size f cdv))->sp vs H Q E->
   ∃ t,fM (k7 fD P w K mg base N qual (eQ st) f cdv A outer s H E).nox (gL st) t/\t {nx:=fun _ H'=>Q .non H',rt:=Q} (start N vs) H):eC P w K mg base fD (k + 1) f fd ps sp:=by
 obtain⟨oc,od,kV,doc,pm,an,cdv,ct,osl,rfl,lk,hcd⟩:=F.ex
 refine OY lk hcd S len fun A outer s H vs Q E hr hsp=>?_
 obtain⟨t,h,q⟩:=hbody cdv A outer s H vs Q E hr hsp
 exact⟨t,h.nox,q⟩
theorem jO.binds{x qual:Str}{st:Stmt}{f:Addr}{fd:Bk}{ps:List Str}(F:jO K x qual st f fd)
  (h:∀ (kV doc pm:Ae) (an:Option Addr) (cdv ct:Ae) (us:List Ae),us.length=ps.length->bindArgs (Ep x qual (iB st) (gL st) (eQ st) .none kV doc pm an cdv ct) ⟨us,[]⟩=pure (ps.zip us)):Binds K fd ps []:=by
 obtain⟨oc,od,kV,doc,pm,an,cdv,ct,osl,rfl,lk,hcd⟩:=F.ex
 exact .all (h kV doc pm an cdv ct)
theorem nI{x qual:Str}{st:Stmt}{f:Addr}{oc:Ae}{od an:Option Addr}{osl:Array (Option Ae)}{kV doc pm cdv ct:Ae}(l:K.lookup f=some ⟨oc,od,.func (Ep x qual (iB st) (gL st) (eQ st) .none kV doc pm an cdv ct),osl⟩)
  (c:Jg K cdv qual=true) (k:Ex K (.ref f)=true):jO K x qual st f (Ep x qual (iB st) (gL st) (eQ st) .none kV doc pm an cdv ct):=⟨⟨oc,od,kV,doc,pm,an,cdv,ct,osl,rfl,l,c⟩,k⟩
end
theorem Q9{A:Ck}{k:Nat}(hr:cM k A):A.units + 1 < Fn:=Kz (Hb (by decide:1<=64) _) hr.units
section
variable {X:Cx}
theorem RA:dA X (.builtin "len") (fun xs H Q=>∃ a kvs,xs=[V.ref a]/\H a=some (.dK kvs)/\Q (.int kvs.length) H):=by
 intro pins s σ H xs us Q I r h
 obtain⟨a,kvs,rfl,ha,q⟩:=h
 obtain⟨u,rfl,ru⟩:=vals1 r
 cases ru
 exact QV I (.inl ha) fun t s' I'=>⟨.int kvs.length,H,I',⟨t,rfl⟩,q⟩
end
theorem RB{A B:Prop}(h:B):if false=true then A else B:=by
 rw[if_neg Ar]
 exact h
theorem RC{A B:Prop}(h:A):if true=true then A else B:=by
 rw[if_pos rfl]
 exact h
end L2
set_option maxHeartbeats 4000000
namespace L2
open PySem PySem.Spec PyProof.Rows
structure jP where
 cl:List (Str×Addr)
 s:Ah
 H:Hp
 fp:List Addr
 C:Addr
def dR(X:Cx)(sc:Jm)(N':List Str)(B:jP):Cx where
 prog:=X.prog
 w:=X.w
 K:=X.K
 mg:=X.mg
 base:=X.base
 A:=X.A
 N:=N'
 s₀:=B.s
 H₀:=B.H
 env:=compEnvC sc B.cl B.C X.env
 outer:=X.stack
 stack:=X.stack
 ex:=B.fp
 fn:=fun _=>false
 calm:=X.calm
 pn:=[]
 xe:=fun _ _=>False
def fV(cells:List (Str×Addr)):List (Str×Iu)->List (Str×Addr)->List (Str×Addr)
 | [],acc=>acc
 | (n,k) :: r,acc=>if k=.free then fV cells r ((n,(cells.lookup n).getD 0) :: acc) else fV cells r acc
theorem EA{scope:Jm}{env:Env}(h:∀ y∈scope.names,y.2=.free->∃ c,env.cells.lookup y.1=some c):closureFor scope env=pure (fV env.cells scope.names []):=by
 have key:∀ (names:List (Str×Iu)) (acc:List (Str×Addr)),(∀ y∈names,y.2=.free->∃ c,env.cells.lookup y.1=some c)->
   (forIn names acc fun(x:Str×Iu) (cs:List (Str×Addr))=>(if (x.2 == NameKind.free)=true then(do let a <-cellOf env x.1;pure (ForInStep.yield ((x.1,a) :: cs))) else pure (ForInStep.yield cs):Sem (ForInStep (List (Str×Addr)))))=(pure (fV env.cells names acc):Sem _):=by
  intro names
  induction names with
  | nil=>intro acc _;rfl
  | cons y r ih=>
   intro acc hy
   obtain⟨n,k⟩:=y
   rw[Mc]
   by_cases hk:k=.free
   ·subst hk
    obtain⟨c,hc⟩:=hy (n,.free) Bf rfl
    have e1:cellOf env n=(pure c:Sem Addr):=by
     unfold cellOf
     rw[show env.cells.lookup n=some c from hc]
    simp only[beq_self_eq_true,if_true,e1,pure_bind]
    rw[ih _ fun z hz=>hy z (Bd _ hz)]
    simp only[fV,if_true]
    rw[show env.cells.lookup n=some c from hc]
    rfl
   ·have hb:(k == NameKind.free)=false:=by simpa using hk
    simp only[hb,Eg,if_false,pure_bind]
    rw[ih _ fun z hz=>hy z (Bd _ hz)]
    simp only[fV,if_neg hk]
 have e:closureFor scope env=((forIn scope.names [] fun(x:Str×Iu) (cs:List (Str×Addr))=>(if (x.2 == NameKind.free)=true then(do let a <-cellOf env x.1;pure (ForInStep.yield ((x.1,a) :: cs))) else pure (ForInStep.yield cs):Sem (ForInStep (List (Str×Addr))))) >>= fun cs=>pure cs):=by
  unfold closureFor
  rfl
 rw[e,key _ _ h,pure_bind]
theorem vE{cells:List (Str×Addr)}{x:Str}{c:Addr}:∀ {names:List (Str×Iu)} {acc:List (Str×Addr)},(∀ y∈names,y.2=.free->∃ c,cells.lookup y.1=some c)->
  (∀ x c,acc.lookup x=some c->cells.lookup x=some c)->(fV cells names acc).lookup x=some c->cells.lookup x=some c
 | [],acc,_,ha,e=>ha x c e
 | (n,k) :: r,acc,hy,ha,e=>by
  have hr:∀ y∈r,y.2=.free->∃ c,cells.lookup y.1=some c:=fun z hz=>hy z (Bd _ hz)
  unfold fV at e
  by_cases hk:k=.free
  ·subst hk
   rw[if_pos rfl] at e
   obtain⟨d,hd⟩:=hy (n,.free) Bf rfl
   have hd:cells.lookup n=some d:=hd
   refine vE hr (fun z b q=>?_) e
   rw[Hd] at q
   by_cases hz:z=n
   ·subst hz
    rw[beq_self_eq_true,hd] at q
    rw[hd];exact q
   ·have:(z == n)=false:=beq_eq_false_iff_ne.mpr hz
    rw[this] at q
    exact ha z b q
  ·rw[if_neg hk] at e
   exact vE hr ha e
theorem rN{cells:List (Str×Addr)}{x:Str}:∀ {names:List (Str×Iu)} {acc:List (Str×Addr)},((x,NameKind.free)∈names\/∃ c,acc.lookup x=some c)->∃ c,(fV cells names acc).lookup x=some c
 | [],acc,h=>by
  rcases h with h | h
  ·cases h
  ·exact h
 | (n,k) :: r,acc,h=>by
  unfold fV
  by_cases hk:k=.free
  ·subst hk
   rw[if_pos rfl]
   refine rN ?_
   by_cases hx:x=n
   ·subst hx
    right
    rw[Hd,beq_self_eq_true]
    exact⟨_,rfl⟩
   ·have hb:(x == n)=false:=beq_eq_false_iff_ne.mpr hx
    rcases h with h | ⟨c,h⟩
    ·rcases Ax.mp h with e | h
     ·cases e;exact absurd rfl hx
     ·exact .inl h
    ·right
     rw[Hd,hb]
     exact⟨c,h⟩
  ·rw[if_neg hk]
   refine rN ?_
   rcases h with h | h
   ·rcases Ax.mp h with e | h
    ·cases e;exact absurd rfl hk
    ·exact .inl h
   ·exact .inr h
structure mF(N':List Str)(sc osc:Jm):Prop where
 kind:sc.kind=.function
 nd:N'.Nodup
 nocell:∀ y∈sc.names,y.2≠.cell
 loc:∀ y∈sc.names,y.2=.local->sc.names.lookup y.1=some .local
 free:∀ y∈sc.names,y.2=.free->osc.names.lookup y.1=some .cell\/osc.names.lookup y.1=some .free
def mG(N':List Str)(sc osc:Jm):Bool:=
 decide (sc.kind=.function) && decide N'.Nodup && sc.names.all (fun y=>decide (y.2≠.cell)) && sc.names.all (fun y=>decide (y.2=.local->sc.names.lookup y.1=some .local)) &&
  sc.names.all (fun y=>decide (y.2=.free->osc.names.lookup y.1=some .cell\/osc.names.lookup y.1=some .free))
theorem mF.of{N':List Str}{sc osc:Jm}(h:mG N' sc osc=true):mF N' sc osc:=by
 unfold mG at h
 simp only[Cj] at h
 obtain⟨⟨⟨⟨h1,h2⟩,h3⟩,h4⟩,h5⟩:=h
 exact⟨of_decide_eq_true h1,of_decide_eq_true h2,fun y hy=>of_decide_eq_true (Jy.mp h3 y hy),fun y hy=>of_decide_eq_true (Jy.mp h4 y hy),fun y hy=>of_decide_eq_true (Jy.mp h5 y hy)⟩
def cmap(js:List (Option Nat))(σ:St):St:=js.map fun o=>o.bind fun j=>(σ[j]?).join
def e9(N' N:List Str)(sc:Jm):List (Option Nat)->List Str->Bool
 | [],[]=>true
 | none :: js,_ :: r=>e9 N' N sc js r
 | some j :: js,x :: r=>decide (N[j]? = some x) && decide (sc.names.lookup x=some .free) && e9 N' N sc js r
 | _,_=>false
theorem vF{N' N:List Str}{sc:Jm}:∀ {js:List (Option Nat)} {r:List Str},e9 N' N sc js r=true->js.length=r.length
 | [],[],_=>rfl
 | none :: js,_ :: r,h=>by
  have:=vF (js:=js) (r:=r) h
  simp[this]
 | some j :: js,x :: r,h=>by
  unfold e9 at h
  rw[Cj] at h
  have:=vF (js:=js) (r:=r) h.2
  simp[this]
 | [],_ :: _,h=>by simp[e9] at h
 | none :: _,[],h=>by simp[e9] at h
 | some _ :: _,[],h=>by simp[e9] at h
theorem vG{N' N:List Str}{sc:Jm}:∀ {js:List (Option Nat)} {r:List Str} {i j:Nat} {x:Str},e9 N' N sc js r=true->js[i]? = some (some j)->r[i]? = some x->N[j]? = some x/\sc.names.lookup x=some .free
 | [],[],i,j,x,_,e,_=>by simp at e
 | none :: js,_ :: r,0,j,x,h,e,_=>by simp at e
 | none :: js,_ :: r,i + 1,j,x,h,e,e2=>vG (js:=js) (r:=r) (i:=i) h (by simpa using e) (by simpa using e2)
 | some k :: js,y :: r,0,j,x,h,e,e2=>by
  unfold e9 at h
  rw[Cj,Cj] at h
  simp at e e2
  subst e;subst e2
  exact⟨of_decide_eq_true h.1.1,of_decide_eq_true h.1.2⟩
 | some k :: js,y :: r,i + 1,j,x,h,e,e2=>by
  unfold e9 at h
  rw[Cj,Cj] at h
  exact vG (js:=js) (r:=r) (i:=i) h.2 (by simpa using e) (by simpa using e2)
 | [],_ :: _,_,_,_,h,_,_=>by simp[e9] at h
 | none :: _,[],_,_,_,h,_,_=>by simp[e9] at h
 | some _ :: _,[],_,_,_,h,_,_=>by simp[e9] at h
theorem vH{env:Env}{x:Str}:∀ {names:List (Str×Iu)},(∀ y∈names,y.2≠.cell)->
  (((names.map fun(n,k)=>if (k == NameKind.free && env.scope.kind == .function && env.kindOf n == some .cell) then(n,NameKind.cell) else(n,k)).lookup x=some .cell\/
    (names.map fun(n,k)=>if (k == NameKind.free && env.scope.kind == .function && env.kindOf n == some .cell) then(n,NameKind.cell) else(n,k)).lookup x=some .free)↔names.lookup x=some .free)
 | [],_=>by simp
 | (n,k) :: r,h=>by
  have ih:=@vH env x r fun y hy=>h y (Bd _ hy)
  have hk:k≠.cell:=h (n,k) Bf
  rw[Ay]
  dsimp only
  by_cases hx:(x == n)=true
  ·by_cases hc:(k == NameKind.free && env.scope.kind == .function && env.kindOf n == some .cell)=true
   ·rw[if_pos hc]
    simp only[Hd,hx]
    have:k=.free:=by
     rw[Cj,Cj] at hc
     exact beq_iff_eq.mp hc.1.1
    simp[this]
   ·rw[if_neg hc]
    simp only[Hd,hx]
    constructor
    ·rintro(e | e)
     ·cases e;exact absurd rfl hk
     ·exact e
    ·intro e;exact .inr e
  ·have hx:(x == n)=false:=by simpa using hx
   by_cases hc:(k == NameKind.free && env.scope.kind == .function && env.kindOf n == some .cell)=true
   ·rw[if_pos hc]
    simp only[Hd,hx]
    exact ih
   ·rw[if_neg hc]
    simp only[Hd,hx]
    exact ih
theorem vI{x:Str}{k:Iu}:∀ {names:List (Str×Iu)},names.lookup x=some k->(x,k)∈names:=fun h=>Gw h
section
variable {X:Cx}{sc:Jm}{N':List Str}{js:List (Option Nat)}{pins:List (Addr×Obj)}{σ:St}{H H1:Hp}{s:Ah}{fp:List Addr}{C:Addr}
theorem vJ(S:mF N' sc X.env.scope)(I:Inv X pins σ H s):∀ y∈sc.names,y.2=.free->∃ c,X.env.cells.lookup y.1=some c:=fun y hy hk=>
 I.ok.has y.1 (S.free y hy hk)
theorem RD(S:mF N' sc X.env.scope)(hj:e9 N' X.N sc js N'=true)(I:Inv X pins σ H s)(hf:∀ b∈fp,gM X pins H b)(ho:∀ b∈fp,∃ o,s.heap.get? b=some o)
  {h1:Heap} {tk:Nat} {m:Str->Option Ae} (hC:s.heap.objs.size<=C) (keep:∀ b o,s.heap.get? b=some o->h1.get? b=some o) (un:Un (gV X.stack) fp H H1 s.heap h1) (hok:cR X.prog X.w H1 h1) (hn:h1.Ns C m) (hfree:H1 C=none) :
  Inv (dR X sc N' ⟨fV X.env.cells sc.names [],s,H,fp,C⟩) [] (cmap js σ) H1 {s with heap:=h1,toks:=tk}:=by
 have cs:=vJ S I
 have sub:∀ x c,(fV X.env.cells sc.names []).lookup x=some c->X.env.cells.lookup x=some c:=fun x c e=>vE cs (fun _ _ z=>by simp at z) e
 refine⟨⟨I.ok.mod,S.kind,I.ok.glob,I.ok.blt,hC,fun x y c e1 e2=>I.ok.inj x y c (sub x c e1) (sub y c e2),fun x hx=>?_,fun _ _ h _=>absurd (show false=true from h) Ar,I.ok.hd,I.ok.frames,.inl rfl,fun b hb=>?_,I.bs,Bc I.ok.bsz I.sz,fun b o e hb=>?_,fun b hb hb'=>?_,I.stack,I.stkFree⟩,
  rfl,I.bare,un,⟨m,hn,fun i x v e1 e2 e3=>?_⟩,fun x c e=>?_,hfree,fun x c e=>?_,fun p hp=>absurd (show p∈([]:List (Addr×Obj)) from hp) (by simp),hok,?_⟩
 ·have q:sc.names.lookup x=some .free:=(vH (env:=X.env) S.nocell).mp hx
  exact rN (.inl (vI q))
 ·obtain⟨o,e⟩:=ho b hb
  exact⟨Be (Bq (Ap e) hC),fun x c q=>(hf b hb).2.2.2.2.1 x c (sub x c q)⟩
 ·rcases(hf b hb).2.2.2.1 with z | z
  ·exact I.ok.noex b o e z
  ·exact absurd (Bq (Ap e) (Bc I.ok.bsz z)) (Gv _)
 ·rcases Ax.mp (I.stkSub b hb') with z | z
  ·exact(hf b hb).2.1 z
  ·exact(hf b hb).2.2.1 z
 ·
  have e1:N'[i]? = some x:=e1
  unfold cmap at e2
  rw[Av] at e2
  cases hji:js[i]? with
  | none=>rw[hji] at e2;cases e2
  | some o=>
   rw[hji] at e2
   cases o with
   | none=>cases e2
   | some j=>
    obtain⟨a1,a2⟩:=vG hj hji e1
    have e2:(σ[j]?).join=some v:=by simpa using e2
    have e2':σ[j]? = some (some v):=by
     cases q:σ[j]? with
     | none=>rw[q] at e2;cases e2
     | some z=>rw[q] at e2;simpa using e2
    obtain⟨m0,hn0,hl0⟩:=I.loc
    have kx:=S.free _ (vI a2) rfl
    obtain⟨u,r,l⟩:=hl0 j x v a1 e2' (kx.elim (fun z=>.inr (.inl z)) fun z=>.inr (.inr z))
    refine⟨u,r,.inr ⟨(vH (env:=X.env) S.nocell).mpr a2,?_⟩⟩
    rcases l with⟨k,_⟩ | ⟨_,c,ec,hc⟩
    ·have k:X.env.scope.names.lookup x=some .local:=k
     rcases kx with z | z
     ·rw[k] at z;cases z
     ·rw[k] at z;cases z
    ·obtain⟨c',ec'⟩:=rN (cells:=X.env.cells) (acc:=[]) (.inl (vI a2))
     have:c'=c:=Cr ((sub x c' ec').symm.trans ec)
     subst this
     obtain⟨oc,hoc,hd⟩:=hc
     exact⟨c',ec',oc,keep _ _ hoc,hd⟩
 ·obtain⟨v,oc,hoc,hd⟩:=I.cell x c (sub x c e)
  exact⟨v,oc,keep _ _ hoc,hd⟩
 ·obtain⟨v,oc,hoc,hd⟩:=I.cell x c (sub x c e)
  have nfp:c∉fp:=fun z=>(hf c z).2.2.2.2.1 x c (sub x c e) rfl
  exact un.free c oc hoc (I.freeC x c (sub x c e)) nfp
 ·show(cmap js σ).length=N'.length
  unfold cmap
  rw[Ab]
  exact vF hj
end
section
variable {prog:Bo}{w:Ce}{A:Ck}{R:Result->Ah->Prop}{s:Ah}
theorem RE{elt target iter:Expr}{ifs:List Expr}{scope:Jm}{pos:Pos}{it acc:Ae}{env:Env}(I:Nat->Ah->Prop)
  (turn:∀ n s,I n s->Ba (Bj prog w) A (Hh it) (fun r s₁=>match r with
   | none=>R (.ok .next) s₁
   | some v=>Ba (Bj prog w) A (Nc target it v) (fun _ s₀=>Ba (Bj prog w) A (Ma target env v) (fun _ s₂=>
     Ba (Bj prog w) A (forIn ifs true fun c r=>if r=true then do let ok <-isTrue c env (eval c env);pure (ForInStep.yield ok) else pure (ForInStep.yield r)) (fun ok s₃=>
      if ok=true then Ba (Bj prog w) A (eval elt env) (fun x s₄=>
       Ba (Bj prog w) A (call (.builtin "list.append") [acc,x]) (fun _ s₅=>∃ m,m < n/\I m s₅) (fun _ _=>False) s₄) (fun _ _=>False) s₃
      else ∃ m,m < n/\I m s₃) (fun _ _=>False) s₂) (fun _ _=>False) s₀) (fun _ _=>False) s₁) (fun _ _=>False) s)
  (n:Nat) (h:I n s) :
  Jb (Bj prog w) A (.compLoop (.ListComp elt [⟨target,iter,ifs,0⟩] scope pos) 0 it acc env) R s:=by
 refine codeAny_loop rfl I (fun n s hI=>?_) n h
 show Ba _ A ((compTurn (.ListComp elt [⟨target,iter,ifs,0⟩] scope pos) 0 it acc env).onRaise (fun x=>do noteFrame x env;theTreesLotGoes x)) _ _ s
 refine wpAny_noted ?_
 rw[compTurn_list]
 refine Aa (Nn (Aa (Hs (turn n s hI) (fun r s₁ h₁=>?_) fun _ _ h'=>h'.elim)))
 cases r with
 | none=>exact Ag h₁
 | some v=>
  refine Aa (Hs h₁ (fun _ s₀ h₀=>?_) fun _ _ h'=>h'.elim)
  refine Aa (Hs h₀ (fun _ s₂ h₂=>Aa (Hs h₂ (fun ok s₃ h₃=>?_) fun _ _ h'=>h'.elim)) fun _ _ h'=>h'.elim)
  cases ok with
  | false=>exact Ag ⟨rfl,h₃⟩
  | true=>
   exact Aa (Aa (Hs h₃ (fun x s₄ h₄=>Aa (Hs h₄ (fun _ s₅ h₅=>Ag (Ag ⟨rfl,h₅⟩)) fun _ _ h'=>h'.elim)) fun _ _ h'=>h'.elim))
end
def hZ(X:Cx)(ifs:List Expr)(t:TT):Prop:=
 ∀ (pins:List (Addr×Obj)) (s:Ah) (σ:St) (H:Hp) (Q:Bool->Hp->Prop),Inv X pins σ H s->t σ H Q->
  Ba (Bj X.prog X.w) X.A (forIn ifs true fun c r=>if r=true then do let ok <-isTrue c X.env (eval c X.env);pure (ForInStep.yield ok) else pure (ForInStep.yield r)) (TP X pins σ Q) X.xe s
def RF:TT:=fun _ H Q=>Q true H
theorem RG{X:Cx}:hZ X [] RF:=fun _ _ _ H _ I h=>wpAny_tests_nil ⟨H,I,h⟩
theorem RH{X:Cx}{c:Expr}{t:TT}(h:PT X c t):hZ X [c] t:=fun pins s σ H Q I hw=>wpAny_tests_one (h pins s σ H Q I hw)
def vK(J:It)(g:TG)(tt:TT)(te:TE)(p:Addr)(σ₀:St)(H1:Hp)(Q:VK):Prop:=
 ∃ W:Nat->Nat->St->List V->Hp->Prop,(∃ m,W 0 m σ₀ [] (aQ H1 p (.lst [])))/\∀ i m σ' acc H,W i m σ' acc H->
  (J.stop i H/\Q (.ref p) H)\/(J.go i H/\∃ N:St->List V->Hp->Prop,(∀ σ2 acc' H',N σ2 acc' H'->∃ m',m' < m/\W (i + 1) m' σ2 acc' H')/\∀ x H',J.yld i H x H'->g x σ' H' fun σ2 H2=>tt σ2 H2 fun b H3=>
   if b=true then te σ2 H3 fun y H4=>H4 p=some (.lst acc)/\acc.length < Am/\N σ2 (acc ++ [y]) (aQ H4 p (.lst (acc ++ [y])))
   else N σ2 acc H3)
def vL(wi:TI)(g:jP->TG)(tt:jP->TT)(te:jP->TE)(js:List (Option Nat)):TE:=fun σ H Q=>wi σ H fun J H1=>∀ p,H1 p=none->∀ B:jP,vK J (g B) (tt B) (te B) p (cmap js σ) H1 Q
section
variable {X:Cx}{sc:Jm}{N':List Str}{js:List (Option Nat)}{tg iter elt:Expr}{ifs:List Expr}{pos:Pos}{wi:TI}{g:jP->TG}{tt:jP->TT}{te:jP->TE}
theorem EB(S:mF N' sc X.env.scope)(hj:e9 N' X.N sc js N'=true)(hc:X.calm=true)
  (hg:∀ B,PG (dR X sc N' B) tg (g B)) (ht:∀ B,hZ (dR X sc N' B) ifs (tt B)) (he:∀ B,PE (dR X sc N' B) elt (te B))
  {pins:List (Addr×Obj)} {s:Ah} {σ:St} {J:It} {H:Hp} {it:Addr} {fp:List Addr} {tn:Nat->Heap->Prop} (I:Inv X pins σ H s) (T:iX X.prog X.w X.K tg J fp it tn) (st:tn 0 s.heap) (hf:∀ b∈fp,gM X pins H b)
  {Q:VK} (hw:∀ p,H p=none->∀ B:jP,vK J (g B) (tt B) (te B) p (cmap js σ) H Q) {E:Ae->Ah->Prop} {RR:Ae->Addr->Result->Ah->Prop}
  (hRR:∀ p C H' s' m,Inv X pins σ H' s'->gM X pins H' C->s'.heap.Ns C m->Q (.ref p) H'->RR (.ref p) C (.ok .next) s') :
  Ba (Bj X.prog X.w) X.A (newList []) (fun acc s₃=>Ba (Bj X.prog X.w) X.A (newFunctionEnv sc X.env.globals (fV X.env.cells sc.names []) [] X.env.qual none .none (some X.env)) (fun cenv s₄=>
   Jb (Bj X.prog X.w) X.A (.compStart (.ListComp elt [⟨tg,iter,ifs,0⟩] sc pos) 0 (.ref it) acc {cenv with scope:=relabel sc X.env}) (RR acc cenv.locals) s₄) E s₃) E s:=by
 refine Cy (wpAny_newFunctionEnv S.nocell (by intro y hy;simp at hy) (fun h₁ hns₁ hsb₁=>?_) S.kind)
 dsimp only at hns₁ hsb₁ ⊢
 generalize hH2:s.heap.push {cls:=.type "list",dict:=none,data:=.seq ([]:List Ae).toArray} = H2 at hns₁ hsb₁ ⊢
 have hC:H2.objs.size=s.heap.objs.size + 1:=by rw[<-hH2,Cz]
 have hDC:s.heap.objs.size≠H2.objs.size:=by rw[hC];exact Be (Gh _)
 have hCle:s.heap.objs.size<=H2.objs.size:=by rw[hC];exact Kj _
 have below:∀ b,b < s.heap.objs.size->b≠H2.objs.size:=fun b hb=>by rw[hC];exact Be (Gu hb)
 have old:∀ b o,s.heap.get? b=some o->h₁.get? b=some o:=fun b o e=>hsb₁.extBut b o (below b (Ap e)) (Af _ (hH2 ▸ Af _ e))
 have hacc:h₁.get? s.heap.objs.size=some {cls:=.type "list",dict:=none,data:=.seq ([]:List Ae).toArray}:=hsb₁.extBut _ _ hDC (Af _ (hH2 ▸ Au _ rfl))
 have hp0:H s.heap.objs.size=none:=I.hok.fresh (Aj _)
 have newO:cN X.prog X.w (aQ H s.heap.objs.size (.lst [])) h₁ s.heap.objs.size (.lst []):=⟨Ci _,[],_,.nil,hacc⟩
 have hok1:cR X.prog X.w (aQ H s.heap.objs.size (.lst [])) h₁:=I.hok.laid old (Aj _) newO
 have un1:Un (gV X.stack) fp H (aQ H s.heap.objs.size (.lst [])) s.heap h₁:=Un.laid old (Aj _) hp0
 have fC:(aQ H s.heap.objs.size (.lst [])) H2.objs.size=none:=by rw[bH (Bp hDC)];exact I.hok.fresh hCle
 have IB:=RD (tk:=s.toks + ([]:List (Str×Ae)).length) S hj I hf (fun b hb=>let ⟨o,e,_⟩:=T.obj 0 _ st b hb;⟨o,e⟩) hCle old un1 hok1 hns₁ fC
 obtain⟨W,⟨m0,w0⟩,turn⟩:=hw _ hp0 ⟨fV X.env.cells sc.names [],s,H,fp,H2.objs.size⟩
 have st1:tn 0 h₁:=T.keep _ _ _ st fun b _ o e=>old b o e
 have loop:∀ s₃:Ah,s₃ = {s with heap:=h₁,toks:=s.toks + ([]:List (Str×Ae)).length}->
   Jb (Bj X.prog X.w) X.A (.compLoop (.ListComp elt [⟨tg,iter,ifs,0⟩] sc pos) 0 (.ref it) (.ref s.heap.objs.size) (compEnvC sc (fV X.env.cells sc.names []) H2.objs.size X.env))
    (RR (.ref s.heap.objs.size) H2.objs.size) s₃:=by
  rintro s₃ rfl
  generalize hB:(⟨fV X.env.cells sc.names [],s,H,fp,H2.objs.size⟩:jP)=B at turn w0 IB
  have eB:compEnvC sc (fV X.env.cells sc.names []) H2.objs.size X.env=(dR X sc N' B).env:=by subst hB;rfl
  have exB:(dR X sc N' B).ex=fp:=by subst hB;rfl
  rw[eB]
  have stat:∀ {σ':St} {H':Hp} {s':Ah},Inv (dR X sc N' B) [] σ' H' s'->(∀ b∈fp,H' b=none)->∀ b∈fp,gM (dR X sc N' B) [] H' b:=fun {σ' H' s'} J' hn b hb=>by
   refine⟨hn b hb,(J'.ok.exf b (by rw[exB];exact hb)).1,J'.ok.exfs b (by rw[exB];exact hb),.inl (by rw[exB];exact hb),(J'.ok.exf b (by rw[exB];exact hb)).2,fun p hp=>absurd (show p∈([]:List (Addr×Obj)) from hp) (by simp)⟩
  have fp0:∀ b∈fp,(aQ H s.heap.objs.size (.lst [])) b=none:=fun b hb=>by
   obtain⟨o,e,_⟩:=T.obj 0 _ st b hb
   rw[bH (Be (Ap e))]
   exact(hf b hb).1
  refine RE (fun n s'=>∃ i σ' acc H',Inv (dR X sc N' B) [] σ' H' s'/\tn i s'.heap/\(∀ b∈fp,H' b=none)/\W i n σ' acc H') ?_ m0 ⟨0,_,[],_,IB,st1,fp0,w0⟩
  rintro n s3 ⟨i,σ3,acc,H3,I3,st3,fr3,w3⟩
  rcases turn i n σ3 acc H3 w3 with⟨stop,qn⟩ | ⟨go,N,hN,step⟩
  ·refine a9 (T.done (dR X sc N' B) rfl rfl rfl hc i [] s3 σ3 H3 (fun _ _=>False) I3 (stat I3 fr3) st3 stop) fun r s4 ⟨hr,I4⟩=>?_
   subst hr
   obtain⟨m4,hn4,_⟩:=I4.loc
   have u4:Un (gV X.stack) fp H H3 s.heap s4.heap:=by have:=I4.base;subst hB;exact this
   have o4:s4.os=s.os:=by have:=I4.os;subst hB;exact this
   have c4:(dR X sc N' B).env.locals=H2.objs.size:=by subst hB;rfl
   have hIX:Inv X pins σ H3 s4:=I.call' (ch:=fp) o4 u4 I4.hok I4.bare fun b hb=>⟨(hf b hb).2.2.2.1,(hf b hb).2.1,(hf b hb).2.2.2.2.1,(hf b hb).2.2.2.2.2⟩
   exact hRR _ _ H3 s4 m4 hIX (I.fpOk hCle (by rw[<-c4];exact I4.free)) (by rw[<-c4];exact hn4) qn
  ·refine a9 (T.item (dR X sc N' B) rfl rfl rfl hc i [] s3 σ3 H3 (fun _ _=>False) I3 (stat I3 fr3) st3 go) fun r s4 ⟨u,hr,h4⟩=>?_
   subst hr
   refine a9 h4 fun _ s5 ⟨x,H5,I5,r5,y5,st5,fr5⟩=>?_
   have I5':=I5.pinned (stat I5 fr5) (T.obj _ _ st5)
   refine a9 (hg B _ s5 σ3 H5 x u _ I5' r5 (step x H5 y5)) fun _ s6 ⟨σ6,H6,I6,q6⟩=>?_
   refine a9 (ht B _ s6 σ6 H6 _ I6 q6) fun ok s7 ⟨H7,I7,q7⟩=>?_
   have again:∀ {H8:Hp} {s8:Ah} {acc':List V},Inv (dR X sc N' B) ([] ++ oS fp s5.heap) σ6 H8 s8->(∃ m',m' < n/\W (i + 1) m' σ6 acc' H8)->∃ m,m < n/\∃ i σ' acc H',Inv (dR X sc N' B) [] σ' H' s8/\tn i s8.heap/\(∀ b∈fp,H' b=none)/\W i m σ' acc H':=
    fun {H8 s8 acc'} I8 ⟨m',hm,w8⟩=>by
     refine⟨m',hm,i + 1,σ6,acc',H8,I8.unpinned,T.keep _ _ _ st5 fun b hb o e=>(I8.pin (b,o) (Ca _ (Ca _ (rB hb e)))).1,fun b hb=>?_,w8⟩
     obtain⟨o,e,d⟩:=T.obj _ _ st5 b hb
     exact(I8.pin (b,o) (Ca _ (Ca _ (rB hb e)))).2.1
   cases ok with
   | false=>
    rw[if_neg Ar] at q7
    rw[if_neg Ar]
    exact again I7 (hN _ _ _ q7)
   | true=>
    rw[if_pos rfl] at q7
    rw[if_pos rfl]
    refine a9 (he B _ s7 σ6 H7 _ I7 q7) fun y s8 ⟨z,H8,I8,r8,hp8,hl8,q8⟩=>?_
    exact a9 (D1 _ s8 σ6 H8 (.ref s.heap.objs.size) [z] (.ref s.heap.objs.size) [y] (fun _ H9=>N σ6 (acc ++ [z]) H9) I8 rfl (.cons r8 .nil) ⟨_,acc,z,rfl,rfl,hp8,hl8,q8⟩) fun _ s9 ⟨_,H9,I9,_,q9⟩=>again I9 (hN _ _ _ q9)
 exact codeAny_compStart_list (loop _ rfl) (T.self _ 0 _ _ _ st1 (loop _ rfl))
theorem RI(N':List Str)(js:List (Option Nat))(hi:PI X tg iter wi)
  (hg:∀ B,PG (dR X sc N' B) tg (g B)) (ht:∀ B,hZ (dR X sc N' B) ifs (tt B)) (he:∀ B,PE (dR X sc N' B) elt (te B))
  (S0:mG N' sc X.env.scope=true:=by kernel_rfl) (hj:e9 N' X.N sc js N'=true:=by kernel_rfl) (hc:X.calm=true:=by rfl) (hs:∀ x,Gy iter X.env x=pure x:=by intro _;rfl):PE X (.ListComp elt [⟨tg,iter,ifs,0⟩] sc pos) (vL wi g tt te js):=by
 intro pins s σ H Q I h
 have S:=mF.of S0
 rw[eval_ListComp]
 refine wpAny_comprehension_free (use:=none) rfl hs (EA (vJ S I)) S.kind S.loc (a9 (hi pins s σ H _ I h) fun xv s₁ h₁=>a9 h₁ fun itv s₂ h₂=>?_)
 obtain⟨it,fp,tn,J,H2,e,I2,T,st2,f2,hw⟩:=h₂
 subst e
 refine EB (RR:=fun acc C=>compPost (Bj X.prog X.w) X.A X.xe none (EP X pins σ Q) acc C) S hj hc hg ht he I2 T st2 f2 hw ?_
 intro p C H' s' m I' fC hn q
 refine⟨m,hn,fun h' hs'=>⟨.ref p,H',?_,rfl,q⟩⟩
 exact I'.turned (t':=s'.toks) (fun b o hb e=>(hs'.2 b hb).trans e) fC.1 fC.2.1 fC.2.2.2.1 fC.2.2.2.2.1 fC.2.2.2.2.2
theorem RJ{i:Nat}{x:Str}{px spos:Pos}(hN:X.N.Nodup)(hi0:X.N[i]? = some x)(hx:Loc X.env.scope x)(N':List Str)(js:List (Option Nat))(hi:PI X tg iter wi)
  (hg:∀ B,PG (dR X sc N' B) tg (g B)) (ht:∀ B,hZ (dR X sc N' B) ifs (tt B)) (he:∀ B,PE (dR X sc N' B) elt (te B))
  (S0:mG N' sc X.env.scope=true:=by kernel_rfl) (hj:e9 N' X.N sc js N'=true:=by kernel_rfl) (hc:X.calm=true:=by rfl) (hsw:Js (.ListComp elt [⟨tg,iter,ifs,0⟩] sc pos) (some (.Name x px)) spos.line X.env=pure true:=by rfl)
  (hf:X.fn x=true\/X.env.scope.names.lookup x=some .local:=by first | exact .inl rfl | exact .inr rfl | assumption)
  (hs:∀ x,Gy iter X.env x=pure x:=by intro _;rfl):PS X (.Assign [.Name x px] (.ListComp elt [⟨tg,iter,ifs,0⟩] sc pos) spos) (qZ (vL wi g tt te js) (uX i)):=by
 intro pins s σ H D I h
 have S:=mF.of S0
 rw[exec_Assign_Name_used _ _ _ _ hsw]
 refine Aa (Nn (Aa ?_))
 show Ba _ X.A (do let _ <-comprehension (.ListComp elt [⟨tg,iter,ifs,0⟩] sc pos) sc X.env _ (newList []) false (eval iter X.env) (some (Ma (.Name x px) X.env))) _ _ s
 refine Aa (Hs (wpAny_comprehension_free (use:=some (Ma (.Name x px) X.env)) (Q:=fun _ s'=>SP X pins D .next s') rfl hs (EA (vJ S I)) S.kind S.loc
  (a9 (hi pins s σ H _ I h) fun xv s₁ h₁=>a9 h₁ fun itv s₂ h₂=>?_)) (fun _ s' hq=>Ag (Ag hq)) fun _ _ e=>e)
 obtain⟨it,fp,tn,J,H2,e,I2,T,st2,f2,hw⟩:=h₂
 subst e
 refine EB (RR:=fun acc C=>compPost (Bj X.prog X.w) X.A X.xe (some (Ma (.Name x px) X.env)) (fun _ s'=>SP X pins D .next s') acc C) S hj hc hg ht he I2 T st2 f2 hw ?_
 intro p C H' s' m I' fC hn q
 show Ba _ X.A (Ma (.Name x px) X.env (.ref p)) _ _ _
 refine wpAny_assign_Name (CW I' hN hi0 hx (v:=.ref p) rfl (fun s'' I'' ⟨a,sb,ha⟩=>?_) hf)
 have hCa:C≠a:=by
  rcases ha with e | e
  ·rw[e];exact fC.2.1
  ·exact fun z=>fC.2.2.2.2.1 x a e z.symm
 refine⟨m,hn.sameBut sb hCa,fun h' hs'=>⟨_,H',?_,q⟩⟩
 exact I''.turned (t':=s''.toks) (fun b o hb e=>(hs'.2 b hb).trans e) fC.1 fC.2.1 fC.2.2.2.1 fC.2.2.2.2.1 fC.2.2.2.2.2
end
section
variable {g:TG}{tt:TT}{te:TE}{p:Addr}{σ₀:St}{H1:Hp}{Q:VK}
theorem RK{J:It}(n:Nat)(Pv:Nat->St->List V->Hp->Prop)(h0:Pv 0 σ₀ [] (aQ H1 p (.lst [])))(hd:∀ σ acc H,Pv n σ acc H->J.stop n H/\Q (.ref p) H)
  (hs:∀ i σ acc H,i < n->Pv i σ acc H->J.go i H/\∀ x H',J.yld i H x H'->g x σ H' fun σ2 H2=>tt σ2 H2 fun b H3=>
   if b=true then te σ2 H3 fun y H4=>H4 p=some (.lst acc)/\acc.length < Am/\Pv (i + 1) σ2 (acc ++ [y]) (aQ H4 p (.lst (acc ++ [y]))) else Pv (i + 1) σ2 acc H3):vK J g tt te p σ₀ H1 Q:=by
 refine⟨fun i m σ acc H=>m=n - i/\i<=n/\Pv i σ acc H,⟨n,by simp,Ci _,h0⟩,?_⟩
 rintro i m σ acc H ⟨rfl,hi,q⟩
 by_cases hlt:i < n
 ·obtain⟨hg,hy⟩:=hs i σ acc H hlt q
  exact .inr ⟨hg,Pv (i + 1),fun σ2 acc' H' q'=>⟨n - (i + 1),by omega,rfl,hlt,q'⟩,hy⟩
 ·have e:i=n:=by omega
  subst e
  exact .inl (hd σ acc H q)
end
section
variable {X:Cx}
theorem EC{i:Int}(h:i.natAbs < 2 ^ 4096):Builtin.Int.intBits i<=2 ^ 20:=by
 unfold Builtin.Int.intBits
 split
 ·exact Ci _
 ·rename_i h0
  have hn:i.natAbs≠0:=by
   intro z
   have:i=0:=Int.natAbs_eq_zero.mp z
   rw[this] at h0
   exact h0 rfl
  have:i.natAbs.log2 < 4096:=(Nat.log2_lt hn).mpr h
  have e:(2:Nat) ^ 20=1048576:=by decide
  lia
def rO(i j:Int):Prop:=i.natAbs < 2 ^ 4096/\j.natAbs < 2 ^ 4096
theorem RL:bG X (Fg .Mult) (rI rO fun i j=>.int (i * j)):=oV fun _ _ _ _ _ _ _ hc q=>mul_int q (IntMulOk.of_bits (EC hc.1) (EC hc.2))
def vM(i j:Int):Prop:=0 < j/\j < 2 ^ 4096
theorem RM:bG X (Fg .FloorDiv) (rI vM fun i j=>.int (i / j)):=oV fun i j _ _ _ _ _ hc q=>by
 refine floordiv_int (by have:=hc.1;lia) ?_ (.inl (PyProof.noPylong_of_log2 ?_))
 ·rw[Int.fdiv_eq_ediv_of_nonneg _ (Int.le_of_lt hc.1)];exact q
 ·have h0:j.natAbs≠0:=by have:=hc.1;lia
  have h1:j.natAbs < 2 ^ 4096:=by
   have a:=hc.1
   have b:=hc.2
   lia
  have:=(Nat.log2_lt h0).mpr h1
  lia
theorem RN:iG X "str.partition" (fun x vs H Q=>∃ z y,x=.str z/\vs=[.str y]/\(y.length == 0)=false/\z.length<=Am/\
  ∀ p,H p=none->Q (.ref p) (aQ H p (.tup [.str (Cm z y).1,.str (Cm z y).2.1,.str (Cm z y).2.2]))):=by
 intro pins s σ H x xs v us Q I rx rv h
 obtain⟨z,y,rfl,rfl,hy,hz,q⟩:=h
 obtain⟨t,rfl⟩:=rx
 obtain⟨u,rfl,ru⟩:=rv.one
 obtain⟨t',rfl⟩:=ru
 refine Ll F.slot_str_partition (typeIs_str _ _ _) F.entry_str_partition (F.args_str_partition_2 _ _) (meets_str_partition z y t t' hy hz) ?_
 have q':=q s.heap.objs.size (I.hok.fresh (Aj _))
 have fin:∀ (a b c:Str) (ta tb tc:Tok) (tk:Nat),Q (.ref s.heap.objs.size) (aQ H s.heap.objs.size (.tup [.str a,.str b,.str c]))->
   EP X pins σ Q (.ref s.heap.objs.size) {s with toks:=tk,heap:=s.heap.push {cls:=.type "tuple",data:=.seq [.str a ta,.str b tb,.str c tc].toArray}}:=fun a b c ta tb tc tk qq=>
  ⟨.ref s.heap.objs.size,_,I.laid (o:=.tup [.str a,.str b,.str c]) (t':=tk) (fun b o e=>Af _ e) (Aj _)
   ⟨by show 3<=Am;decide,[.str a ta,.str b tb,.str c tc],.cons ⟨_,rfl⟩ (.cons ⟨_,rfl⟩ (.cons ⟨_,rfl⟩ .nil)),⟨_,Au _ rfl,rfl,_,rfl⟩⟩,rfl,qq⟩
 unfold Cm at q'
 revert q'
 cases Ik z y 0 z.length 1 with
 | nil=>intro q';exact fin _ _ _ _ _ _ _ q'
 | cons i r=>intro q';exact fin _ _ _ _ _ _ _ q'
theorem all_range{bs:List Bool}:(Bu bs.length).all (fun i=>bs.getD i false)=bs.all id:=by
 induction bs with
 | nil=>rfl
 | cons b r ih=>
  rw[Bn,List.range_succ_eq_map,Iz,List.all_map,Iz]
  have:((fun i=>(b :: r).getD i false) ∘ Nat.succ)=fun i=>r.getD i false:=by
   funext i;simp[List.getD]
  rw[this,ih]
  simp
theorem ED(hc:X.calm=true):dA X (.builtin "all") (fun xs H Q=>∃ (p:Addr) (bs:List Bool),xs=[.ref p]/\bF X.K H p (bs.map V.bl)/\Q (.bl (bs.all id)) H):=by
 intro pins s σ H xs us Q I r h
 obtain⟨p,bs,rfl,hq,q⟩:=h
 obtain⟨u,rfl,ru⟩:=vals1 r
 cases ru
 obtain⟨its,rv,pl,hz⟩:=I.list hq
 have hlt:p < s.heap.objs.size:=by obtain⟨_,e,_⟩:=pl.isList;exact Ap e
 refine call_all_walk (Gx pl.isList ?_)
 have hA:X.A.in1.handled=none:=I.ok.hd hc
 refine⟨s.heap.objs.size,[s.heap.objs.size,p],[s.heap.objs.size],its.toArray.size,(fun i v=>its.toArray[i]? = some v),_,(fun i=>bs.getD i false),rfl,Ks hA s.heap.objs.size p (Be hlt) its.toArray,
  ⟨⟨_,Au _ rfl,rfl,rfl⟩,pl.isList.push _⟩,?_,fun h' tk hk=>?_⟩
 ·intro i v s' Q' E' hv hQ'
  have hv':its[i]? = some v:=by simpa using hv
  have hi:i < its.length:=(Ai.mp hv').1
  have hl:=rv.length
  rw[Ab] at hl
  have hb:bs[i]? = some (bs.getD i false):=by
   have hi':i < bs.length:=by lia
   simp[List.getD,Ak hi']
  obtain⟨u,hu,ru⟩:=rv.get (i:=i) (x:=.bl (bs.getD i false)) (by rw[Av,hb];rfl)
  rw[hv'] at hu;cases hu
  cases (show v=Value.bool (bs.getD i false) from ru)
  exact Ag hQ'
 ·have hl:=rv.length
  rw[Ab] at hl
  have e:(Bu its.toArray.size).all (fun i=>bs.getD i false)=bs.all id:=by
   rw[Bb,<-hl,all_range]
  rw[e]
  refine⟨.bl (bs.all id),H,?_,rfl,q⟩
  exact I.kept (t':=tk) fun b o eb=>hk b o (fun z=>by
   have:b=s.heap.objs.size:=by simpa using z
   exact absurd (Ap eb) (by rw[this];exact Gv _)) (Af _ eb)
theorem RO:dA X (.builtin "isinstance") (fun xs H Q=>∃ x T t b,xs=[x,.ty T]/\gW X.K H x t/\Jf X.K t (.type T)=some b/\Q (.bl b) H):=by
 intro pins s σ H xs us Q I r h
 obtain⟨x,T,t,b,rfl,ty,e,q⟩:=h
 obtain⟨u,w',rfl,ru,rw'⟩:=vals2 r
 cases (show w'=Value.type T from rw')
 exact OJ I ru ty e fun tk=>⟨.bl b,H,I.tok _,rfl,q⟩
def vN(z:Str):It:=⟨fun i _=>i < z.cps.size,fun i H x H'=>H'=H/\∃ c,z.cps.toList[i]? = some c/\x=.str ⟨#[c]⟩,fun i _=>z.cps.size<=i⟩
theorem EE{P:Bo}{w:Ce}{K:Ac}{x:Str}{px:Pos}(z:Str)(it:Addr)(ty:String)(tk0:Tok)
  (nx:∀ (A:Ck) (s:Ah) (i c:Nat) (Q:Option Ae->Ah->Prop) (E:Ae->Ah->Prop),s.heap.IsStrIter it ty z tk0 i->z.cps[i]? = some c->
   (∀ h',h'.IsStrIter it ty z tk0 (i + 1)->Dn it s.heap h'->Q (some (.str ⟨#[c]⟩ s.toks)) {s with heap:=h',toks:=s.toks + 1})->Ba (Bj P w) A (Hh (.ref it)) Q E s)
  (en:∀ (A:Ck) (s:Ah) (i:Nat) (Q:Option Ae->Ah->Prop) (E:Ae->Ah->Prop),A.handled=none->s.heap.IsStrIter it ty z tk0 i->z.cps[i]? = none->
   (∀ h',Heap.ExtBut it s.heap h'->Q none {s with heap:=h'})->Ba (Bj P w) A (Hh (.ref it)) Q E s)
  (slf:∀ (A:Ck) (i:Nat) (s:Ah) (Q:Ae->Ah->Prop) (E:Ae->Ah->Prop),s.heap.IsStrIter it ty z tk0 i->Q (.ref it) s->Ba (Bj P w) A (Nh (.ref it)) Q E s) :
  iX P w K (.Name x px) (vN z) [it] it (fun i h=>h.IsStrIter it ty z tk0 i) where
 mem:=by simp
 obj:=fun i h st b hb=>by
  have e:b=it:=by simpa using hb
  subst e
  obtain⟨o,ho,_,hd⟩:=st
  exact⟨o,ho,fun v q=>by rw[hd] at q;cases q⟩
 keep:=fun i h h' st k=>by
  obtain⟨o,ho,r⟩:=st
  exact⟨o,k it (by simp) o ho,r⟩
 item:=by
  intro X hP hw hK hc i pins s σ H E I hf st hg
  subst hP hw hK
  obtain⟨f0,f1,f2,f3,f4,f5⟩:=hf it (by simp)
  have hi:z.cps[i]? = some z.cps[i]:=Array.getElem?_eq_getElem hg
  refine nx X.A s i _ _ _ st hi fun h' st' sb=>?_
  have I1:Inv X pins σ H {s with heap:=h',toks:=s.toks + 1}:=I.turned (fun b o hb e=>(sb.2 b hb).trans e) f0 f1 f3 f4 f5
  exact⟨_,rfl,Ag ⟨.str ⟨#[z.cps[i]]⟩,H,I1,⟨_,rfl⟩,⟨rfl,z.cps[i],by rw[Gj];exact hi,rfl⟩,st',fun b hb=>(hf b hb).1⟩⟩
 done:=by
  intro X hP hw hK hc i pins s σ H E I hf st hg
  subst hP hw hK
  obtain⟨f0,f1,f2,f3,f4,f5⟩:=hf it (by simp)
  have hg':z.cps.size<=i:=hg
  exact en X.A s i _ _ (I.ok.hd hc) st (Array.getElem?_eq_none hg') fun h' eb=>⟨rfl,I.turned (t':=s.toks) (fun b o hb e=>eb b o hb e) f0 f1 f3 f4 f5⟩
 self:=slf
theorem EF{prog:Bo}{w:Ce}{A:Ck}{E:Ae->Ah->Prop}{it l:Addr}{items:Array Ae}(hne:l≠it):∀ (n i:Nat) (s:Ah) (Q:List Ae->Ah->Prop),s.heap.IsListIter it l i->s.heap.IsList l items->i + n<=items.size->
  (∀ h',h'.IsListIter it l (i + n)->Dn it s.heap h'->Q ((items.toList.drop i).take n) {s with heap:=h'})->Ba (Bj prog w) A (draw (.ref it) n) Q E s
 | 0,i,s,Q,hit,_,_,hQ=>by
  show Ba _ _ (pure []) Q E s
  exact Ag (by simpa using hQ s.heap hit (Heap.SameBut.refl ..))
 | n + 1,i,s,Q,hit,ht,hle,hQ=>by
  have hlt:i < items.size:=by lia
  show Ba _ _ (Hh (.ref it) >>= _) Q E s
  refine Aa (wpAny_pyNext_list_item hit ht (x:=items[i]) (by simp[hlt]) fun h₁ hit₁ hs₁=>?_)
  refine Aa (Cq (EF hne n (i + 1) _ _ hit₁ (ht.extBut hs₁.extBut hne) (by lia) fun h₂ hit₂ hs₂=>Ag ?_))
  have hd:items.toList.drop i=items[i] :: items.toList.drop (i + 1):=by simp[Gp,hlt]
  have:=hQ h₂ (by rw[show i + (n + 1)=i + 1 + n by lia];exact hit₂) (hs₁.trans hs₂)
  rw[hd,List.take_succ_cons] at this
  exact this
theorem RP{prog:Bo}{w:Ce}{A:Ck}{E:Ae->Ah->Prop}{s:Ah}{t:Addr}{items:Array Ae}{targets:List (Bool×(Ae->Sem Unit))}{Q:Unit->Ah->Prop}(hh:A.handled=none)(ht:s.heap.IsList t items)
  (hn:targets.length=items.size) (hstar:targets.findIdx? (·.1)=none)
  (h:∀ h',Heap.ExtBut s.heap.objs.size s.heap h'->Ba (Bj prog w) A (assignInOrder (targets.map (·.2)) items.toList) Q E {s with heap:=h'}) :
  Ba (Bj prog w) A (unpack (.ref t) targets) Q E s:=by
 have hlt:t≠s.heap.objs.size:=by obtain⟨o,ho,_⟩:=ht;exact Be (Ap ho)
 unfold unpack
 rw[hn,hstar]
 refine Aa (Cq ?_)
 unfold unpackItems
 refine Aa ?_
 unfold notIterableAtAll
 refine Aa (wpAny_specialOf ht.typeIs F.slot_list_iter.lookup ?_)
 refine Ag ?_
 simp only[Eg,if_false]
 refine Aa (Cq (Gx ht ?_))
 refine Aa (Cq (EF hlt items.size 0 _ _ ⟨_,Au _ rfl,rfl,rfl⟩ (ht.push _) (by lia) fun h₁ hit₁ hs₁=>?_))
 have hall:List.take items.size (List.drop 0 items.toList)=items.toList:=by
  rw[List.drop_zero];exact Fc (by simp)
 rw[hall]
 rw[if_neg (by simp)]
 have ht₁:h₁.IsList t items:=(ht.push _).extBut hs₁.extBut hlt
 refine Aa (Cq (wpAny_pyNext_list_end hh hit₁ ht₁ (by simp) fun h₂ he₂=>?_))
 simp only[Option.isSome_none,Eg,if_false]
 refine Ag (h h₂ fun b o hb e=>he₂ b o hb (hs₁.extBut b o hb (Af _ e)))
def RQ(K:Ac)(n:Nat)(t:iW):TG:=fun v σ H Q=>∃ a xs,v=.ref a/\bF K H a xs/\xs.length=n/\t xs σ H Q
theorem EG{es:List Expr}{k:Nat}{pos:Pos}{t:iW}{n:Nat}(hc:X.calm=true)(h:iD X es t)
  (hn:(Gq es X.env).length=n:=by rfl) (hst:(Gq es X.env).findIdx? (·.1)=none:=by rfl):PG X (.Tuple es k pos) (RQ X.K n t):=by
 intro pins s σ H v u Q I r hw
 obtain⟨a,xs,e1,hq,hl,hw⟩:=hw
 subst e1
 cases r
 obtain⟨its,rv,ht,hz⟩:=I.list hq
 rw[PyProof.Rows.assign_Tuple]
 refine Aa (Nn (RP (I.ok.hd hc) ht.isList (by simp[hn,<-hl,rv.length]) hst fun h' hx=>?_))
 have I1:Inv X pins σ H {s with heap:=h'}:=I.kept (t':=s.toks) fun b o e=>hx b o (Be (Ap e)) e
 exact h pins _ σ H xs _ Q I1 (by simpa using rv) hw
end
end L2
namespace Rg
open PySem PySem.Spec PyProof.Rows L2
abbrev lD:Str:="ABCDEFGHIJKLMNOPQRSTUVWXYZ"
abbrev EH:Str:="0123456789"
abbrev pA:Str:="abcdefghijklmnopqrstuvwxyz"
def cs(z:Str):List Nat:=z.cps.toList
def kC(z g:Str):Bool:=(!decide (V.str z=V.str "")) && (cs z).all fun c=>decide (c∈cs g)
def jQ(z:Str):Bool:=(decide (V.str (Cm z "_").2.1=V.str "") || kC (Cm z "_").2.2 EH) && kC (Cm z "_").1 lD
theorem RS{x y:Str}(h:cs x=cs y):x=y:=by
 obtain⟨x⟩:=x;obtain⟨y⟩:=y
 exact congrArg Str.mk (Array.toList_inj.mp h)
theorem RT(x:Str):(cs x).length=x.length:=by unfold cs Str.length;simp
theorem EI:cs "" = []:=by decide +kernel
theorem RU(z:Str):decide (V.str z=V.str "")=decide (cs z=[]):=by
 by_cases h:z = ""
 ·subst h;simp[EI]
 ·rw[decide_eq_false (fun e=>h (V.str.inj e)),decide_eq_false]
  intro e
  exact h (RS (e.trans EI.symm))
theorem EJ(z g:Str):kC z g=(!decide (cs z=[]) && (cs z).all fun c=>decide (c∈cs g)):=by unfold kC;rw[RU]
theorem RV:("_" : Str)=⟨#[95]⟩:=by decide +kernel
theorem RW{z:Str}(h:95∉cs z):Cm z "_" = (z,Str.empty,Str.empty):=by
 rw[RV]
 rcases partition_whole z ⟨#[95]⟩ with⟨e,_⟩ | ⟨i,_,hi,_⟩
 ·exact e
 ·exact absurd ((mem_iff_at z 95).mpr ⟨i,hi⟩) h
theorem RX{z:Str}(h0:cs z≠[])(h:∀ c∈cs z,c∈cs pA):jQ z=false:=by
 have h95:95∉cs z:=fun m=>absurd (h _ m) (by decide +kernel)
 unfold jQ
 rw[RW h95,EJ,EJ]
 have hh:((cs z).all fun c=>decide (c∈cs lD))=false:=by
  cases hz:cs z with
  | nil=>exact absurd hz h0
  | cons c r=>
   have hc:c∈cs pA:=h c (by rw[hz];simp)
   have hn:c∉cs lD:=by
    have key:∀ c∈cs pA,c∉cs lD:=by decide +kernel
    exact key c hc
   rw[Iz,decide_eq_false hn,Bool.false_and]
 rw[hh]
 simp
def Below(d s:Int):Prop:=0<=d/\d < s
abbrev Drawn:List Int->List Int->Prop:=Gr Below
theorem vO{i:Nat}{m n:Nat}(h:i < 2 ^ m)(hm:m<=n):i < 2 ^ n:=Bq h (Nat.pow_le_pow_right (by decide) hm)
end Rg
namespace L2
open PySem PySem.Spec PyProof.Rows
section
variable {X:Cx}
def EK(d:Lo):Prop:=d.canLay0=true/\d.depth<=60
theorem vP:∀ {xs:List V} {us:List Ae},xs.length=us.length->(∀ (j:Nat) (u:Ae),us[j]? = some u->∃ x,xs[j]? = some x/\RelV x u)->aZ xs us
 | [],[],_,_=>.nil
 | [],_ :: _,h,_=>by simp at h
 | _ :: _,[],h,_=>by simp at h
 | x :: xs,u :: us,h,k=>by
  obtain⟨y,e,r⟩:=k 0 u rfl
  simp at e
  subst e
  exact .cons r (vP (by simpa using h) fun j v hv=>by
   obtain⟨y,e,r⟩:=k (j + 1) v (by simpa using hv)
   exact⟨y,by simpa using e,r⟩)
theorem EL:∀ {kvs:List (aE×V)} {vs:List (aE×Ae)} {j:Nat} {k:aE} {x:Ae},KV kvs vs->vs[j]? = some (k,x)->∃ v,kvs[j]? = some (k,v)
 | _,_,_,_,_,.nil,e=>by simp at e
 | _,_,0,_,_,.cons (a:=p) r _,e=>by
  simp at e
  subst e
  exact⟨p.2,by obtain⟨a,b⟩:=p;cases r.1;rfl⟩
 | _,_,j + 1,k,x,.cons _ t,e=>by
  obtain⟨v,q⟩:=EL (j:=j) (k:=k) (x:=x) t (by simpa using e)
  exact⟨v,by simpa using q⟩
theorem EM{k:aE}{v:Ae}(h:l8 k v=true):RelV (kV k) v:=by
 rcases jK h with⟨i,t,rfl,rfl⟩ | ⟨x,t,rfl,rfl⟩
 ·exact⟨t,rfl⟩
 ·exact⟨t,rfl⟩
theorem RY(hc:X.calm=true):dA X (.type "list") (fun xs H Q=>∃ d kvs,xs=[.ref d]/\H d=some (.dK kvs)/\∀ l,H l=none->Q (.ref l) (aQ H l (.lst (kvs.map fun kv=>kV kv.1)))):=by
 intro pins s σ H xs us Q I r h
 obtain⟨d,kvs,rfl,hd,q⟩:=h
 obtain⟨u,rfl,ru⟩:=vals1 r
 cases ru
 obtain⟨hz,hne,vs,rkv,hD⟩:=(show cN X.prog X.w H s.heap d (.dK kvs) from I.hok d _ hd)
 obtain⟨ep,hat⟩:=hD.dictAt
 have hl:=rkv.length
 refine PySem.W.kdl_call (PySem.W.kdl_dict (knd:=dO X.prog X.w) (kvs:=vs) (ep:=ep) hne) (I.ok.hd hc) hat (by rw[<-hl];exact hz) fun h' tk acc' c' hk hS hacc=>?_
 refine⟨.ref s.heap.objs.size,_,I.laid (o:=.lst (kvs.map fun kv=>kV kv.1)) (t':=tk) hk (Aj _) ⟨by rw[Ab];exact hz,acc'.toList,c',?_,by rw[Mo];exact hS⟩,rfl,q _ (I.hok.fresh (Aj _))⟩
 refine vP (by have h1:=hacc.1;have h2:acc'.toList.length=acc'.size:=Bx;have h3:(kvs.map fun kv=>kV kv.1).length=kvs.length:=Ab ..;lia) fun j v hv=>?_
 obtain⟨k,x,hx,hk'⟩:=hacc.2 j v (by rw[<-Gj];exact hv)
 obtain⟨y,hy⟩:=EL rkv hx
 exact⟨kV k,by rw[Av,hy];rfl,EM hk'⟩
theorem nJ{n:Nat}(i j:Nat)(h:i≠j):n + i≠n + j:=by lia
theorem rP{n:Nat}(i:Nat)(h:i≠0):n + i≠n:=by lia
theorem EN{n:Nat}(i:Nat)(h:i≠0):n≠n + i:=by lia
theorem gX{n a:Nat}(i:Nat)(h:a < n):a≠n + i:=by lia
theorem rQ{n a:Nat}(h:a < n):a≠n:=by lia
theorem EO{n:Nat}(i:Nat):n<=n + i:=by lia
def rR(K:Ac)(a b:Addr)(xs ys:List V):It:=
 ⟨fun i H=>bF K H a xs/\bF K H b ys/\i < xs.length/\i < ys.length,
   fun i H x H'=>∃ p u v,xs[i]? = some u/\ys[i]? = some v/\H p=none/\x=.ref p/\H'=aQ H p (.tup [u,v]),
   fun i H=>bF K H a xs/\bF K H b ys/\(xs.length<=i\/ys.length<=i)⟩
theorem RZ{P:Bo}{w:Ce}{K:Ac}{es:List Expr}{kx:Nat}{px:Pos}(a b z TI TO i1 i2:Addr)(xs ys:List V)(D:ZipApart z TI TO i1 i2 a b) :
  iX P w K (.Tuple es kx px) (rR K a b xs ys) [z,TI,TO,i1,i2] z (fun i h=>Ni h z TI TO .none/\Hg h TI (.ref i1) (.ref i2)/\(∃ c d,Hg h TO c d)/\h.IsListIter i1 a i/\h.IsListIter i2 b i) where
 mem:=by simp
 obj:=fun i h st c hc=>by
  obtain⟨h1,h2,⟨p,q,h3⟩,⟨o4,h4,_,h4d⟩,⟨o5,h5,_,h5d⟩⟩:=st
  simp only[Ax,Cp,or_false] at hc
  rcases hc with rfl | rfl | rfl | rfl | rfl
  ·exact⟨_,h1,fun v q=>by cases q⟩
  ·exact⟨_,h2,fun v q=>by cases q⟩
  ·exact⟨_,h3,fun v q=>by cases q⟩
  ·exact⟨_,h4,fun v q=>by rw[h4d] at q;cases q⟩
  ·exact⟨_,h5,fun v q=>by rw[h5d] at q;cases q⟩
 keep:=fun i h h' st k=>by
  obtain⟨h1,h2,⟨p,q,h3⟩,⟨o4,h4,r4⟩,⟨o5,h5,r5⟩⟩:=st
  exact⟨k z (by simp) _ h1,k TI (by simp) _ h2,⟨p,q,k TO (by simp) _ h3⟩,⟨o4,k i1 (by simp) _ h4,r4⟩,⟨o5,k i2 (by simp) _ h5,r5⟩⟩
 item:=by
  intro X hP hw hK hc i pins s σ H E I hf st hg
  subst hP hw hK
  obtain⟨h1,h2,⟨c,d,h3⟩,h4,h5⟩:=st
  obtain⟨hqa,hqb,hi,hj⟩:=hg
  obtain⟨its,rv,pl,hz⟩:=I.list hqa
  obtain⟨its2,rv2,pl2,hz2⟩:=I.list hqb
  obtain⟨u,hu,ru⟩:=rv.get (Ak hi)
  obtain⟨v,hv,rvv⟩:=rv2.get (Ak hj)
  refine wpAny_pyNext_zip_item D h1 h2 h3 h4 h5 pl.isList pl2.isList (x:=u) (y:=v) (by simpa using hu) (by simpa using hv) fun h' a1 a2 a3 a4 a5 a6 hk=>?_
  refine⟨_,rfl,wpAny_letOwnedTupleGo_zip a1 fun h'' z' sb=>?_⟩
  have hfr:H s.heap.objs.size=none:=I.hok.fresh (Aj _)
  have ltz:z < s.heap.objs.size:=Ap h1
  have ltO:TO < s.heap.objs.size:=Ap h3
  have lt1:i1 < s.heap.objs.size:=by obtain⟨_,e,_⟩:=h4;exact Ap e
  have lt2:i2 < s.heap.objs.size:=by obtain⟨_,e,_⟩:=h5;exact Ap e
  have keep2:∀ q o,q∉[z,TI,TO,i1,i2]->s.heap.get? q=some o->h''.get? q=some o:=fun q o hq e=>by
   simp only[Ax,Cp,or_false,not_or] at hq
   exact(sb.2 q hq.1).trans (hk q o hq.1 hq.2.2.1 hq.2.2.2.1 hq.2.2.2.2 e)
  have hp2:Hg h'' s.heap.objs.size u v:=(sb.2 _ (Ct ltz)).trans a5
  have nfp:∀ q∈[z,TI,TO,i1,i2],H q=none:=fun q hq=>(hf q hq).1
  have I1:Inv X pins σ (aQ H s.heap.objs.size (.tup [xs[i],ys[i]])) {s with heap:=h''}:=by
   refine I.step (g':=s.gens) (d':=s.drawn) (t':=s.toks) (ch:=[z,TI,TO,i1,i2]) (fun q hq=>⟨(hf q hq).2.2.2.1,(hf q hq).2.1,(hf q hq).2.2.2.2.1,(hf q hq).2.2.2.2.2⟩)
    (fun q o _ _ hc e _=>keep2 q o hc e) (fun q o _ _ hc e _=>⟨o.slots,keep2 q o hc e⟩) (fun q o _ e n=>by rw[bH (Be (Ap e))];exact n)
    (fun q o hc e=>⟨o,keep2 q o hc e⟩) (fun q zs e=>by rw[bH (d7 e hfr)];exact e) (fun q o zs e=>by rw[bH (d7 e hfr)];exact e) (fun q ps e=>⟨#[],by rw[bH (d7 e hfr),e];simp⟩) (fun m hm=>?_) ?_ I.bare
   ·obtain⟨o,es,ep,ho,r⟩:=hm
    exact⟨o,es,ep,keep2 _ o (fun z=>absurd rfl (hf _ z).2.1) ho,r⟩
   ·intro q o e
    by_cases hq:q=s.heap.objs.size
    ·subst hq
     rw[cU] at e;cases e
     exact⟨by show 2<=Am;decide,[u,v],.cons ru (.cons rvv .nil),⟨_,hp2,rfl,_,rfl⟩⟩
    ·rw[bH hq] at e
     refine(I.hok q o e).stay (fun t w' ht qq=>keep2 t w' (fun z=>?_) qq) (fun t qq=>by rw[bH (d7 qq hfr)];exact qq) fun t zs qq=>by rw[bH (d7 qq hfr)];exact qq
     have n0:=nfp t z
     rcases ht with rfl | ht
     ·rw[n0] at e;cases e
     ·rw[n0] at ht;cases ht
  refine⟨.ref s.heap.objs.size,_,I1,rfl,⟨s.heap.objs.size,xs[i],ys[i],Ak hi,Ak hj,hfr,rfl,rfl⟩,⟨z',(sb.2 _ D.TIz).trans (hk _ _ D.TIz D.TITO D.TIi1 D.TIi2 h2),⟨u,v,(sb.2 _ D.TOz).trans a2⟩,a3.extBut sb.extBut D.i1z,a4.extBut sb.extBut D.i2z⟩,fun q hq=>?_⟩
  rw[bH]
  ·exact nfp q hq
  ·intro e
   subst e
   have:H s.heap.objs.size=none:=hfr
   simp only[Ax,Cp,or_false] at hq
   have ltI:TI < s.heap.objs.size:=Ap h2
   rcases hq with e | e | e | e | e
   ·exact Ct ltz e
   ·exact Ct ltI e
   ·exact Ct ltO e
   ·exact Ct lt1 e
   ·exact Ct lt2 e
 done:=by
  intro X hP hw hK hc i pins s σ H E I hf st hg
  subst hP hw hK
  obtain⟨h1,h2,⟨c,d,h3⟩,h4,h5⟩:=st
  obtain⟨hqa,hqb,hij⟩:=hg
  obtain⟨its,rv,pl,hz⟩:=I.list hqa
  obtain⟨its2,rv2,pl2,hz2⟩:=I.list hqb
  have l1:=rv.length
  have l2:=rv2.length
  refine wpAny_pyNext_zip_end (I.ok.hd hc) D h1 h2 h3 h4 h5 pl.isList pl2.isList (hij.elim (fun q=>.inl (by simp;lia)) fun q=>.inr (by simp;lia)) fun h' hk=>⟨rfl,?_⟩
  have keep2:∀ q o,q∉[z,TI,TO,i1,i2]->s.heap.get? q=some o->h'.get? q=some o:=fun q o hq e=>by
   simp only[Ax,Cp,or_false,not_or] at hq
   exact hk q o hq.1 hq.2.2.1 hq.2.2.2.1 hq.2.2.2.2 e
  have nfp:∀ q∈[z,TI,TO,i1,i2],H q=none:=fun q hq=>(hf q hq).1
  refine I.step (g':=s.gens) (d':=s.drawn) (t':=s.toks) (ch:=[z,TI,TO,i1,i2]) (fun q hq=>⟨(hf q hq).2.2.2.1,(hf q hq).2.1,(hf q hq).2.2.2.2.1,(hf q hq).2.2.2.2.2⟩)
    (fun q o _ _ hc e _=>keep2 q o hc e) (fun q o _ _ hc e _=>⟨o.slots,keep2 q o hc e⟩) (fun q o _ e n=>n)
    (fun q o hc e=>⟨o,keep2 q o hc e⟩) (fun q zs e=>e) (fun q o zs e=>e) (fun q ps e=>⟨#[],by rw[e];simp⟩) (fun m hm=>?_) ?_ I.bare
  ·obtain⟨o,es,ep,ho,r⟩:=hm
   exact⟨o,es,ep,keep2 _ o (fun z=>absurd rfl (hf _ z).2.1) ho,r⟩
  ·intro q o e
   refine(I.hok q o e).stay (fun t w' ht qq=>keep2 t w' (fun z=>?_) qq) (fun t qq=>qq) fun t zs qq=>qq
   have n0:=nfp t z
   rcases ht with rfl | ht
   ·rw[n0] at e;cases e
   ·rw[n0] at ht;cases ht
 self:=fun _ _ _ _ _ st h=>Mg st.1 h
theorem R0:Co "zip" = some (.type "zip"):=by decide +kernel
end
section
variable {X:Cx}
def vQ(K:Ac)(a:Addr)(xs:List V):It:=
 ⟨fun i H=>bF K H a xs/\i < xs.length,
   fun i H x H'=>∃ p u,xs[i]? = some u/\H p=none/\x=.ref p/\H'=aQ H p (.tup [.int (i:Nat),u]),
   fun i H=>bF K H a xs/\xs.length<=i⟩
theorem Inv.laidT{pins:List (Addr×Obj)}{σ:St}{H:Hp}{s:Ah}{fp:List Addr}{h'':Heap}{tk:Nat}{xs:List V}{its:List Ae}(I:Inv X pins σ H s)(hf:∀ b∈fp,gM X pins H b)
  (keep2:∀ q o,q∉fp->s.heap.get? q=some o->h''.get? q=some o) (hz:xs.length<=Am) (rv:aZ xs its) (hp2:h''.get? s.heap.objs.size=some {cls:=.type "tuple",data:=.seq its.toArray}) :
  Inv X pins σ (aQ H s.heap.objs.size (.tup xs)) {s with heap:=h'',toks:=tk}:=by
 have hfr:H s.heap.objs.size=none:=I.hok.fresh (Aj _)
 have nfp:∀ q∈fp,H q=none:=fun q hq=>(hf q hq).1
 refine I.step (g':=s.gens) (d':=s.drawn) (t':=tk) (ch:=fp) (fun q hq=>⟨(hf q hq).2.2.2.1,(hf q hq).2.1,(hf q hq).2.2.2.2.1,(hf q hq).2.2.2.2.2⟩)
  (fun q o _ _ hc e _=>keep2 q o hc e) (fun q o _ _ hc e _=>⟨o.slots,keep2 q o hc e⟩) (fun q o _ e n=>by rw[bH (Be (Ap e))];exact n)
  (fun q o hc e=>⟨o,keep2 q o hc e⟩) (fun q zs e=>by rw[bH (d7 e hfr)];exact e) (fun q o zs e=>by rw[bH (d7 e hfr)];exact e) (fun q ps e=>⟨#[],by rw[bH (d7 e hfr),e];simp⟩) (fun m hm=>?_) ?_ I.bare
 ·obtain⟨o,es,ep,ho,r⟩:=hm
  exact⟨o,es,ep,keep2 _ o (fun z=>absurd rfl (hf _ z).2.1) ho,r⟩
 ·intro q o e
  by_cases hq:q=s.heap.objs.size
  ·subst hq
   rw[cU] at e;cases e
   exact⟨hz,its,rv,⟨_,hp2,rfl,_,rfl⟩⟩
  ·rw[bH hq] at e
   refine(I.hok q o e).stay (fun t w' ht qq=>keep2 t w' (fun z=>?_) qq) (fun t qq=>by rw[bH (d7 qq hfr)];exact qq) fun t zs qq=>by rw[bH (d7 qq hfr)];exact qq
   have n0:=nfp t z
   rcases ht with rfl | ht
   ·rw[n0] at e;cases e
   ·rw[n0] at ht;cases ht
theorem Inv.turnedT{pins:List (Addr×Obj)}{σ:St}{H:Hp}{s:Ah}{fp:List Addr}{h'':Heap}{tk:Nat}(I:Inv X pins σ H s)(hf:∀ b∈fp,gM X pins H b)
  (keep2:∀ q o,q∉fp->s.heap.get? q=some o->h''.get? q=some o):Inv X pins σ H {s with heap:=h'',toks:=tk}:=by
 have nfp:∀ q∈fp,H q=none:=fun q hq=>(hf q hq).1
 refine I.step (g':=s.gens) (d':=s.drawn) (t':=tk) (ch:=fp) (fun q hq=>⟨(hf q hq).2.2.2.1,(hf q hq).2.1,(hf q hq).2.2.2.2.1,(hf q hq).2.2.2.2.2⟩)
   (fun q o _ _ hc e _=>keep2 q o hc e) (fun q o _ _ hc e _=>⟨o.slots,keep2 q o hc e⟩) (fun q o _ e n=>n)
   (fun q o hc e=>⟨o,keep2 q o hc e⟩) (fun q zs e=>e) (fun q o zs e=>e) (fun q ps e=>⟨#[],by rw[e];simp⟩) (fun m hm=>?_) ?_ I.bare
 ·obtain⟨o,es,ep,ho,r⟩:=hm
  exact⟨o,es,ep,keep2 _ o (fun z=>absurd rfl (hf _ z).2.1) ho,r⟩
 ·intro q o e
  refine(I.hok q o e).stay (fun t w' ht qq=>keep2 t w' (fun z=>?_) qq) (fun t qq=>qq) fun t zs qq=>qq
  have n0:=nfp t z
  rcases ht with rfl | ht
  ·rw[n0] at e;cases e
  ·rw[n0] at ht;cases ht
theorem R1{P:Bo}{w:Ce}{K:Ac}{es:List Expr}{kx:Nat}{px:Pos}(a e it:Addr)(xs:List V)(hne:e≠it) :
  iX P w K (.Tuple es kx px) (vQ K a xs) [e,it] e (fun i h=>(∃ old,IsEnum h e it (i:Nat) old)/\h.IsListIter it a i) where
 mem:=by simp
 obj:=fun i h st c hc=>by
  obtain⟨⟨old,h1⟩,⟨o4,h4,_,h4d⟩⟩:=st
  simp only[Ax,Cp,or_false] at hc
  rcases hc with rfl | rfl
  ·exact⟨_,h1,fun v q=>by cases q⟩
  ·exact⟨_,h4,fun v q=>by rw[h4d] at q;cases q⟩
 keep:=fun i h h' st k=>by
  obtain⟨⟨old,h1⟩,⟨o4,h4,r4⟩⟩:=st
  exact⟨⟨old,k e (by simp) _ h1⟩,⟨o4,k it (by simp) _ h4,r4⟩⟩
 item:=by
  intro X hP hw hK hc i pins s σ H E I hf st hg
  subst hP hw hK
  obtain⟨⟨old,h1⟩,h4⟩:=st
  obtain⟨hqa,hi⟩:=hg
  obtain⟨its,rv,pl,hz⟩:=I.list hqa
  obtain⟨u,hu,ru⟩:=rv.get (Ak hi)
  refine wpAny_pyNext_enum_item h1 h4 pl.isList (x:=u) (by simpa using hu) hne fun h' a1 a2 a3 a4 hk=>?_
  refine⟨_,rfl,wpAny_letOwnedTupleGo_enum a1 fun h'' e' sb=>?_⟩
  have hfr:H s.heap.objs.size=none:=I.hok.fresh (Aj _)
  have lte:e < s.heap.objs.size:=Ap h1
  have lti:it < s.heap.objs.size:=by obtain⟨_,q,_⟩:=h4;exact Ap q
  have keep2:∀ q o,q∉[e,it]->s.heap.get? q=some o->h''.get? q=some o:=fun q o hq eq=>by
   simp only[Ax,Cp,or_false,not_or] at hq
   exact(sb.2 q hq.1).trans (hk q o hq.1 hq.2 eq)
  have hp2:h''.get? s.heap.objs.size=some {cls:=.type "tuple",data:=.seq [.int (i:Nat) s.toks,u].toArray}:=(sb.2 _ (Ct lte)).trans a3
  have I1:Inv X pins σ (aQ H s.heap.objs.size (.tup [.int (i:Nat),xs[i]])) {s with heap:=h'',toks:=s.toks + 1}:=I.laidT (its:=[.int (i:Nat) s.toks,u]) hf keep2 (by show 2<=Am;decide) (.cons ⟨_,rfl⟩ (.cons ru .nil)) hp2
  refine⟨.ref s.heap.objs.size,_,I1,rfl,⟨s.heap.objs.size,xs[i],Ak hi,hfr,rfl,rfl⟩,⟨⟨u,by rw[Int.natCast_add];exact e'⟩,a2.extBut sb.extBut hne.symm⟩,fun q hq=>?_⟩
  rw[bH]
  ·exact(hf q hq).1
  ·intro eq
   subst eq
   simp only[Ax,Cp,or_false] at hq
   rcases hq with q | q
   ·exact Ct lte q
   ·exact Ct lti q
 done:=by
  intro X hP hw hK hc i pins s σ H E I hf st hg
  subst hP hw hK
  obtain⟨⟨old,h1⟩,h4⟩:=st
  obtain⟨hqa,hij⟩:=hg
  obtain⟨its,rv,pl,hz⟩:=I.list hqa
  have l1:=rv.length
  refine wpAny_pyNext_enum_end (I.ok.hd hc) h1 h4 pl.isList (by simp;lia) fun h' hk=>⟨rfl,?_⟩
  exact I.turnedT (tk:=s.toks) hf fun q o hq eq=>hk q o (fun z=>hq (by simp[z])) eq
 self:=fun _ _ _ _ _ st h=>by
  obtain⟨⟨old,h1⟩,_⟩:=st
  exact Lw h1 h
def R4(K:Ac)(ta:TA):TI:=fun σ H R=>ta σ H fun vs H1=>∃ a xs,vs=[.ref a]/\bF K H1 a xs/\R (vQ K a xs) H1
theorem R5{a:Expr}{ta:TA}{p pos:Pos}{es:List Expr}{kx:Nat}{px:Pos}(hg:Gl X "enumerate")(hm:X.mg "enumerate" = none)(ha:PA X [a] ta)(hs:Bh [a] X.env=[(false,eval a X.env)]:=by rfl) :
  PI X (.Tuple es kx px) (.Call (.Name "enumerate" p) [a] [] pos) (R4 X.K ta):=by
 intro pins s σ H R I h
 refine Call_ (iC I hg hm boot_enumerate (Cu (a9 (ha pos pins s σ H _ I h) fun us s1 ⟨vs,H1,I1,r1,q1⟩=>?_) hs rfl))
 obtain⟨a,xs,rfl,hqa,q⟩:=q1
 obtain⟨u,rfl,ru⟩:=vals1 r1
 cases ru
 obtain⟨its,rv1,pl,hz⟩:=I1.list hqa
 refine call_enumerate_list pl.isList fun h' g1 g2 g3 k=>?_
 refine Lw g1 ?_
 refine⟨s1.heap.objs.size + 1,[s1.heap.objs.size + 1,s1.heap.objs.size],_,_,H1,rfl,I1.kept (t':=s1.toks) k,R1 a _ _ xs (rP 1 (by decide)),⟨⟨_,g1⟩,g2⟩,fun q hq=>?_,q⟩
 have hge:s1.heap.objs.size<=q:=by
  simp only[Ax,Cp,or_false] at hq
  rcases hq with e | e
  ·rw[e];exact EO 1
  ·rw[e];exact Aj _
 exact I1.fpOk hge (I1.hok.fresh hge)
end
abbrev zfa:=aE×List aE
end L2
namespace L2
open PySem PySem.Spec PySem.W PyProof.Rows
section
variable {prog:Bo}{w:Ce}{A:Ck}{E:Ae->Ah->Prop}{s:Ah}
theorem R6{it d:Addr}{i ep:Nat}{es:Array Ib}{od:Obj}{Q:Option Ae->Ah->Prop}(hit:s.heap.IsKeyIter it d i es.size ep)(hod:s.heap.get? d=some od)(hdd:od.data=.dict es ep)(hi:i < es.size)
  (hQ:∀ h',h'.IsKeyIter it d (i + 1) es.size ep->Dn it s.heap h'->Q (some es[i].key) {s with heap:=h'}):Ba (Bj prog w) A (Hh (.ref it)) Q E s:=by
 have hT:=hit.typeIs
 obtain⟨o,ho,hc,hd⟩:=id hit
 have own:Builtin.Dict_items.ownsTuple "dict_keyiterator" = false:=by decide
 have nn:¬ ((Value.ref d == Value.none)=true):=Ar
 have up:(s.heap.update it (Ei (·.setIfInBounds 1 (Fs ((i:Int) + 1))))).IsKeyIter it d (i + 1) es.size ep:=
  ⟨_,Er _ ho (Mj (Hi hd _)),(Obj.cls_mapFields ..).trans hc,by rw[Hi hd];simp[Fs]⟩
 have uT:=up.typeIs (s:={s with heap:=s.heap.update it (Ei (·.setIfInBounds 1 (Fs ((i:Int) + 1))))})
 unfold Hh
 refine Aa (Kq (Dv (name:=Cs "__next__") hT Es (Dh Es hT PySem.F.entry_dict_keyiterator_next ?_ (PySem.F.args_dict_keyiterator_next_1 _))))
 refine Aa (Ag (Aa (Aa ?_)))
 first | refine Aa (Hn hT (Ag ?_)) | refine Aa (Jk hT (Ag ?_))
 refine Aa (Ng ho hd ?_)
 rw[own,if_neg Ar]
 show Ba _ _ (if (Value.ref d == Value.none)=true then _ else _) _ _ _
 rw[if_neg nn]
 refine Aa (Ag (Aa (Ii hod hdd ?_)))
 rw[if_neg (by simp)]
 refine Aa (Ag (Aa (wpAny_dictEpoch hod hdd ?_)))
 rw[if_neg (by simp)]
 refine Ag ?_
 simp only[show ¬ ((i:Int) < 0) by omega,if_false,Bz,Array.getElem?_eq_getElem hi]
 refine Aa ?_
 first | refine Aa (Hn hT (Ag ?_)) | refine Aa (Jk hT (Ag ?_))
 refine Aa (wpAny_isOneOf_keyiter hT ?_)
 show Ba _ _ (setField (.ref it) 1 (Fs ((i:Int) + 1)) >>= _) _ _ _
 refine Aa (Ek ho hd (by simp) (Aa (Cq (Aa (wpAny_isOneOf_keyiter uT ?_)))))
 show Ba _ _ (pure es[i].key) _ _ _
 exact Ag (Ag ⟨_,rfl,Ag (hQ _ up (Bt ..))⟩)
theorem R7{it d:Addr}{i ep:Nat}{es:Array Ib}{od:Obj}{Q:Option Ae->Ah->Prop}(hh:A.handled=none)(hit:s.heap.IsKeyIter it d i es.size ep)(hod:s.heap.get? d=some od)(hdd:od.data=.dict es ep)(hi:es.size<=i)
  (hQ:∀ h',Heap.ExtBut it s.heap h'->Q none {s with heap:=h'}):Ba (Bj prog w) A (Hh (.ref it)) Q E s:=by
 have hT:=hit.typeIs
 obtain⟨o,ho,hc,hd⟩:=id hit
 have own:Builtin.Dict_items.ownsTuple "dict_keyiterator" = false:=by decide
 have nn:¬ ((Value.ref d == Value.none)=true):=Ar
 unfold Hh
 refine Aa (Kq (Dv (name:=Cs "__next__") hT Es (Dh Es hT PySem.F.entry_dict_keyiterator_next ?_ (PySem.F.args_dict_keyiterator_next_1 _))))
 refine Aa (Ag (Aa (Aa ?_)))
 first | refine Aa (Hn hT (Ag ?_)) | refine Aa (Jk hT (Ag ?_))
 refine Aa (Ng ho hd ?_)
 rw[own,if_neg Ar]
 show Ba _ _ (if (Value.ref d == Value.none)=true then _ else _) _ _ _
 rw[if_neg nn]
 refine Aa (Ag (Aa (Ii hod hdd ?_)))
 rw[if_neg (by simp)]
 refine Aa (Ag (Aa (wpAny_dictEpoch hod hdd ?_)))
 rw[if_neg (by simp)]
 refine Ag ?_
 simp only[show ¬ ((i:Int) < 0) by omega,if_false,Bz,Array.getElem?_eq_none hi]
 refine Aa ?_
 first | refine Aa (Hn hT (Ag ?_)) | refine Aa (Jk hT (Ag ?_))
 show Ba _ _ (setField (.ref it) 0 .none >>= _) _ _ _
 refine Aa (Ek ho hd (by simp) ?_)
 show Ba _ _ (newExc (.type "StopIteration") [] >>= _) _ _ _
 refine Aa ?_
 simp only[newExc,newTuple]
 refine Aa (Cy (Aa (m:=Ka _ _) (wpAny_of_eq (a:=Value.none) (by first | rfl | (simp only[Ka];rfl)) (Cy ?_ (by size_fits)))) (by size_fits))
 simp only[raiseNew]
 refine Aa (wpAny_handled ?_)
 rw[show A.in1.handled=none from hh]
 refine Aa (Ag (wpAny_throw ?_))
 refine Aa (Ja (T:="StopIteration") (b:=true) ⟨_,Au _ rfl,rfl⟩ isSubtype_stop ?_)
 exact Ag (hQ _ (((Bt ..).extBut.push _).push _))
def pB(h:Heap)(a:Addr)(es:Array Ib)(ep:Nat):Prop:=∃ o,h.get? a=some o/\o.ExactDict/\o.data=.dict es ep
theorem pB.typeIs{d:Addr}{es:Array Ib}{ep:Nat}(h:pB s.heap d es ep):s.TypeIs (.ref d) "dict":=let ⟨o,ho,hc,_⟩:=h;⟨o,ho,hc.1⟩
theorem ER{d:Addr}{es:Array Ib}{ep:Nat}{Q:Ae->Ah->Prop}(hd:(d == Gb)=false)(hm:pB s.heap d es ep)
  (hQ:Q (.ref s.heap.objs.size) {s with heap:=s.heap.push {cls:=.type "dict_keyiterator",data:=.fields #[.ref d,.int 0 0,.int es.size 0,.int ep 0]}}):Ba (Bj prog w) A (Nh (.ref d)) Q E s:=by
 have hT:=hm.typeIs
 obtain⟨o,ho,hc,hdat⟩:=hm
 refine wpAny_pyIter_slot hT PySem.F.slot_dict_iter (Dh PySem.F.slot_dict_iter hT PySem.F.entry_dict_iter ?_ (PySem.F.args_dict_iter_1 _))
 unfold Ha.«dict.__iter__»
 refine Aa ?_
 unfold Builtin.Dict.dictSlotNone
 refine Aa (Ic hT (Ag ?_))
 show Ba _ _ (Builtin.Dict.showsAll d >>= _) _ _ _
 unfold Builtin.Dict.showsAll
 rw[if_neg (by rw[hd];exact Ar)]
 refine Aa (Ag (Aa (Ii ho hdat (Aa (wpAny_dictEpoch ho hdat ?_)))))
 refine Aa (Cy (Ag ⟨_,rfl,"dict_keyiterator",_,⟨_,Au _ rfl,rfl⟩,Es.lookup,?_⟩))
 simpa [Fs] using hQ
end
end L2
namespace PySem
namespace Zt
open PyProof.Rows L2 PySem.Spec
section
variable {prog:Bo}{w:Ce}{A:Ck}{E:Ae->Ah->Prop}{s:Ah}
theorem R8{α:Type}{Q:α->Ah->Prop}(hh:A.handled=none)(hE:∀ h' e,(∀ c o,s.heap.get? c=some o->h'.get? c=some o)->(∃ o,h'.get? e=some o/\o.cls=.type "StopIteration")->E (.ref e) {s with heap:=h'}) :
  Ba (Bj prog w) A (Builtin.SmallTypes.stopIteration:Sem α) Q E s:=by
 unfold Builtin.SmallTypes.stopIteration
 refine Aa (m:=newExc (.type "StopIteration") []) ?_
 simp only[newExc,newTuple]
 refine Aa (Cy (Aa (m:=Ka _ _) (wpAny_of_eq (a:=Value.none) (by first | rfl | (simp only[Ka];rfl)) (Cy ?_ (by size_fits)))) (by size_fits))
 simp only[raiseNew]
 refine Aa (wpAny_handled ?_)
 rw[hh]
 refine Aa (Ag (wpAny_throw (hE _ _ (fun c o e=>Af _ (Af _ e)) ⟨_,Au _ rfl,rfl⟩)))
structure kD(prog:Bo)(w:Ce)(i l:Addr)(xs:Array Ae)(St:Nat->Heap->Prop):Prop where
 keep:∀ k h h',St k h->(∀ c,c=i\/c=l->∀ o,h.get? c=some o->h'.get? c=some o)->St k h'
 there:∀ k h,St k h->i < h.objs.size
 item:∀ (A:Ck) (E:Ae->Ah->Prop) (s:Ah) (k:Nat) (x:Ae) (Q:Ae->Ah->Prop),St k s.heap->xs[k]? = some x->(∀ h',St (k + 1) h'->Dn i s.heap h'->Q x {s with heap:=h'})->
  Ba (Bj prog w) A (Dq (.ref i)) Q E s
 stop:∀ (A:Ck) (E:Ae->Ah->Prop) (s:Ah) (k:Nat) (Q:Ae->Ah->Prop),A.handled=none->St k s.heap->xs[k]? = none->
  (∀ h' e,Heap.ExtBut i s.heap h'->(∃ o,h'.get? e=some o/\o.cls=.type "StopIteration")->E (.ref e) {s with heap:=h'})->Ba (Bj prog w) A (Dq (.ref i)) Q E s
theorem side_tuple(i l:Addr)(hne:l≠i)(xs:Array Ae):kD prog w i l xs (fun k h=>h.IsTupleIter i l k/\h.IsTuple l xs) where
 keep:=fun k h h' x hk=>by
  obtain⟨⟨o,e,r⟩,⟨u,g,q⟩⟩:=x
  exact⟨⟨o,hk i (.inl rfl) o e,r⟩,⟨u,hk l (.inr rfl) u g,q⟩⟩
 there:=fun k h x=>by obtain⟨_,e,_⟩:=x.1;exact Ap e
 item:=fun A E s k x Q st hx hQ=>by
  obtain⟨⟨o,ho,hc,hd⟩,⟨u,hu,hcu,n,hdu⟩⟩:=st
  have ty:s.TypeIs (.ref i) "tuple_iterator":=⟨o,ho,hc⟩
  unfold Dq
  refine Aa (Dv (name:=Cs "__next__") ty Ip (Dh Ip ty F.entry_tuple_iterator_next ?_ (F.args_tuple_iterator_next_1 _)))
  show Ba _ _ (field (.ref i) 0 >>= fun q=>_) _ _ _
  refine Aa (Ez ho hd (x:=.ref l) rfl ?_)
  show Ba _ _ (if (Value.ref l == Value.none)=true then _ else _) _ _ s
  rw[if_neg (show ¬ (Value.ref l == Value.none)=true from fun z=>nomatch z)]
  show Ba _ _ (field (.ref i) 1 >>= fun q=>_) _ _ _
  refine Aa (Ez ho hd (x:=.int k 0) rfl ?_)
  show Ba _ _ (seqItems? (.ref l) >>= fun q=>_) _ _ _
  refine Aa (Fv hu hdu ?_)
  simp only[Bz,hx]
  refine Aa (Ek ho hd (by simp) (Ag ⟨x,rfl,Ag (hQ _ ⟨⟨_,Er _ ho (Mj (Hi hd _)),(Obj.cls_mapFields ..).trans hc,?_⟩,⟨u,?_,hcu,n,hdu⟩⟩ (Bt ..))⟩))
  ·rw[Hi hd];simp[Fs]
  ·exact(Fz _ _ (Bp hne)).trans hu
 stop:=fun A E s k Q hh st hx hE=>by
  obtain⟨⟨o,ho,hc,hd⟩,⟨u,hu,hcu,n,hdu⟩⟩:=st
  have ty:s.TypeIs (.ref i) "tuple_iterator":=⟨o,ho,hc⟩
  unfold Dq
  refine Aa (Dv (name:=Cs "__next__") ty Ip (Dh Ip ty F.entry_tuple_iterator_next ?_ (F.args_tuple_iterator_next_1 _)))
  show Ba _ _ (field (.ref i) 0 >>= fun q=>_) _ _ _
  refine Aa (Ez ho hd (x:=.ref l) rfl ?_)
  show Ba _ _ (if (Value.ref l == Value.none)=true then _ else _) _ _ s
  rw[if_neg (show ¬ (Value.ref l == Value.none)=true from fun z=>nomatch z)]
  show Ba _ _ (field (.ref i) 1 >>= fun q=>_) _ _ _
  refine Aa (Ez ho hd (x:=.int k 0) rfl ?_)
  show Ba _ _ (seqItems? (.ref l) >>= fun q=>_) _ _ _
  refine Aa (Fv hu hdu ?_)
  simp only[Bz,hx]
  refine Aa (Ga (Aa (Ek ho hd (by simp) (R8 hh fun h' e hk he=>hE h' e (fun c q hc' g=>hk c q ((Fz _ _ (Bp hc')).trans g)) he))))
structure Apart(z TI TO i1 i2 l1 l2:Addr):Prop where
 nd : [z,TI,TO,i1,i2].Nodup
 a:l1≠z/\l1≠TI/\l1≠TO/\l1≠i1/\l1≠i2
 b:l2≠z/\l2≠TI/\l2≠TO/\l2≠i1/\l2≠i2
variable {z TI TO i1 i2 l1 l2:Addr}{xs ys:Array Ae}{S1 S2:Nat->Heap->Prop}
theorem item{k:Nat}{x y a b:Ae}{Q:Ae->Ah->Prop}(D:Apart z TI TO i1 i2 l1 l2)(W1:kD prog w i1 l1 xs S1)(W2:kD prog w i2 l2 ys S2)(hz:Ni s.heap z TI TO .none)(hI:Hg s.heap TI (.ref i1) (.ref i2))(hO:Hg s.heap TO a b)
  (h1:S1 k s.heap) (h2:S2 k s.heap) (hx:xs[k]? = some x) (hy:ys[k]? = some y)
  (hQ:∀ h',Ni h' z TI TO (Fs s.heap.objs.size)->Hg h' TO x y->S1 (k + 1) h'->S2 (k + 1) h'->Hg h' s.heap.objs.size x y->(∀ c o,c≠z->c≠TO->c≠i1->c≠i2->s.heap.get? c=some o->h'.get? c=some o)->Q (.ref s.heap.objs.size) {s with heap:=h'}) :
  Ba (Bj prog w) A (Ha.«zip.__next__» ⟨[.ref z],[]⟩) (fun fin s'=>∃ v,fin=.done (.ret v)/\Q v s') E s:=by
 have nd:=D.nd
 simp only[Dg,Ax,Ej,or_false,not_or,not_false_eq_true,Fq,and_true] at nd
 obtain⟨⟨zI,zO,z1,z2⟩,⟨IO,I1,I2⟩,⟨O1,O2⟩,n12⟩:=nd
 obtain⟨az,aI,aO,a1,a2⟩:=D.a
 obtain⟨bz,bI,bO,b1,b2⟩:=D.b
 show Ba _ _ (field (.ref z) 2 >>= fun q=>_) _ _ _
 refine Aa (Ez hz rfl (x:=.bool false) rfl ?_)
 show Ba _ _ (field (.ref z) 3 >>= fun q=>_) _ _ _
 refine Aa (Ez hz rfl (x:=.ref TI) rfl (Aa (Fv hI rfl ?_)))
 show Ba _ _ (Fl (.ref z) >>= fun q=>_) _ _ _
 refine Aa ?_
 unfold Fl
 refine Aa (Ez hz rfl (x:=.none) rfl (Ag ?_))
 simp only[if_true]
 refine Aa (Ga (Aa (Ez hz rfl (x:=.ref TO) rfl (Aa (Hq hz (by simp) fun g1 q1 s1=>Aa ?_)))))
 simp only[Jx,List.zipIdx_nil,Mc,List.forIn_nil]
 have k1:∀ c,c=i1\/c=l1->c≠z/\c≠TO/\c≠i2:=fun c hc=>by
  rcases hc with rfl | rfl
  ·exact⟨Bp z1,Bp O1,n12⟩
  ·exact⟨az,aO,a2⟩
 have k2:∀ c,c=i2\/c=l2->c≠z/\c≠TO/\c≠i1:=fun c hc=>by
  rcases hc with rfl | rfl
  ·exact⟨Bp z2,Bp O2,Bp n12⟩
  ·exact⟨bz,bO,b1⟩
 refine Aa (Aa (Np ?_))
 show Ba _ _ (Dq (.ref i1) >>= fun q=>_) _ _ _
 refine Aa (W1.item _ _ {s with heap:=g1} k x _ (W1.keep k _ _ h1 fun c hc o e=>s1.extBut c o (k1 c hc).1 e) hx fun g2 t2 s2=>Ag ?_)
 have o2:Hg g2 TO a b:=s2.extBut _ _ O1 (s1.extBut _ _ (Bp zO) hO)
 refine Aa (Fv o2 rfl (Aa (Nf o2 fun g3 o3 s3=>Aa (wpAny_letGo (Ag ?_)))))
 replace o3:Hg g3 TO x b:=o3
 refine Aa (Aa (Np ?_))
 show Ba _ _ (Dq (.ref i2) >>= fun q=>_) _ _ _
 refine Aa (W2.item _ _ {s with heap:=g3} k y _ (W2.keep k _ _ h2 fun c hc o e=>s3.extBut c o (k2 c hc).2.1 (s2.extBut c o (k2 c hc).2.2 (s1.extBut c o (k2 c hc).1 e))) hy fun g4 t4 s4=>Ag ?_)
 have o4:Hg g4 TO x b:=s4.extBut _ _ O2 o3
 refine Aa (Fv o4 rfl (Aa (Nf o4 fun g5 o5 s5=>Aa (wpAny_letGo (Ag (Ag ?_))))))
 replace o5:Hg g5 TO x y:=o5
 refine Aa (Fv o5 rfl (Aa (wpAny_newTuple ?_)))
 have size5:g5.objs.size=s.heap.objs.size:=by rw[s5.1,s4.1,s3.1,s2.1,s1.1]
 have z5:Ni g5 z TI TO .ellipsis:=s5.extBut _ _ zO (s4.extBut _ _ z2 (s3.extBut _ _ zO (s2.extBut _ _ z1 q1)))
 have lz:z < g5.objs.size:=Ap z5
 refine Aa (m:=Builtin.SmallTypes.ownedTupleHandOut _ _) ?_
 unfold Builtin.SmallTypes.ownedTupleHandOut
 have z6:Ni (g5.push {cls:=.type "tuple",data:=.seq #[x,y]}) z TI TO .ellipsis:=Af _ z5
 refine Aa (Hq z6 (by simp) fun g7 z7 s7=>Hq z7 (by simp) fun g8 z8 s8=>Ag ⟨_,rfl,?_⟩)
 have up:∀ c o,c≠z->g5.get? c=some o->g8.get? c=some o:=fun c o hc e=>s8.extBut _ _ hc (s7.extBut _ _ hc (Af _ e))
 have t8:Hg g8 g5.objs.size x y:=s8.extBut _ _ (Ct lz) (s7.extBut _ _ (Ct lz) (Au _ rfl))
 have r1:S1 (k + 1) g8:=W1.keep _ _ _ t2 fun c hc o e=>up c o (k1 c hc).1 (s5.extBut _ _ (k1 c hc).2.1 (s4.extBut _ _ (k1 c hc).2.2 (s3.extBut _ _ (k1 c hc).2.1 e)))
 have r2:S2 (k + 1) g8:=W2.keep _ _ _ t4 fun c hc o e=>up c o (k2 c hc).1 (s5.extBut _ _ (k2 c hc).2.1 e)
 show Q (.ref g5.objs.size) _
 replace z8:Ni g8 z TI TO (Fs g5.objs.size):=z8
 rw[size5] at z8 t8 ⊢
 exact hQ g8 z8 (up _ _ (Bp zO) o5) r1 r2 t8 fun c o c1 c2 c3 c4 e=>up c o c1 (s5.extBut _ _ c2 (s4.extBut _ _ c4 (s3.extBut _ _ c2 (s2.extBut _ _ c3 (s1.extBut _ _ c1 e)))))
theorem stop{k:Nat}{a b:Ae}{Q:Fin->Ah->Prop}(hh:A.handled=none)(D:Apart z TI TO i1 i2 l1 l2)(W1:kD prog w i1 l1 xs S1)(W2:kD prog w i2 l2 ys S2)(hz:Ni s.heap z TI TO .none)(hI:Hg s.heap TI (.ref i1) (.ref i2))(hO:Hg s.heap TO a b)
  (h1:S1 k s.heap) (h2:S2 k s.heap) (hend:xs[k]? = none\/ys[k]? = none)
  (hE:∀ h' e,(∀ c o,c≠z->c≠TO->c≠i1->c≠i2->s.heap.get? c=some o->h'.get? c=some o)->(∃ o,h'.get? e=some o/\o.cls=.type "StopIteration")->E (.ref e) {s with heap:=h'}) :
  Ba (Bj prog w) A (Ha.«zip.__next__» ⟨[.ref z],[]⟩) Q E s:=by
 have nd:=D.nd
 simp only[Dg,Ax,Ej,or_false,not_or,not_false_eq_true,Fq,and_true] at nd
 obtain⟨⟨zI,zO,z1,z2⟩,⟨IO,I1,I2⟩,⟨O1,O2⟩,n12⟩:=nd
 obtain⟨az,aI,aO,a1,a2⟩:=D.a
 obtain⟨bz,bI,bO,b1,b2⟩:=D.b
 have k1:∀ c,c=i1\/c=l1->c≠z:=fun c hc=>by rcases hc with rfl | rfl;exact Bp z1;exact az
 have k2:∀ c,c=i2\/c=l2->c≠z/\c≠TO/\c≠i1:=fun c hc=>by
  rcases hc with rfl | rfl
  ·exact⟨Bp z2,Bp O2,Bp n12⟩
  ·exact⟨bz,bO,b1⟩
 show Ba _ _ (field (.ref z) 2 >>= fun q=>_) _ _ _
 refine Aa (Ez hz rfl (x:=.bool false) rfl ?_)
 show Ba _ _ (field (.ref z) 3 >>= fun q=>_) _ _ _
 refine Aa (Ez hz rfl (x:=.ref TI) rfl (Aa (Fv hI rfl ?_)))
 show Ba _ _ (Fl (.ref z) >>= fun q=>_) _ _ _
 refine Aa ?_
 unfold Fl
 refine Aa (Ez hz rfl (x:=.none) rfl (Ag ?_))
 simp only[if_true]
 refine Aa (Ga (Aa (Ez hz rfl (x:=.ref TO) rfl (Aa (Hq hz (by simp) fun g1 q1 s1=>Aa ?_)))))
 simp only[Jx,List.zipIdx_nil,Mc,List.forIn_nil]
 refine Aa (Aa (Np ?_))
 show Ba _ _ (Dq (.ref i1) >>= fun q=>_) _ _ _
 cases hx:xs[k]? with
 | none=>
  refine Aa (W1.stop _ _ {s with heap:=g1} k _ hh (W1.keep k _ _ h1 fun c hc o e=>s1.extBut c o (k1 c hc) e) hx fun g2 e s2 he=>?_)
  obtain⟨oe,ge,ce⟩:=he
  have q2:Ni g2 z TI TO .ellipsis:=s2 _ _ z1 q1
  have ez:e≠z:=fun u=>by subst u;rw[q2] at ge;cases ge;simp at ce
  exact Hq q2 (by simp) fun g3 _ s3=>hE g3 e (fun c o c1 _ c3 _ u=>s3.extBut _ _ c1 (s2 _ _ c3 (s1.extBut _ _ c1 u))) ⟨oe,s3.extBut _ _ ez ge,ce⟩
 | some x=>
  have hy:ys[k]? = none:=by rcases hend with h | h;rw[hx] at h;cases h;exact h
  refine Aa (W1.item _ _ {s with heap:=g1} k x _ (W1.keep k _ _ h1 fun c hc o e=>s1.extBut c o (k1 c hc) e) hx fun g2 t2 s2=>Ag ?_)
  have o2:Hg g2 TO a b:=s2.extBut _ _ O1 (s1.extBut _ _ (Bp zO) hO)
  refine Aa (Fv o2 rfl (Aa (Nf o2 fun g3 o3 s3=>Aa (wpAny_letGo (Ag ?_)))))
  refine Aa (Aa (Np ?_))
  show Ba _ _ (Dq (.ref i2) >>= fun q=>_) _ _ _
  refine Aa (W2.stop _ _ {s with heap:=g3} k _ hh (W2.keep k _ _ h2 fun c hc o e=>s3.extBut c o (k2 c hc).2.1 (s2.extBut c o (k2 c hc).2.2 (s1.extBut c o (k2 c hc).1 e))) hy fun g4 e s4 he=>?_)
  obtain⟨oe,ge,ce⟩:=he
  have q4:Ni g4 z TI TO .ellipsis:=s4 _ _ z2 (s3.extBut _ _ zO (s2.extBut _ _ z1 q1))
  have ez:e≠z:=fun u=>by subst u;rw[q4] at ge;cases ge;simp at ce
  exact Hq q4 (by simp) fun g5 _ s5=>hE g5 e (fun c o c1 c2 c3 c4 u=>s5.extBut _ _ c1 (s4 _ _ c4 (s3.extBut _ _ c2 (s2.extBut _ _ c3 (s1.extBut _ _ c1 u))))) ⟨oe,s5.extBut _ _ ez ge,ce⟩
end
end Zt
end PySem
namespace PySem
namespace Zt
open PyProof.Rows L2 PySem.Spec
section
variable {prog:Bo}{w:Ce}{A:Ck}{E:Ae->Ah->Prop}{s:Ah}{z TI TO i1 i2 l1 l2:Addr}{xs ys:Array Ae}{S1 S2:Nat->Heap->Prop}
theorem next_item{k:Nat}{x y a b:Ae}{Q:Option Ae->Ah->Prop}(D:Apart z TI TO i1 i2 l1 l2)(W1:kD prog w i1 l1 xs S1)(W2:kD prog w i2 l2 ys S2)(hz:Ni s.heap z TI TO .none)(hI:Hg s.heap TI (.ref i1) (.ref i2))(hO:Hg s.heap TO a b)
  (h1:S1 k s.heap) (h2:S2 k s.heap) (hx:xs[k]? = some x) (hy:ys[k]? = some y)
  (hQ:∀ h',Ni h' z TI TO (Fs s.heap.objs.size)->Hg h' TO x y->S1 (k + 1) h'->S2 (k + 1) h'->Hg h' s.heap.objs.size x y->(∀ c o,c≠z->c≠TO->c≠i1->c≠i2->s.heap.get? c=some o->h'.get? c=some o)->Q (some (.ref s.heap.objs.size)) {s with heap:=h'}) :
  Ba (Bj prog w) A (Hh (.ref z)) Q E s:=by
 have ty:s.TypeIs (.ref z) "zip":=⟨_,hz,rfl⟩
 unfold Hh
 exact Aa (Kq (Dv (name:=Cs "__next__") ty Ms (Dh Ms ty F.entry_zip_next (item D W1 W2 hz hI hO h1 h2 hx hy fun h' c1 c2 c3 c4 c5 c6=>Ag (hQ h' c1 c2 c3 c4 c5 c6)) (F.args_zip_next_1 _))))
theorem next_stop{k:Nat}{a b:Ae}{Q:Option Ae->Ah->Prop}(hh:A.handled=none)(D:Apart z TI TO i1 i2 l1 l2)(W1:kD prog w i1 l1 xs S1)(W2:kD prog w i2 l2 ys S2)(hz:Ni s.heap z TI TO .none)(hI:Hg s.heap TI (.ref i1) (.ref i2))(hO:Hg s.heap TO a b)
  (h1:S1 k s.heap) (h2:S2 k s.heap) (hend:xs[k]? = none\/ys[k]? = none)
  (hQ:∀ h',(∀ c o,c≠z->c≠TO->c≠i1->c≠i2->s.heap.get? c=some o->h'.get? c=some o)->Q none {s with heap:=h'}):Ba (Bj prog w) A (Hh (.ref z)) Q E s:=by
 have ty:s.TypeIs (.ref z) "zip":=⟨_,hz,rfl⟩
 unfold Hh
 refine Aa (Kq (Dv (name:=Cs "__next__") ty Ms (Dh Ms ty F.entry_zip_next (stop hh D W1 W2 hz hI hO h1 h2 hend fun h' e hk ⟨o,ho,hc⟩=>?_) (F.args_zip_next_1 _))))
 exact Aa (Ja (T:="StopIteration") (b:=true) ⟨o,ho,hc⟩ isSubtype_stop (Ag (hQ _ hk)))
end
abbrev zh1(h:Heap)(a:Addr):Heap:=h.push {cls:=.type "tuple_iterator",data:=.fields #[.ref a,.int 0 0]}
abbrev zh2(h:Heap)(a b:Addr):Heap:=(zh1 h a).push {cls:=.type "tuple_iterator",data:=.fields #[.ref b,.int 0 0]}
abbrev zh3(h:Heap)(a b:Addr):Heap:=(zh2 h a b).push {cls:=.type "tuple",data:=.seq #[.ref h.objs.size,.ref (zh1 h a).objs.size]}
abbrev zh4(h:Heap)(a b:Addr):Heap:=(zh3 h a b).push {cls:=.type "tuple",data:=.seq #[.none,.none]}
abbrev zh5(h:Heap)(a b:Addr):Heap:=(zh4 h a b).push {cls:=.type "zip",data:=.fields #[.none,.bool false,.bool false,.ref (zh2 h a b).objs.size,.ref (zh3 h a b).objs.size]}
theorem meets_new(a b:Addr)(xs ys:Array Ae) :
  Meets (Ha.«zip.__new__» ⟨[.type "zip",.ref a,.ref b],[]⟩) (fun _ R s=>s.heap.IsTuple a xs/\s.heap.IsTuple b ys/\R (.ok (.ret (.ref (zh4 s.heap a b).objs.size))) {s with heap:=zh5 s.heap a b}):=
 .of_wp fun prog w A R s h=>by
  obtain⟨hp,g,d,tk,os⟩:=s;obtain⟨ta,tb,h⟩:=h
  have hsub:=sub_zip
  have T1:Heap.IsTuple (Shared.heap ⟨hp,g,d,tk,os⟩) a xs:=ta
  have T2:Heap.IsTuple (Shared.heap ⟨hp.push {cls:=.type "tuple_iterator",data:=.fields #[.ref a,.int 0 0]},g,d,tk,os⟩) b ys:=by
   obtain⟨o,e,r⟩:=(show hp.IsTuple b ys from tb)
   exact⟨o,Af _ e,r⟩
  wp_walk using Hr T1,Hr T2
  exact⟨_,rfl,h⟩
end Zt
end PySem
namespace L2
open PySem PySem.Spec PyProof.Rows
def rS(K:Ac)(a b:Addr)(xs ys:List V):It:=
 ⟨fun i H=>bN K H a xs/\bN K H b ys/\i < xs.length/\i < ys.length,
   fun i H x H'=>∃ p u v,xs[i]? = some u/\ys[i]? = some v/\H p=none/\x=.ref p/\H'=aQ H p (.tup [u,v]),
   fun i H=>bN K H a xs/\bN K H b ys/\(xs.length<=i\/ys.length<=i)⟩
theorem R9{P:Bo}{w:Ce}{K:Ac}{es:List Expr}{kx:Nat}{px:Pos}(a b z TI TO i1 i2:Addr)(xs ys:List V)(D:Zt.Apart z TI TO i1 i2 a b) :
  iX P w K (.Tuple es kx px) (rS K a b xs ys) [z,TI,TO,i1,i2] z (fun i h=>Ni h z TI TO .none/\Hg h TI (.ref i1) (.ref i2)/\(∃ c d,Hg h TO c d)/\h.IsTupleIter i1 a i/\h.IsTupleIter i2 b i) where
 mem:=by simp
 obj:=fun i h st c hc=>by
  obtain⟨h1,h2,⟨p,q,h3⟩,⟨o4,h4,_,d4⟩,⟨o5,h5,_,d5⟩⟩:=st
  simp only[Ax,Cp,or_false] at hc
  rcases hc with rfl | rfl | rfl | rfl | rfl
  ·exact⟨_,h1,fun v g=>nomatch g⟩
  ·exact⟨_,h2,fun v g=>nomatch g⟩
  ·exact⟨_,h3,fun v g=>nomatch g⟩
  ·exact⟨_,h4,fun v g=>by rw[d4] at g;cases g⟩
  ·exact⟨_,h5,fun v g=>by rw[d5] at g;cases g⟩
 keep:=fun i h h' st k=>by
  obtain⟨h1,h2,⟨p,q,h3⟩,⟨o4,h4,r4⟩,⟨o5,h5,r5⟩⟩:=st
  exact⟨k z (by simp) _ h1,k TI (by simp) _ h2,⟨p,q,k TO (by simp) _ h3⟩,⟨o4,k i1 (by simp) _ h4,r4⟩,⟨o5,k i2 (by simp) _ h5,r5⟩⟩
 item:=by
  intro X hP hw hK hc i pins s σ H E I hf st hg
  subst hP hw hK
  obtain⟨h1,h2,⟨c,d,h3⟩,h4,h5⟩:=st
  obtain⟨hqa,hqb,hi,hj⟩:=hg
  obtain⟨its,rv,pl,hz⟩:=I.tuple hqa
  obtain⟨its2,rv2,pl2,hz2⟩:=I.tuple hqb
  obtain⟨u,hu,ru⟩:=rv.get (Ak hi)
  obtain⟨v,hv,rvv⟩:=rv2.get (Ak hj)
  refine Zt.next_item D (Zt.side_tuple i1 a D.a.2.2.2.1 its.toArray) (Zt.side_tuple i2 b D.b.2.2.2.2 its2.toArray) h1 h2 h3 ⟨h4,pl⟩ ⟨h5,pl2⟩ (x:=u) (y:=v) (by simpa using hu) (by simpa using hv) fun h' c1 c2 c3 c4 c5 hk=>?_
  refine⟨_,rfl,wpAny_letOwnedTupleGo_zip c1 fun h'' z' sb=>?_⟩
  have nd:=D.nd
  simp only[Dg,Ax,Ej,or_false,not_or,not_false_eq_true,Fq,and_true] at nd
  obtain⟨⟨zI,zO,z1,z2⟩,⟨IO,I1',I2'⟩,⟨O1,O2⟩,n12⟩:=nd
  have hfr:H s.heap.objs.size=none:=I.hok.fresh (Aj _)
  have ltz:z < s.heap.objs.size:=Ap h1
  have keep2:∀ q o,q∉[z,TI,TO,i1,i2]->s.heap.get? q=some o->h''.get? q=some o:=fun q o hq e=>by
   simp only[Ax,Cp,or_false,not_or] at hq
   exact(sb.2 q hq.1).trans (hk q o hq.1 hq.2.2.1 hq.2.2.2.1 hq.2.2.2.2 e)
  have hp2:h''.get? s.heap.objs.size=some {cls:=.type "tuple",data:=.seq [u,v].toArray}:=(sb.2 _ (Ct ltz)).trans c5
  have I1:Inv X pins σ (aQ H s.heap.objs.size (.tup [xs[i],ys[i]])) {s with heap:=h'',toks:=s.toks}:=I.laidT (its:=[u,v]) hf keep2 (by show 2<=Am;decide) (.cons ru (.cons rvv .nil)) hp2
  have low:∀ q∈[z,TI,TO,i1,i2],q < s.heap.objs.size:=fun q hq=>by
   simp only[Ax,Cp,or_false] at hq
   rcases hq with rfl | rfl | rfl | rfl | rfl
   ·exact ltz
   ·exact Ap h2
   ·exact Ap h3
   ·obtain⟨_,e,_⟩:=h4;exact Ap e
   ·obtain⟨_,e,_⟩:=h5;exact Ap e
  refine⟨.ref s.heap.objs.size,_,I1,rfl,⟨s.heap.objs.size,xs[i],ys[i],Ak hi,Ak hj,hfr,rfl,rfl⟩,⟨z',(sb.2 _ (Bp zI)).trans (hk _ _ (Bp zI) IO I1' I2' h2),⟨u,v,(sb.2 _ (Bp zO)).trans c2⟩,?_,?_⟩,fun q hq=>?_⟩
  ·obtain⟨o,e,r⟩:=c3.1;exact⟨o,(sb.2 _ (Bp z1)).trans e,r⟩
  ·obtain⟨o,e,r⟩:=c4.1;exact⟨o,(sb.2 _ (Bp z2)).trans e,r⟩
  ·rw[bH (Be (low q hq))];exact(hf q hq).1
 done:=by
  intro X hP hw hK hc i pins s σ H E I hf st hg
  subst hP hw hK
  obtain⟨h1,h2,⟨c,d,h3⟩,h4,h5⟩:=st
  obtain⟨hqa,hqb,hij⟩:=hg
  obtain⟨its,rv,pl,hz⟩:=I.tuple hqa
  obtain⟨its2,rv2,pl2,hz2⟩:=I.tuple hqb
  have l1:=rv.length
  have l2:=rv2.length
  refine Zt.next_stop (I.ok.hd hc) D (Zt.side_tuple i1 a D.a.2.2.2.1 its.toArray) (Zt.side_tuple i2 b D.b.2.2.2.2 its2.toArray) h1 h2 h3 ⟨h4,pl⟩ ⟨h5,pl2⟩ (hij.elim (fun q=>.inl (by simp;lia)) fun q=>.inr (by simp;lia)) fun h' hk=>⟨rfl,?_⟩
  exact I.turnedT (tk:=s.toks) hf fun q o hq e=>hk q o (fun y=>hq (by simp[y])) (fun y=>hq (by simp[y])) (fun y=>hq (by simp[y])) (fun y=>hq (by simp[y])) e
 self:=fun _ _ _ _ _ st h=>Mg st.1 h
theorem SA(n:Nat) : [n + 4,n + 2,n + 3,n,n + 1].Nodup:=by
 simp only[Dg,Ax,Ej,or_false,not_or,not_false_eq_true,Fq,and_true]
 lia
theorem rT{n q:Nat}(h:q∈[n + 4,n + 2,n + 3,n,n + 1]):n<=q:=by
 simp only[Ax,Cp,or_false] at h
 lia
section
variable {X:Cx}
theorem SD{pins:List (Addr×Obj)}{s1:Ah}{σ:St}{H1:Hp}{R:It->Hp->Prop}{a b:Addr}{xs ys:List V}{es:List Expr}{kx:Nat}{px:Pos}(I1:Inv X pins σ H1 s1)(hqa:bN X.K H1 a xs)(hqb:bN X.K H1 b ys)(q:R (rS X.K a b xs ys) H1) :
  Ba (Bj X.prog X.w) X.A (call (.type "zip") [.ref a,.ref b]) (fun v s1=>Ba (Bj X.prog X.w) X.A (Nh v) (oQ X pins σ (.Tuple es kx px) R) X.xe s1) X.xe s1:=by
 obtain⟨its,rv1,pl,hz⟩:=I1.tuple hqa
 obtain⟨its2,rv2,pl2,hz2⟩:=I1.tuple hqb
 have la:a < s1.heap.objs.size:=by obtain⟨_,e,_⟩:=(show s1.heap.IsTuple a its.toArray from pl);exact Ap e
 have lb:b < s1.heap.objs.size:=by obtain⟨_,e,_⟩:=(show s1.heap.IsTuple b its2.toArray from pl2);exact Ap e
 have y1:(Zt.zh1 s1.heap a).objs.size=s1.heap.objs.size + 1:=Cz ..
 have y2:(Zt.zh2 s1.heap a b).objs.size=s1.heap.objs.size + 2:=by rw[Cz,y1]
 have y3:(Zt.zh3 s1.heap a b).objs.size=s1.heap.objs.size + 3:=by rw[Cz,y2]
 have y4:(Zt.zh4 s1.heap a b).objs.size=s1.heap.objs.size + 4:=by rw[Cz,y3]
 have kall:∀ c o,s1.heap.get? c=some o->(Zt.zh5 s1.heap a b).get? c=some o:=fun c o e=>Af _ (Af _ (Af _ (Af _ (Af _ e))))
 have e5:(Zt.zh5 s1.heap a b).get? (Zt.zh4 s1.heap a b).objs.size=some _:=Au _ rfl
 have e4:(Zt.zh5 s1.heap a b).get? (Zt.zh3 s1.heap a b).objs.size=some _:=Af _ (Au _ rfl)
 have e3:(Zt.zh5 s1.heap a b).get? (Zt.zh2 s1.heap a b).objs.size=some _:=Af _ (Af _ (Au _ rfl))
 have e2:(Zt.zh5 s1.heap a b).get? (Zt.zh1 s1.heap a).objs.size=some _:=Af _ (Af _ (Af _ (Au _ rfl)))
 have e1:(Zt.zh5 s1.heap a b).get? s1.heap.objs.size=some _:=Af _ (Af _ (Af _ (Af _ (Au _ rfl))))
 refine callType_new F.called_zip (by decide) (F.typeCall_zip_2 _ _) (F.newCall_zip_2 _ _) (fun obj=>F.args_object_init_3 obj _ _) F.entry_zip_new (Zt.meets_new a b its.toArray its2.toArray) ⟨pl,pl2,⟨_,e5,rfl⟩,?_⟩
 refine Mg e5 ?_
 rw[y2,y3,y4] at e5
 rw[y1,y2] at e3
 rw[y3] at e4
 rw[y1] at e2
 rw[y4]
 refine⟨s1.heap.objs.size + 4,[s1.heap.objs.size + 4,s1.heap.objs.size + 2,s1.heap.objs.size + 3,s1.heap.objs.size,s1.heap.objs.size + 1],_,_,H1,rfl,I1.kept (t':=s1.toks) kall,
  R9 a b (s1.heap.objs.size + 4) (s1.heap.objs.size + 2) (s1.heap.objs.size + 3) s1.heap.objs.size (s1.heap.objs.size + 1) xs ys ⟨SA _,⟨gX 4 la,gX 2 la,gX 3 la,rQ la,gX 1 la⟩,⟨gX 4 lb,gX 2 lb,gX 3 lb,rQ lb,gX 1 lb⟩⟩,⟨e5,e3,⟨_,_,e4⟩,⟨_,e1,rfl,rfl⟩,⟨_,e2,rfl,rfl⟩⟩,fun q hq=>I1.fpOk (rT hq) (I1.hok.fresh (rT hq)),q⟩
theorem SE{pins:List (Addr×Obj)}{s1:Ah}{σ:St}{H1:Hp}{R:It->Hp->Prop}{a b:Addr}{xs ys:List V}{es:List Expr}{kx:Nat}{px:Pos}(I1:Inv X pins σ H1 s1)(hqa:bF X.K H1 a xs)(hqb:bF X.K H1 b ys)(q:R (rR X.K a b xs ys) H1) :
  Ba (Bj X.prog X.w) X.A (call (.type "zip") [.ref a,.ref b]) (fun v s1=>Ba (Bj X.prog X.w) X.A (Nh v) (oQ X pins σ (.Tuple es kx px) R) X.xe s1) X.xe s1:=by
 obtain⟨its,rv1,pl,hz⟩:=I1.list hqa
 obtain⟨its2,rv2,pl2,hz2⟩:=I1.list hqb
 have la:a < s1.heap.objs.size:=by obtain⟨_,e,_⟩:=pl.isList;exact Ap e
 have lb:b < s1.heap.objs.size:=by obtain⟨_,e,_⟩:=pl2.isList;exact Ap e
 refine call_zip_2 pl.isList pl2.isList fun h' g1 g2 g3 g4 g5 g6 k=>Mg g1 ?_
 refine⟨s1.heap.objs.size + 4,[s1.heap.objs.size + 4,s1.heap.objs.size + 2,s1.heap.objs.size + 3,s1.heap.objs.size,s1.heap.objs.size + 1],_,_,H1,rfl,I1.kept (t':=s1.toks) k,
  RZ a b _ _ _ _ _ xs ys ⟨nJ 2 4 (by decide),nJ 3 4 (by decide),EN 4 (by decide),nJ 1 4 (by decide),nJ 2 3 (by decide),rP 2 (by decide),nJ 2 1 (by decide),rP 3 (by decide),nJ 3 1 (by decide),EN 1 (by decide),gX 4 la,gX 3 la,rQ la,gX 1 la,gX 4 lb,gX 3 lb,rQ lb,gX 1 lb⟩,⟨g1,g2,⟨_,_,g3⟩,g4,g5⟩,fun q hq=>I1.fpOk (rT hq) (I1.hok.fresh (rT hq)),q⟩
def SF(K:Ac)(ta:TA):TI:=fun σ H R=>ta σ H fun vs H1=>∃ a b xs ys,vs=[.ref a,.ref b]/\((bN K H1 a xs/\bN K H1 b ys/\R (rS K a b xs ys) H1)\/(bF K H1 a xs/\bF K H1 b ys/\R (rR K a b xs ys) H1))
theorem SG{a b:Expr}{ta:TA}{p pos:Pos}{es:List Expr}{kx:Nat}{px:Pos}(hg:Gl X "zip")(hm:X.mg "zip" = none)(ha:PA X [a,b] ta)(hs:Bh [a,b] X.env=[(false,eval a X.env),(false,eval b X.env)]:=by rfl)(hs2:Bh [b] X.env=[(false,eval b X.env)]:=by rfl) :
  PI X (.Tuple es kx px) (.Call (.Name "zip" p) [a,b] [] pos) (SF X.K ta):=by
 intro pins s σ H R I h
 refine Call_ (iC I hg hm R0 (Cu (a9 (ha pos pins s σ H _ I h) fun us s1 ⟨vs,H1,I1,r1,q1⟩=>?_) (by rw[hs,hs2]) (by rw[hs2];rfl)))
 obtain⟨a,b,xs,ys,rfl,q1⟩:=q1
 obtain⟨u,v,rfl,ru,rv⟩:=vals2 r1
 cases ru;cases rv
 rcases q1 with⟨h1,h2,q⟩ | ⟨h1,h2,q⟩
 ·exact SD I1 h1 h2 q
 ·exact SE I1 h1 h2 q
end
section
variable {X:Cx}
theorem ints_get{ns:List Int}{its:List Ae}(r:aZ (ns.map V.int) its){i:Nat}{v:Ae}(h:its[i]? = some v):∃ t,v=.int (ns.getD i 0) t:=by
 have hl:=r.length
 rw[Ab] at hl
 have hi:i < ns.length:=by have:=(Ai.mp h).1;omega
 obtain⟨u,hu,ru⟩:=r.get (i:=i) (x:=.int ns[i]) (by rw[Av,Ak hi];rfl)
 rw[h] at hu;cases hu
 obtain⟨t,e⟩:=ru
 exact⟨t,by rw[e];congr 1;simp[List.getD,Ak hi]⟩
theorem SH(hc:X.calm=true):dA X (.builtin "sum") (fun xs H Q=>∃ (p:Addr) (ns:List Int),xs=[.ref p]/\bF X.K H p (ns.map V.int)/\Q (.int ns.sum) H):=by
 intro pins s σ H xs us Q I r h
 obtain⟨p,ns,rfl,hq,q⟩:=h
 obtain⟨u,rfl,ru⟩:=vals1 r
 cases ru
 obtain⟨its,rv,pl,hz⟩:=I.list hq
 have hlt:p < s.heap.objs.size:=by obtain⟨_,e,_⟩:=pl.isList;exact Ap e
 have hl:=rv.length
 rw[Ab] at hl
 have hA:X.A.in1.handled=none:=I.ok.hd hc
 refine call_sum_walkG (Gx pl.isList ⟨s.heap.objs.size,[s.heap.objs.size,p],[s.heap.objs.size],its.toArray.size,(fun i v=>its.toArray[i]? = some v),_,(fun i=>ns.getD i 0),rfl,Ks (A:=X.A.in1) hA s.heap.objs.size p (Be hlt) its.toArray,
  ⟨⟨_,Au _ rfl,rfl,rfl⟩,pl.isList.push _⟩,?_,fun i v hv=>ints_get rv (by simpa using hv),fun h' tk t' hk=>?_⟩)
 ·intro b hb
  rw[Cz]
  simp only[Ax,Cp,or_false] at hb
  rcases hb with rfl | rfl
  ·exact Gh _
  ·exact Gu hlt
 ·rw[preSum_getD,Bb,<-hl,De]
  refine⟨.int ns.sum,H,I.kept (t':=tk) fun b o eb=>hk b o (fun z=>?_) (Af _ eb),⟨_,rfl⟩,q⟩
  exact absurd (Ap eb) (by rw[Aw.mp z];exact Gv _)
end
end L2
namespace L3
open PySem PySem.Spec PyProof.Rows L2
abbrev SV:=L2.St
inductive W where
 | non | bl (b:Bool) | int (i:Int) | str (x:Str) | ty (n:String) | tup (ws:List W) | rl (ws:List W) | sc (ws:List W) | ref (a:Addr)
 | dk (kvs:List (aE×W)) | dt (kvs:List (List aE×W)) | fk (kvs:List (aE×W)) | ft (kvs:List (List aE×W))
inductive MO where
 | lst (ws:List W) | dK (kvs:List (aE×W)) | dT (kvs:List (List aE×W)) | fix (vs:List V) | ins (C dx:Addr) (fs:List (Str×W))
abbrev Mm:=Addr->Option MO
def put(M:Mm)(a:Addr)(o:MO):Mm:=fun b=>if b=a then some o else M b
def del(M:Mm)(a:Addr):Mm:=fun b=>if b=a then none else M b
theorem bB{M:Mm}{a:Addr}{o:MO}:put M a o a=some o:=by unfold put;rw[if_pos rfl]
theorem aT{M:Mm}{a b:Addr}{o:MO}(h:b≠a):put M a o b=M b:=by unfold put;rw[if_neg h]
theorem gP{M:Mm}{a:Addr}{o u:MO}:put (put M a o) a u=put M a u:=by
 funext b;unfold put;split <;> rfl
theorem pC{M:Mm}{a:Addr}{o:MO}(h:M a=none):del (put M a o) a=M:=by
 funext b;unfold del put;split
 ·rename_i e;rw[e,h]
 ·rfl
theorem nK{M:Mm}{a:Addr}:del M a a=none:=by unfold del;rw[if_pos rfl]
theorem vR{M:Mm}{a b:Addr}(h:b≠a):del M a b=M b:=by unfold del;rw[if_neg h]
theorem vS{M:Mm}{a b:Addr}{o u:MO}(h:a≠b):put (put M a o) b u=put (put M b u) a o:=by
 funext c
 unfold put
 by_cases h1:c=b
 ·by_cases h2:c=a
  ·exact absurd (h2.symm.trans h1) h
  ·rw[if_pos h1,if_neg h2,if_pos h1]
 ·by_cases h2:c=a
  ·rw[if_neg h1,if_pos h2,if_pos h2]
  ·rw[if_neg h1,if_neg h2,if_neg h2,if_neg h1]
theorem SI{M:Mm}{a:Addr}{o:MO}(h:M a=some o):put M a o=M:=by
 funext b;unfold put;split
 ·rename_i e;rw[e,h]
 ·rfl
def Sub(M M':Mm):Prop:=∀ a o,M a=some o->M' a=some o
theorem Sub.refl(M:Mm):Sub M M:=fun _ _ h=>h
theorem Sub.trans{M M1 M2:Mm}(a:Sub M M1)(b:Sub M1 M2):Sub M M2:=fun c o h=>b c o (a c o h)
theorem Sub.new{M:Mm}{a:Addr}{o:MO}(h:M a=none):Sub M (put M a o):=fun b u e=>by
 rw[aT (fun z=>by rw[z,h] at e;cases e)];exact e
theorem Sub.put{M M':Mm}{a:Addr}{o:MO}(h:Sub M M'):Sub (put M a o) (put M' a o):=fun b u e=>by
 unfold L3.put at e ⊢
 split at e
 ·rename_i z;rw[if_pos z];exact e
 ·rename_i z;rw[if_neg z];exact h b u e
theorem Sub.del{M:Mm}{a:Addr}:Sub (del M a) M:=fun b u e=>by
 unfold L3.del at e
 split at e
 ·cases e
 ·exact e
theorem Sub.non{M M':Mm}(h:Sub M M'){a:Addr}(e:M' a=none):M a=none:=by
 cases q:M a with
 | none=>rfl
 | some o=>rw[h a o q] at e;cases e
def kE(K:Ac)(H:Hp)(a:Addr)(xs:List V):Prop:=
 (∃ o,H a=some (.frz o (.lst xs)))\/
  ∃ (o:Obj) (its:Array Ae) (n:Nat),K.lookup a=some o/\o.cls=.type "list"/\o.dict=none/\o.data=.seq its n/\its.size<=Am/\aZ xs its.toList
theorem kE.sq{K:Ac}{H:Hp}{a:Addr}{xs:List V}(h:kE K H a xs):bF K H a xs:=by
 rcases h with⟨o,h⟩ | h
 ·exact .inl (.inr ⟨o,h⟩)
 ·exact .inr h
mutual
inductive AV(K:Ac)(H:Hp)(M:Mm):V->W->Prop
 | non:AV K H M .non .non
 | bl (b:Bool):AV K H M (.bl b) (.bl b)
 | int (i:Int):AV K H M (.int i) (.int i)
 | str (x:Str):AV K H M (.str x) (.str x)
 | ty (n:String):AV K H M (.ty n) (.ty n)
 | tup {a:Addr} {xs:List V} {ws:List W}:H a=some (.tup xs)->aM K H M xs ws->AV K H M (.ref a) (.tup ws)
 | sc {a:Addr} {xs:List V} {ws:List W}:kE K H a xs->aM K H M xs ws->AV K H M (.ref a) (.sc ws)
 | rl {a:Addr} {xs:List V} {ws:List W}:H a=some (.lst xs)->M a=none->aM K H M xs ws->AV K H M (.ref a) (.rl ws)
 | ref (a:Addr):AV K H M (.ref a) (.ref a)
 | dk {a:Addr} {ks:List (aE×V)} {kvs:List (aE×W)}:H a=some (.dK ks)->M a=none->ks.map Fh=kvs.map Fh->aM K H M (ks.map Iy) (kvs.map Iy)->AV K H M (.ref a) (.dk kvs)
 | dt {a:Addr} {ks:List (List aE×V)} {kvs:List (List aE×W)}:H a=some (.dT ks)->M a=none->ks.map Fh=kvs.map Fh->aM K H M (ks.map Iy) (kvs.map Iy)->AV K H M (.ref a) (.dt kvs)
 | fk {a:Addr} {o:Obj} {ks:List (aE×V)} {kvs:List (aE×W)}:H a=some (.frz o (.dK ks))->ks.map Fh=kvs.map Fh->aM K H M (ks.map Iy) (kvs.map Iy)->AV K H M (.ref a) (.fk kvs)
 | ft {a:Addr} {o:Obj} {ks:List (List aE×V)} {kvs:List (List aE×W)}:H a=some (.frz o (.dT ks))->ks.map Fh=kvs.map Fh->aM K H M (ks.map Iy) (kvs.map Iy)->AV K H M (.ref a) (.ft kvs)
inductive aM(K:Ac)(H:Hp)(M:Mm):List V->List W->Prop
 | nil:aM K H M [] []
 | cons {v:V} {vs:List V} {w:W} {ws:List W}:AV K H M v w->aM K H M vs ws->aM K H M (v :: vs) (w :: ws)
end
abbrev bS(K:Ac)(H:Hp)(M:Mm)(κ:Type):List (κ×V)->List (κ×W)->Prop:=Gr fun p q=>p.1=q.1/\AV K H M p.2 q.2
theorem pD{K:Ac}{H:Hp}{M:Mm}{κ:Type}:∀ {ks:List (κ×V)} {kvs:List (κ×W)},ks.map Fh=kvs.map Fh->aM K H M (ks.map Iy) (kvs.map Iy)->bS K H M κ ks kvs
 | [],[],_,_=>.nil
 | [],_ :: _,e,_=>by simp at e
 | _ :: _,[],e,_=>by simp at e
 | p :: ps,q :: qs,e,h=>by
  rw[Ay,Ay] at e h
  rw[Dw] at e
  cases h with
  | cons x r=>exact .cons ⟨e.1,x⟩ (pD e.2 r)
theorem bS.keys{K:Ac}{H:Hp}{M:Mm}{κ:Type}{ks:List (κ×V)}{kvs:List (κ×W)}(h:bS K H M κ ks kvs):ks.map Fh=kvs.map Fh:=by
 induction h with
 | nil=>rfl
 | cons r _ ih=>rw[Ay,Ay,ih,r.1]
theorem bS.vals{K:Ac}{H:Hp}{M:Mm}{κ:Type}{ks:List (κ×V)}{kvs:List (κ×W)}(h:bS K H M κ ks kvs):aM K H M (ks.map Iy) (kvs.map Iy):=by
 induction h with
 | nil=>exact .nil
 | cons r _ ih=>exact .cons r.2 ih
def AO(K:Ac)(H:Hp)(M:Mm)(a:Addr):MO->Prop
 | .lst ws=>∃ vs,H a=some (.lst vs)/\aM K H M vs ws
 | .dK kvs=>∃ ks,H a=some (.dK ks)/\bS K H M aE ks kvs
 | .dT kvs=>∃ ks,H a=some (.dT ks)/\bS K H M (List aE) ks kvs
 | .fix vs=>H a=some (.lst vs)
 | .ins C dx fs=>∃ gs,H a=some (.ins C dx gs)/\bS K H M Str gs fs
def AM(K:Ac)(H:Hp)(M:Mm):Prop:=∀ a o,M a=some o->AO K H M a o
structure Kp(H:Hp)(M:Mm)(H':Hp)(M':Mm):Prop where
 fr:∀ a o,M a=none->H a=some o->H' a=some o/\M' a=none
 dom:∀ a o,M a=some o->∃ u,H' a=some u
structure Go(H:Hp)(M:Mm)(H':Hp)(M':Mm):Prop where
 ht:∀ b xs,H b=some (.tup xs)->H' b=some (.tup xs)
 hf:∀ b o u,H b=some (.frz o u)->H' b=some (.frz o u)
 hl:∀ b o,M b=none->H b=some o->H' b=some o/\M' b=none
section
variable {K:Ac}{H H' H1 H2:Hp}{M M' M1 M2:Mm}{a:Addr}
theorem AO.has{o:MO}(h:AO K H M a o):∃ u,H a=some u:=by
 cases o with
 | lst ws=>obtain⟨vs,e,_⟩:=h;exact⟨_,e⟩
 | dK kvs=>obtain⟨ks,e,_⟩:=h;exact⟨_,e⟩
 | dT kvs=>obtain⟨ks,e,_⟩:=h;exact⟨_,e⟩
 | fix vs=>exact⟨_,h⟩
 | ins C dx fs=>obtain⟨gs,e,_⟩:=h;exact⟨_,e⟩
theorem AM.nonM(am:AM K H M)(h:H a=none):M a=none:=by
 cases q:M a with
 | none=>rfl
 | some o=>obtain⟨u,e⟩:=(am a o q).has;rw[h] at e;cases e
theorem AM.noTup(am:AM K H M){xs:List V}(h:H a=some (.tup xs)):M a=none:=by
 cases q:M a with
 | none=>rfl
 | some o=>
  have:=am a o q
  cases o with
  | lst ws=>obtain⟨vs,e,_⟩:=this;rw[h] at e;cases e
  | dK kvs=>obtain⟨ks,e,_⟩:=this;rw[h] at e;cases e
  | dT kvs=>obtain⟨ks,e,_⟩:=this;rw[h] at e;cases e
  | fix vs=>have e:H a=some (.lst vs):=this;rw[h] at e;cases e
  | ins C dx fs=>obtain⟨gs,e,_⟩:=this;rw[h] at e;cases e
theorem AM.noFrz(am:AM K H M){ob:Obj}{u:HO}(h:H a=some (.frz ob u)):M a=none:=by
 cases q:M a with
 | none=>rfl
 | some o=>
  have:=am a o q
  cases o with
  | lst ws=>obtain⟨vs,e,_⟩:=this;rw[h] at e;cases e
  | dK kvs=>obtain⟨ks,e,_⟩:=this;rw[h] at e;cases e
  | dT kvs=>obtain⟨ks,e,_⟩:=this;rw[h] at e;cases e
  | fix vs=>have e:H a=some (.lst vs):=this;rw[h] at e;cases e
  | ins C dx fs=>obtain⟨gs,e,_⟩:=this;rw[h] at e;cases e
theorem Kp.refl(am:AM K H M):Kp H M H M:=⟨fun a o h e=>⟨e,h⟩,fun a o h=>(am a o h).has⟩
theorem Kp.trans(x:Kp H M H1 M1)(y:Kp H1 M1 H2 M2):Kp H M H2 M2 where
 fr:=fun a o h e=>by
  obtain⟨e1,n1⟩:=x.fr a o h e
  exact y.fr a o n1 e1
 dom:=fun a o h=>by
  obtain⟨u,e⟩:=x.dom a o h
  cases q:M1 a with
  | none=>exact⟨u,(y.fr a u q e).1⟩
  | some o1=>exact y.dom a o1 q
theorem Kp.sub(x:Kp H M H1 M1)(h:Sub M2 M1):Kp H M H1 M2 where
 fr:=fun a o n e=>⟨(x.fr a o n e).1,h.non (x.fr a o n e).2⟩
 dom:=x.dom
theorem Kp.go(am:AM K H M)(k:Kp H M H' M'):Go H M H' M':=⟨fun b xs e=>(k.fr b _ (am.noTup e) e).1,fun b o u e=>(k.fr b _ (am.noFrz e) e).1,k.fr⟩
theorem Go.sub(h:Sub M' M):Go H M H M':=⟨fun _ _ e=>e,fun _ _ _ e=>e,fun b o n e=>⟨e,h.non n⟩⟩
theorem AV.go(g:Go H M H' M'){v:V}{w:W}(h:AV K H M v w):AV K H' M' v w:=AV.rec (motive_1:=fun v w _=>AV K H' M' v w) (motive_2:=fun vs ws _=>aM K H' M' vs ws) .non .bl .int .str .ty (fun e _ q=>.tup (g.ht _ _ e) q) (fun e _ q=>.sc (e.elim (fun z=>.inl (z.elim fun o q=>⟨o,g.hf _ _ _ q⟩)) .inr) q) (fun e n _ q=>.rl (g.hl _ _ n e).1 (g.hl _ _ n e).2 q) .ref
  (fun e n ke _ q=>.dk (g.hl _ _ n e).1 (g.hl _ _ n e).2 ke q) (fun e n ke _ q=>.dt (g.hl _ _ n e).1 (g.hl _ _ n e).2 ke q) (fun e ke _ q=>.fk (g.hf _ _ _ e) ke q) (fun e ke _ q=>.ft (g.hf _ _ _ e) ke q) .nil (fun _ _ x r=>.cons x r) h
theorem aM.go(g:Go H M H' M'){vs:List V}{ws:List W}(h:aM K H M vs ws):aM K H' M' vs ws:=aM.rec (motive_1:=fun v w _=>AV K H' M' v w) (motive_2:=fun vs ws _=>aM K H' M' vs ws) .non .bl .int .str .ty (fun e _ q=>.tup (g.ht _ _ e) q) (fun e _ q=>.sc (e.elim (fun z=>.inl (z.elim fun o q=>⟨o,g.hf _ _ _ q⟩)) .inr) q) (fun e n _ q=>.rl (g.hl _ _ n e).1 (g.hl _ _ n e).2 q) .ref
  (fun e n ke _ q=>.dk (g.hl _ _ n e).1 (g.hl _ _ n e).2 ke q) (fun e n ke _ q=>.dt (g.hl _ _ n e).1 (g.hl _ _ n e).2 ke q) (fun e ke _ q=>.fk (g.hf _ _ _ e) ke q) (fun e ke _ q=>.ft (g.hf _ _ _ e) ke q) .nil (fun _ _ x r=>.cons x r) h
theorem bS.go{κ:Type}{ks:List (κ×V)}{kvs:List (κ×W)}(g:Go H M H' M')(h:bS K H M κ ks kvs):bS K H' M' κ ks kvs:=Paired.mapP h fun p q z=>⟨z.1,z.2.go g⟩
theorem AO.go{o:MO}(g:Go H M H' M')(e:H' a=H a)(h:AO K H M a o):AO K H' M' a o:=by
 cases o with
 | lst ws=>obtain⟨vs,e1,r⟩:=h;exact⟨vs,by rw[e];exact e1,r.go g⟩
 | dK kvs=>obtain⟨vs,e1,r⟩:=h;exact⟨vs,by rw[e];exact e1,r.go g⟩
 | dT kvs=>obtain⟨vs,e1,r⟩:=h;exact⟨vs,by rw[e];exact e1,r.go g⟩
 | fix vs=>exact e.trans h
 | ins C dx fs=>obtain⟨gs,e1,r⟩:=h;exact⟨gs,by rw[e];exact e1,r.go g⟩
theorem AM.sub(am:AM K H M')(h:Sub M M'):AM K H M:=fun a o e=>(am a o (h a o e)).go (Go.sub h) rfl
theorem AV.sub(h:Sub M' M){v:V}{w:W}(x:AV K H M v w):AV K H M' v w:=x.go (Go.sub h)
theorem aM.sub(h:Sub M' M){v:List V}{w:List W}(x:aM K H M v w):aM K H M' v w:=x.go (Go.sub h)
theorem AV.kp(am:AM K H M)(k:Kp H M H' M'){v:V}{w:W}(h:AV K H M v w):AV K H' M' v w:=h.go (k.go am)
theorem aM.kp(am:AM K H M)(k:Kp H M H' M'){vs:List V}{ws:List W}(h:aM K H M vs ws):aM K H' M' vs ws:=h.go (k.go am)
theorem aM.length:∀ {vs:List V} {ws:List W},aM K H M vs ws->vs.length=ws.length
 | _,_,.nil=>rfl
 | _,_,.cons _ r=>by simp[aM.length r]
theorem aM.append:∀ {vs us:List V} {ws zs:List W},aM K H M vs ws->aM K H M us zs->aM K H M (vs ++ us) (ws ++ zs)
 | _,_,_,_,.nil,s=>s
 | _,_,_,_,.cons x r,s=>.cons x (aM.append r s)
theorem aM.getW:∀ {vs:List V} {ws:List W} {i:Nat} {w:W},aM K H M vs ws->ws[i]? = some w->∃ v,vs[i]? = some v/\AV K H M v w
 | _,_,_,_,.nil,e=>by simp at e
 | _,_,0,_,.cons x _,e=>by simp at e;subst e;exact⟨_,rfl,x⟩
 | _,_,i + 1,w,.cons _ r,e=>by
  obtain⟨v,h1,h2⟩:=aM.getW (i:=i) (w:=w) r (by simpa using e)
  exact⟨v,by simpa using h1,h2⟩
theorem aM.getV:∀ {vs:List V} {ws:List W} {i:Nat} {v:V},aM K H M vs ws->vs[i]? = some v->∃ w,ws[i]? = some w/\AV K H M v w
 | _,_,_,_,.nil,e=>by simp at e
 | _,_,0,_,.cons x _,e=>by simp at e;subst e;exact⟨_,rfl,x⟩
 | _,_,i + 1,v,.cons _ r,e=>by
  obtain⟨w,h1,h2⟩:=aM.getV (i:=i) (v:=v) r (by simpa using e)
  exact⟨w,by simpa using h1,h2⟩
theorem aM.set{v:V}{w:W}(x:AV K H M v w):∀ {vs:List V} {ws:List W} (i:Nat),aM K H M vs ws->aM K H M (vs.set i v) (ws.set i w)
 | _,_,_,.nil=>.nil
 | _,_,0,.cons _ t=>.cons x t
 | _,_,i + 1,.cons q t=>.cons q (aM.set x i t)
theorem aM.take:∀ {vs:List V} {ws:List W} (n:Nat),aM K H M vs ws->aM K H M (vs.take n) (ws.take n)
 | _,_,0,_=>by simp;exact .nil
 | _,_,_ + 1,.nil=>.nil
 | _,_,n + 1,.cons x t=>.cons x (aM.take n t)
theorem aM.drop:∀ {vs:List V} {ws:List W} (n:Nat),aM K H M vs ws->aM K H M (vs.drop n) (ws.drop n)
 | _,_,0,h=>h
 | _,_,_ + 1,.nil=>.nil
 | _,_,n + 1,.cons _ t=>aM.drop n t
theorem aM.dropLast{vs:List V}{ws:List W}(h:aM K H M vs ws):aM K H M vs.dropLast ws.dropLast:=by
 rw[List.dropLast_eq_take,List.dropLast_eq_take,h.length];exact h.take _
theorem aM.flatRep{vs:List V}{ws:List W}(h:aM K H M vs ws):∀ n:Nat,aM K H M (Bs n vs).flatten (Bs n ws).flatten
 | 0=>.nil
 | n + 1=>by
  rw[Fw,Fw,Hu,Hu]
  exact h.append (aM.flatRep h n)
theorem aM.int(is:List Int):aM K H M (is.map V.int) (is.map W.int):=by
 induction is with
 | nil=>exact .nil
 | cons i r ih=>exact .cons (.int i) ih
theorem ES{p:Addr}{u:HO}(hp:H p=none)(hs:∀ b,b≠p->M b=none->M' b=none):Go H M (aQ H p u) M':=
 ⟨fun b xs e=>by rw[bH (d7 e hp)];exact e,fun b o x e=>by rw[bH (d7 e hp)];exact e,fun b o n e=>⟨by rw[bH (d7 e hp)];exact e,hs b (d7 e hp) n⟩⟩
theorem ET{p:Addr}{o:MO}{u:HO}(hp:H p=none):Go H M (aQ H p u) (put M p o):=ES hp fun b ne n=>by rw[aT ne];exact n
theorem go_same{p:Addr}{u:HO}(hp:H p=none):Go H M (aQ H p u) M:=ES hp fun b ne n=>n
theorem AM.laid{p:Addr}{o:MO}{u:HO}(am:AM K H M)(hp:H p=none)(h:AO K (aQ H p u) (put M p o) p o):AM K (aQ H p u) (put M p o)/\Kp H M (aQ H p u) (put M p o):=by
 refine⟨fun a x e=>?_,fun a x h e=>⟨?_,?_⟩,fun a x h=>?_⟩
 ·by_cases ha:a=p
  ·subst ha;rw[bB] at e;cases e;exact h
  ·rw[aT ha] at e
   exact(am a x e).go (ET hp) (bH ha)
 ·rw[bH (d7 e hp)];exact e
 ·rw[aT (d7 e hp)];exact h
 ·obtain⟨y,e⟩:=(am a x h).has
  exact⟨y,by rw[bH (d7 e hp)];exact e⟩
theorem EU{p:Addr}{o u:MO}:Go H (put M p o) H (put M p u):=⟨fun _ _ e=>e,fun _ _ _ e=>e,fun b x n e=>⟨e,by
 have ne:b≠p:=fun z=>by rw[z,bB] at n;cases n
 rw[aT ne] at n ⊢;exact n⟩⟩
theorem AM.tup{p:Addr}{u:HO}(am:AM K H M)(hp:H p=none):AM K (aQ H p u) M/\Kp H M (aQ H p u) M:=by
 refine⟨fun a x e=>?_,fun a x h e=>⟨?_,h⟩,fun a x h=>?_⟩
 ·have ne:a≠p:=fun z=>by rw[z,am.nonM hp] at e;cases e
  exact(am a x e).go (go_same hp) (bH ne)
 ·rw[bH (d7 e hp)];exact e
 ·obtain⟨y,e⟩:=(am a x h).has
  exact⟨y,by rw[bH (d7 e hp)];exact e⟩
theorem nL{l:Addr}{o0 o:MO}{u:HO}(am:AM K H M)(hl:M l=some o0):Go H M (aQ H l u) (put M l o):=
 ⟨fun b xs e=>by rw[bH (fun z=>by rw[<-z,am.noTup e] at hl;cases hl)];exact e,fun b ob x e=>by rw[bH (fun z=>by rw[<-z,am.noFrz e] at hl;cases hl)];exact e,
   fun b x n e=>by
  have ne:b≠l:=fun z=>by rw[<-z,n] at hl;cases hl
  rw[bH ne,aT ne];exact⟨e,n⟩⟩
theorem AM.write{l:Addr}{o0 o:MO}{u:HO}(am:AM K H M)(hl:M l=some o0)(h:AO K (aQ H l u) (put M l o) l o):AM K (aQ H l u) (put M l o)/\Kp H M (aQ H l u) (put M l o):=by
 refine⟨fun a x e=>?_,fun a x h e=>?_,fun a x h=>?_⟩
 ·by_cases ha:a=l
  ·subst ha;rw[bB] at e;cases e;exact h
  ·rw[aT ha] at e
   exact(am a x e).go (nL am hl) (bH ha)
 ·have:a≠l:=fun z=>by rw[z,hl] at h;cases h
  rw[bH this,aT this];exact⟨e,h⟩
 ·by_cases ha:a=l
  ·subst ha;exact⟨u,cU⟩
  ·obtain⟨y,e⟩:=(am a x h).has
   exact⟨y,by rw[bH ha];exact e⟩
theorem AM.lst(am:AM K H M){ws:List W}(h:M a=some (.lst ws)):∃ vs,H a=some (.lst vs)/\aM K H M vs ws:=am a _ h
theorem aM.newT{p:Addr}{u:HO}{vs:List V}{ws:List W}(hp:H p=none)(h:aM K H M vs ws):aM K (aQ H p u) M vs ws:=h.go (go_same hp)
theorem aM.newL{p:Addr}{u:HO}{o:MO}{vs:List V}{ws:List W}(hp:H p=none)(h:aM K H M vs ws):aM K (aQ H p u) (put M p o) vs ws:=h.go (ET hp)
theorem aM.wr{l:Addr}{o0 o:MO}{u:HO}{vs:List V}{ws:List W}(am:AM K H M)(hl:M l=some o0)(h:aM K H M vs ws):aM K (aQ H l u) (put M l o) vs ws:=h.go (nL am hl)
theorem AV.wr{l:Addr}{o0 o:MO}{u:HO}{v:V}{w:W}(am:AM K H M)(hl:M l=some o0)(h:AV K H M v w):AV K (aQ H l u) (put M l o) v w:=h.go (nL am hl)
end
abbrev S3:=List (Option W)
abbrev K3:=W->Mm->Prop
abbrev aX:=S3->Mm->K3->Prop
abbrev dS:=S3->Mm->(Bool->Mm->Prop)->Prop
abbrev cZ:=S3->Mm->(List W->Mm->Prop)->Prop
abbrev R3:=W->W->Mm->K3->Prop
structure D3 where
 nx:S3->Mm->Prop
 rt:K3
 bk:S3->Mm->Prop:=fun _ _=>False
 ct:S3->Mm->Prop:=fun _ _=>False
abbrev aJ:=D3->S3->Mm->Prop
def AS(K:Ac)(H:Hp)(M:Mm):SV->S3->Prop:=Gr fun ov ow=>∀ w,ow=some w->∃ v,ov=some v/\AV K H M v w
section
variable {K:Ac}{H H':Hp}{M M':Mm}
theorem AS.kp(am:AM K H M)(k:Kp H M H' M'){σ:SV}{τ:S3}(h:AS K H M σ τ):AS K H' M' σ τ:=
 Paired.mapP h fun ov ow z w e=>by obtain⟨v,e1,r⟩:=z w e;exact⟨v,e1,r.kp am k⟩
theorem AS.sub{M':Mm}(g:Sub M' M){σ:SV}{τ:S3}(h:AS K H M σ τ):AS K H M' σ τ:=
 Paired.mapP h fun ov ow z w e=>by obtain⟨v,e1,r⟩:=z w e;exact⟨v,e1,r.sub g⟩
theorem AS.get{w:W}:∀ {σ:SV} {τ:S3} {i:Nat},AS K H M σ τ->τ[i]? = some (some w)->∃ v,σ[i]? = some (some v)/\AV K H M v w
 | _,_,_,.nil,e=>by simp at e
 | _,_,0,.cons r _,e=>by
  simp at e
  obtain⟨v,h1,h2⟩:=r w e
  exact⟨v,by rw[h1];rfl,h2⟩
 | _,_,i + 1,.cons _ t,e=>by
  obtain⟨v,h1,h2⟩:=AS.get (i:=i) t (by simpa using e)
  exact⟨v,by simpa using h1,h2⟩
theorem AS.set{v:V}{w:W}(r:AV K H M v w):∀ {σ:SV} {τ:S3} (i:Nat),AS K H M σ τ->AS K H M (σ.set i (some v)) (τ.set i (some w))
 | _,_,_,.nil=>.nil
 | _,_,0,.cons _ t=>.cons (fun x e=>⟨v,rfl,by cases e;exact r⟩) t
 | _,_,i + 1,.cons q t=>.cons q (AS.set r i t)
theorem AS.nones:∀ n:Nat,AS K H M (Bs n none) (Bs n none)
 | 0=>.nil
 | n + 1=>.cons (fun _ e=>nomatch e) (AS.nones n)
theorem AS.start{vs:List V}{ws:List W}(h:aM K H M vs ws)(n:Nat):AS K H M (vs.map some ++ Bs n none) (ws.map some ++ Bs n none):=by
 induction vs generalizing ws with
 | nil=>cases h;exact AS.nones n
 | cons v vs ih=>
  cases h with
  | cons x r=>exact .cons (fun w e=>⟨v,rfl,by cases e;exact x⟩) (ih r)
end
def Up(K:Ac)(H:Hp)(M:Mm)(R:K3)(Q:VK):Prop:=∀ v H' w M',Kp H M H' M'->AM K H' M'->AV K H' M' v w->R w M'->Q v H'
def up(K:Ac)(t:aX):TE:=fun σ H Q=>∃ τ M R,AS K H M σ τ/\AM K H M/\t τ M R/\Up K H M R Q
def jR(K:Ac)(t:dS):TT:=fun σ H Q=>∃ (τ:S3) (M:Mm) (R:Bool->Mm->Prop),AS K H M σ τ/\AM K H M/\t τ M R/\∀ b H' M',Kp H M H' M'->AM K H' M'->R b M'->Q b H'
def nM(K:Ac)(t:cZ):TA:=fun σ H Q=>∃ (τ:S3) (M:Mm) (R:List W->Mm->Prop),AS K H M σ τ/\AM K H M/\t τ M R/\∀ vs H' ws M',Kp H M H' M'->AM K H' M'->aM K H' M' vs ws->R ws M'->Q vs H'
def gY(K:Ac)(H:Hp)(M:Mm)(R:S3->Mm->Prop)(Q:SV->Hp->Prop):Prop:=∀ σ' H' τ' M',Kp H M H' M'->AM K H' M'->AS K H' M' σ' τ'->R τ' M'->Q σ' H'
structure pE(K:Ac)(H:Hp)(M:Mm)(D:D3)(E:kA):Prop where
 nx:gY K H M D.nx E.nx
 rt:Up K H M D.rt E.rt
 bk:gY K H M D.bk E.bk
 ct:gY K H M D.ct E.ct
def pF(K:Ac)(t:aJ):TS:=fun E σ H=>∃ τ M D,AS K H M σ τ/\AM K H M/\t D τ M/\pE K H M D E
section
variable {K:Ac}{H H1:Hp}{M M1:Mm}
theorem Up.kp{R:K3}{Q:VK}(h:Up K H M R Q)(k:Kp H M H1 M1):Up K H1 M1 R Q:=fun v H' w M' k' am av r=>h v H' w M' (k.trans k') am av r
theorem gY.kp{R:S3->Mm->Prop}{Q:SV->Hp->Prop}(h:gY K H M R Q)(k:Kp H M H1 M1):gY K H1 M1 R Q:=fun v H' w M' k' am av r=>h v H' w M' (k.trans k') am av r
theorem pE.kp{D:D3}{E:kA}(h:pE K H M D E)(k:Kp H M H1 M1):pE K H1 M1 D E:=⟨h.nx.kp k,h.rt.kp k,h.bk.kp k,h.ct.kp k⟩
theorem Up.at{R:K3}{Q:VK}(h:Up K H M R Q)(am:AM K H M){v:V}{w:W}(av:AV K H M v w)(r:R w M):Q v H:=h v H w M (Kp.refl am) am av r
end
def frz:W->Mm->K3->Prop
 | .ref p,M,R=>(∃ ws,M p=some (.lst ws)/\R (.rl ws) (del M p))\/(∃ kvs,M p=some (.dK kvs)/\R (.dk kvs) (del M p))\/(∃ kvs,M p=some (.dT kvs)/\R (.dt kvs) (del M p))\/R (.ref p) M
 | w,M,R=>R w M
theorem Up.frz{K:Ac}{H:Hp}{M:Mm}{R:K3}{Q:VK}(h:Up K H M R Q):Up K H M (fun w M'=>frz w M' R) Q:=fun v H' w M' k am av r=>by
 have av':=av
 cases av <;> first | exact h _ _ _ _ k am av' r | skip
 case ref p=>
  rcases r with⟨ws,e,r⟩ | ⟨kvs,e,r⟩ | ⟨kvs,e,r⟩ | r
  ·obtain⟨vs,f,q⟩:=am.lst e
   exact h _ _ _ _ (k.sub Sub.del) (am.sub Sub.del) (.rl f nK (q.sub Sub.del)) r
  ·obtain⟨ks,f,q⟩:=am _ _ e
   exact h _ _ _ _ (k.sub Sub.del) (am.sub Sub.del) (.dk f nK q.keys (q.vals.sub Sub.del)) r
  ·obtain⟨ks,f,q⟩:=am _ _ e
   exact h _ _ _ _ (k.sub Sub.del) (am.sub Sub.del) (.dt f nK q.keys (q.vals.sub Sub.del)) r
  ·exact h _ _ _ _ k am (.ref p) r
theorem SJ{M:Mm}{p:Addr}{ws:List W}{R:K3}(hp:M p=none)(r:R (.rl ws) M):frz (.ref p) (put M p (.lst ws)) R:=.inl ⟨ws,bB,by rw[pC hp];exact r⟩
theorem SM{M:Mm}{p:Addr}{kvs:List (List aE×W)}{R:K3}(hp:M p=none)(r:R (.dt kvs) M):frz (.ref p) (put M p (.dT kvs)) R:=.inr (.inr (.inl ⟨kvs,bB,by rw[pC hp];exact r⟩))
def bA(ws:List W)(M:Mm)(R:K3):Prop:=∀ p,M p=none->R (.ref p) (put M p (.lst ws))
def SN(kvs:List (aE×W))(M:Mm)(R:K3):Prop:=∀ p,M p=none->R (.ref p) (put M p (.dK kvs))
def iH(kvs:List (List aE×W))(M:Mm)(R:K3):Prop:=∀ p,M p=none->R (.ref p) (put M p (.dT kvs))
theorem bA.frz{M:Mm}{ws:List W}{R:K3}(r:R (.rl ws) M):bA ws M fun w M'=>L3.frz w M' R:=fun p hp=>SJ hp r
theorem iH.frz{M:Mm}{kvs:List (List aE×W)}{R:K3}(r:R (.dt kvs) M):iH kvs M fun w M'=>L3.frz w M' R:=fun p hp=>SM hp r
def dB(t:aX):aX:=fun τ M R=>t τ M fun w M'=>frz w M' R
def SO(K:Ac)(H:Hp)(M:Mm)(v:V):W->Prop
 | .non=>v=.non
 | .bl b=>v=.bl b
 | .int i=>v=.int i
 | .str x=>v=.str x
 | .ty n=>v=.ty n
 | .tup ws=>∃ a xs,v=.ref a/\H a=some (.tup xs)/\aM K H M xs ws
 | .sc ws=>∃ a xs,v=.ref a/\kE K H a xs/\aM K H M xs ws
 | .rl ws=>∃ a xs,v=.ref a/\H a=some (.lst xs)/\M a=none/\aM K H M xs ws
 | .ref a=>v=.ref a
 | .dk kvs=>∃ a ks,v=.ref a/\H a=some (.dK ks)/\M a=none/\bS K H M aE ks kvs
 | .dt kvs=>∃ a ks,v=.ref a/\H a=some (.dT ks)/\M a=none/\bS K H M (List aE) ks kvs
 | .fk kvs=>∃ a ks,v=.ref a/\(∃ o,H a=some (.frz o (.dK ks)))/\bS K H M aE ks kvs
 | .ft kvs=>∃ a ks,v=.ref a/\(∃ o,H a=some (.frz o (.dT ks)))/\bS K H M (List aE) ks kvs
section
variable {K:Ac}{H:Hp}{M:Mm}{v:V}{vs:List V}{w:W}{ws:List W}{C:Prop}
theorem AV.inv(h:AV K H M v w):SO K H M v w:=by
 cases h
 case non | bl | int | str | ty | ref=>rfl
 case tup | sc=>rename_i e q;exact⟨_,_,rfl,e,q⟩
 case rl=>rename_i e n q;exact⟨_,_,rfl,e,n,q⟩
 case dk | dt=>rename_i e n z q;exact⟨_,_,rfl,e,n,pD z q⟩
 case fk | ft=>rename_i e z q;exact⟨_,_,rfl,⟨_,e⟩,pD z q⟩
theorem AV.tupE(h:AV K H M v (.tup ws))(c:∀ a xs,v=.ref a->H a=some (.tup xs)->aM K H M xs ws->C):C:=
 let ⟨a,xs,e,f,q⟩:=h.inv;c a xs e f q
theorem AV.scE(h:AV K H M v (.sc ws))(c:∀ a xs,v=.ref a->kE K H a xs->aM K H M xs ws->C):C:=
 let ⟨a,xs,e,f,q⟩:=h.inv;c a xs e f q
theorem AV.rlE(h:AV K H M v (.rl ws))(c:∀ a xs,v=.ref a->H a=some (.lst xs)->aM K H M xs ws->C):C:=
 let ⟨a,xs,e,f,_,q⟩:=h.inv;c a xs e f q
theorem aM.nil_(h:aM K H M vs []):vs=[]:=by cases h;rfl
theorem aM.one(h:aM K H M vs [w]):∃ v,vs=[v]/\AV K H M v w:=by
 cases h with
 | cons x r=>rw[r.nil_];exact⟨_,rfl,x⟩
theorem aM.oneE(h:aM K H M vs [w])(c:∀ v,vs=[v]->AV K H M v w->C):C:=h.one.elim fun v h=>c v h.1 h.2
theorem aM.two{z:W}(h:aM K H M vs [w,z]):∃ v u,vs=[v,u]/\AV K H M v w/\AV K H M u z:=by
 cases h with
 | cons x r=>obtain⟨u,rfl,y⟩:=r.one;exact⟨_,_,rfl,x,y⟩
theorem AM.lstE{a:Addr}(am:AM K H M)(e:M a=some (.lst ws))(c:∀ xs,H a=some (.lst xs)->aM K H M xs ws->C):C:=(am.lst e).elim fun v h=>c v h.1 h.2
theorem gZ{x y:V}(e:vs=[x])(f:x=y):vs=[y]:=by rw[e,f]
end
theorem up.el{K:Ac}{H:Hp}{σ:SV}{C:Prop}{t:aX}{Q:VK}(h:up K t σ H Q)(c:∀ τ M R,AS K H M σ τ->AM K H M->t τ M R->Up K H M R Q->C):C:=by obtain⟨τ,M,R,a,b,h,k⟩:=h;exact c τ M R a b h k
theorem jR.el{K:Ac}{H:Hp}{σ:SV}{C:Prop}{t:dS}{Q:Bool->Hp->Prop}(h:jR K t σ H Q)(c:∀ τ M R,AS K H M σ τ->AM K H M->t τ M R->(∀ b H' M',Kp H M H' M'->AM K H' M'->R b M'->Q b H')->C):C:=by obtain⟨τ,M,R,a,b,h,k⟩:=h;exact c τ M R a b h k
theorem nM.el{K:Ac}{H:Hp}{σ:SV}{C:Prop}{t:cZ}{Q:List V->Hp->Prop}(h:nM K t σ H Q)(c:∀ τ M R,AS K H M σ τ->AM K H M->t τ M R->(∀ vs H' ws M',Kp H M H' M'->AM K H' M'->aM K H' M' vs ws->R ws M'->Q vs H')->C):C:=by obtain⟨τ,M,R,a,b,h,k⟩:=h;exact c τ M R a b h k
theorem pF.el{K:Ac}{H:Hp}{σ:SV}{C:Prop}{t:aJ}{E:kA}(h:pF K t E σ H)(c:∀ τ M D,AS K H M σ τ->AM K H M->t D τ M->pE K H M D E->C):C:=by obtain⟨τ,M,D,a,b,h,k⟩:=h;exact c τ M D a b h k
end L3
namespace L2
section
variable {X:Cx}
theorem PE.weak{e:Ls}{t t':TE}(h:PE X e t)(k:∀ σ H Q,t' σ H Q->t σ H Q):PE X e t':=fun pins s σ H Q I q=>h pins s σ H Q I (k σ H Q q)
theorem PT.weak{e:Ls}{t t':TT}(h:PT X e t)(k:∀ σ H Q,t' σ H Q->t σ H Q):PT X e t':=fun pins s σ H Q I q=>h pins s σ H Q I (k σ H Q q)
theorem PW.weak{e:Ls}{t t':TT}(h:PW X e t)(k:∀ σ H Q,t' σ H Q->t σ H Q):PW X e t':=fun wh pins s σ H Q I q=>h wh pins s σ H Q I (k σ H Q q)
theorem PA.weak{es:List Ls}{t t':TA}(h:PA X es t)(k:∀ σ H Q,t' σ H Q->t σ H Q):PA X es t':=fun pos pins s σ H Q I q=>h pos pins s σ H Q I (k σ H Q q)
theorem PS.weak{st:PySem.Stmt}{t t':TS}(h:PS X st t)(k:∀ D σ H,t' D σ H->t D σ H):PS X st t':=fun pins s σ H D I q=>h pins s σ H D I (k D σ H q)
theorem fM.weak{st:List PySem.Stmt}{t t':TS}(h:fM X st t)(k:∀ D σ H,t' D σ H->t D σ H):fM X st t':=fun pins s σ H D I q=>h pins s σ H D I (k D σ H q)
theorem PO.weak{e:Option Ls}{t t':TO}(h:PO X e t)(k:∀ σ H Q,t' σ H Q->t σ H Q):PO X e t':=fun pins s σ H Q I q=>h pins s σ H Q I (k σ H Q q)
theorem hZ.weak{es:List Ls}{t t':TT}(h:hZ X es t)(k:∀ σ H Q,t' σ H Q->t σ H Q):hZ X es t':=fun pins s σ H Q I q=>h pins s σ H Q I (k σ H Q q)
end
end L2
namespace L3
open PySem PySem.Spec PyProof.Rows L2
abbrev E3(X:Cx)(e:Expr)(t:aX):Prop:=PE X e (up X.K t)
abbrev T3(X:Cx)(e:Expr)(t:dS):Prop:=PT X e (jR X.K t)
abbrev W3(X:Cx)(e:Expr)(t:dS):Prop:=PW X e (jR X.K t)
abbrev A3(X:Cx)(es:List Expr)(t:cZ):Prop:=PA X es (nM X.K t)
def cE(K:Ac)(r:R3):R2:=fun x y H Q=>∃ wx wy M R,AM K H M/\AV K H M x wx/\AV K H M y wy/\r wx wy M R/\Up K H M R Q
def EV(K:Ac)(r:W->Mm->K3->Prop):V->Hp->VK->Prop:=fun x H Q=>∃ wx M R,AM K H M/\AV K H M x wx/\r wx M R/\Up K H M R Q
def gC(K:Ac)(r:List W->Mm->K3->Prop):List V->Hp->VK->Prop:=fun xs H Q=>∃ ws M R,AM K H M/\aM K H M xs ws/\r ws M R/\Up K H M R Q
def kF(K:Ac)(r:W->List W->Mm->K3->Prop):V->List V->Hp->VK->Prop:=fun x xs H Q=>∃ wx ws M R,AM K H M/\AV K H M x wx/\aM K H M xs ws/\r wx ws M R/\Up K H M R Q
section
variable {X:Cx}{a b c:Expr}{ta tb tc:aX}{pos:Pos}
def aA(i:Nat):aX:=fun τ M R=>∃ w,τ[i]? = some (some w)/\R w M
def vC(w:W):aX:=fun _ M R=>R w M
theorem v(i:Nat){x:Str}{pos:Pos}(hN:X.N[i]? = some x:=by rfl)(hv:qV X.env.scope x:=by first | exact Or.inl rfl | exact Or.inr (Or.inl rfl) | exact Or.inr (Or.inr rfl))(hd:(x == ("__debug__" : Str))=false:=by decide)
  (hcd:(x == ("__classdict__" : Str))=false:=by decide):E3 X (.Name x pos) (aA i):=(CZ hN hv hd hcd).weak fun σ H Q ⟨τ,M,R,as,am,⟨w,e,r⟩,k⟩=>by
 obtain⟨v,e1,av⟩:=as.get e
 exact⟨v,e1,k.at am av r⟩
theorem aL{i j pos}:E3 X (.Constant (.int i) j pos) (vC (.int i)):=LB.weak fun σ H Q z0=>z0.el fun τ M R as am r k=>k.at am (.int i) r
theorem gD{b j pos}:E3 X (.Constant (.bool b) j pos) (vC (.bl b)):=LC.weak fun σ H Q z0=>z0.el fun τ M R as am r k=>k.at am (.bl b) r
theorem EW{j pos}:E3 X (.Constant .none j pos) (vC .non):=LD.weak fun σ H Q z0=>z0.el fun τ M R as am r k=>k.at am .non r
theorem gQ{x j pos}:E3 X (.Constant (.str x) j pos) (vC (.str x)):=LF.weak fun σ H Q z0=>z0.el fun τ M R as am r k=>k.at am (.str x) r
theorem vT{x:Str}{y:V}{w:W}{u:Ae}{pos:Pos}(hg:Gl X x)(hm:X.mg x=some u)(r:RelV y u)(hw:∀ H M,AV X.K H M y w)(hd:(x == ("__debug__" : Str))=false:=by decide):E3 X (.Name x pos) (vC w):=
 (LG hg hm r hd).weak fun σ H Q z0=>z0.el fun τ M R as am r k=>k.at am (hw H M) r
theorem pG{x:Str}{y:V}{w:W}{u:Ae}{pos:Pos}(hg:Gl X x)(hm:X.mg x=none)(hv:Co x=some u)(r:RelV y u)(hw:∀ H M,AV X.K H M y w)(hn:x≠"__name__":=by decide)(hd:(x == ("__debug__" : Str))=false:=by decide):E3 X (.Name x pos) (vC w):=
 (LH hg hm hv r hn hd).weak fun σ H Q z0=>z0.el fun τ M R as am r k=>k.at am (hw H M) r
theorem eD(ha:E3 X a ta):E3 X a (dB ta):=ha.weak fun σ H Q z0=>z0.el fun τ M R as am h k=>⟨τ,M,_,as,am,h,k.frz⟩
def aD(r:R3)(ta tb:aX):aX:=fun τ M R=>ta τ M fun x M1=>tb τ M1 fun y M2=>r x y M2 R
theorem rV{K:Ac}{r:R3}{σ:SV}{H:Hp}{Q:VK}(h:up K (aD r ta tb) σ H Q):oU (cE K r) (up K ta) (up K tb) σ H Q:=by
 obtain⟨τ,M,R,as,am,h,k⟩:=h
 refine⟨τ,M,_,as,am,h,fun x H1 wx M1 k1 am1 ax h1=>⟨τ,M1,_,as.kp am k1,am1,h1,fun y H2 wy M2 k2 am2 ay h2=>?_⟩⟩
 exact⟨wx,wy,M2,R,am2,ax.kp am1 k2,ay,h2,(k.kp k1).kp k2⟩
theorem bJ{op:Operator}{r:R3}(ho:bG X (Fg op) (cE X.K r))(ha:E3 X a ta)(hb:E3 X b tb):E3 X (.BinOp a op b pos) (aD r ta tb):=(NF ho ha hb).weak fun _ _ _ h=>rV h
theorem SQ{op:CmpOp}{r:R3}(ho:bG X (Bw op) (cE X.K r))(ha:E3 X a ta)(hb:E3 X b tb)(hm:Hy op b=false):E3 X (.Compare a [op] [b] pos) (aD r ta tb):=(NZ ho ha hb hm).weak fun _ _ _ h=>rV h
def cD(t:aX):dS:=fun τ M Q=>t τ M fun w M'=>∃ k,w=.bl k/\Q k M'
theorem AV.bl_inv{K:Ac}{H:Hp}{M:Mm}{v:V}{k:Bool}(h:AV K H M v (.bl k)):v=.bl k:=by cases h;rfl
theorem SU{op:CmpOp}{r:R3}(ho:bG X (Bw op) (cE X.K r))(ha:E3 X a ta)(hb:E3 X b tb)(hm:Hy op b=false):T3 X (.Compare a [op] [b] pos) (cD (aD r ta tb)):=
 (N0 ho ha hb hm).weak fun σ H Q z0=>z0.el fun τ M R as am h k=>rV ⟨τ,M,_,as,am,h,fun v H' w M' k' am' av ⟨c,e,r⟩=>by
  subst e
  exact⟨c,av.bl_inv,k c H' M' k' am' r⟩⟩
def kG(r:W->Mm->K3->Prop)(ta:aX):aX:=fun τ M R=>ta τ M fun x M1=>r x M1 R
theorem lE{op:UnaryOp}{r:W->Mm->K3->Prop}(ho:oT X (unaryOp op) (EV X.K r))(ha:E3 X a ta):E3 X (.UnaryOp op a pos) (kG r ta):=
 (NG ho ha).weak fun σ H Q z0=>z0.el fun τ M R as am h k=>⟨τ,M,_,as,am,h,fun x H1 wx M1 k1 am1 ax h1=>⟨wx,M1,R,am1,ax,h1,k.kp k1⟩⟩
def SW:W->Mm->(Bool->Mm->Prop)->Prop
 | .non,M,Q=>Q false M
 | .bl b,M,Q=>Q b M
 | .int i,M,Q=>Q (i != 0) M
 | .str y,M,Q=>y.length<=Am/\Q ((y.length:Int) != 0) M
 | .tup ws,M,Q=>Q (!ws.isEmpty) M
 | .rl ws,M,Q=>Q (!ws.isEmpty) M
 | .sc ws,M,Q=>Q (!ws.isEmpty) M
 | .dk kvs,M,Q=>Q (!kvs.isEmpty) M
 | .ref p,M,Q=>(∃ ws,M p=some (.lst ws)/\Q (!ws.isEmpty) M)\/∃ kvs,M p=some (.dK kvs)/\Q (!kvs.isEmpty) M
 | _,_,_=>False
def fQ(t:aX):dS:=fun τ M Q=>t τ M fun w M'=>SW w M' Q
theorem aM.empty{K:Ac}{H:Hp}{M:Mm}{vs:List V}{ws:List W}(h:aM K H M vs ws):(!ws.isEmpty) = !vs.isEmpty:=by cases h <;> rfl
theorem fW(ha:E3 X a ta)(he:∀ whole,isTrue a X.env whole=(do let v <-whole;Nj a.pos;Ht [v] (truthy v)):=by intro _;rfl):T3 X a (fQ ta):=
 (N5 ha he).weak fun σ H Q z0=>z0.el fun τ M R as am h k=>⟨τ,M,_,as,am,h,fun v H' w M' k' am' av r=>by
  cases av with
  | non=>exact⟨false,rfl,k _ _ _ k' am' r⟩
  | bl b=>exact⟨b,rfl,k _ _ _ k' am' r⟩
  | int i=>exact⟨_,rfl,k _ _ _ k' am' r⟩
  | str y=>exact⟨_,⟨r.1,rfl⟩,k _ _ _ k' am' r.2⟩
  | ty n=>exact(show False from r).elim
  | tup e q=>exact⟨_,.inr (.inl ⟨_,bN.of e,q.empty⟩),k _ _ _ k' am' r⟩
  | rl e n q=>exact⟨_,.inl ⟨_,bF.of e,q.empty⟩,k _ _ _ k' am' r⟩
  | sc e q=>exact⟨_,.inl ⟨_,e.sq,q.empty⟩,k _ _ _ k' am' r⟩
  | @dk a ks kvs e n ke q=>exact⟨!kvs.isEmpty,.inr (.inr ⟨_,e,by have:=pD ke q;cases this <;> rfl⟩),k _ _ _ k' am' r⟩
  | dt e n ke q=>exact(show False from r).elim
  | fk e ke q=>exact(show False from r).elim
  | ft e ke q=>exact(show False from r).elim
  | ref p=>
   rcases r with⟨ws,e,r⟩ | ⟨kvs,e,r⟩
   ·obtain⟨vs,e1,q⟩:=am'.lst e
    exact⟨_,.inl ⟨_,bF.of e1,q.empty⟩,k _ _ _ k' am' r⟩
   ·obtain⟨ks,e1,q⟩:=am' _ _ e
    exact⟨!kvs.isEmpty,.inr (.inr ⟨_,e1,by cases q <;> rfl⟩),k _ _ _ k' am' r⟩⟩
def rW(t u:dS):dS:=fun τ M Q=>t τ M fun c M1=>if c=true then u τ M1 Q else Q false M1
def jS(t u:dS):dS:=fun τ M Q=>t τ M fun c M1=>if c=true then Q true M1 else u τ M1 Q
def iI(t:dS):dS:=fun τ M Q=>t τ M fun c M1=>Q (!c) M1
variable {tA tB':dS}{rest:List Expr}
theorem vU(ha:T3 X a tA):W3 X (.BoolOp .And [a] pos) tA:=LL ha
theorem pH(ha:T3 X a tA):W3 X (.BoolOp .Or [a] pos) tA:=LM ha
theorem vV(ha:T3 X a tA)(hb:W3 X (.BoolOp .And (b :: rest) pos) tB'):W3 X (.BoolOp .And (a :: b :: rest) pos) (rW tA tB'):=
 (LN ha hb).weak fun σ H Q z0=>z0.el fun τ M R as am h k=>⟨τ,M,_,as,am,h,fun c H1 M1 k1 am1 h1=>by
  cases c with
  | true=>exact⟨τ,M1,R,as.kp am k1,am1,h1,fun b H' M' k' am' r=>k b H' M' (k1.trans k') am' r⟩
  | false=>exact k false H1 M1 k1 am1 h1⟩
theorem kH(ha:T3 X a tA)(hb:W3 X (.BoolOp .Or (b :: rest) pos) tB'):W3 X (.BoolOp .Or (a :: b :: rest) pos) (jS tA tB'):=
 (LO ha hb).weak fun σ H Q z0=>z0.el fun τ M R as am h k=>⟨τ,M,_,as,am,h,fun c H1 M1 k1 am1 h1=>by
  cases c with
  | true=>exact k true H1 M1 k1 am1 h1
  | false=>exact⟨τ,M1,R,as.kp am k1,am1,h1,fun b H' M' k' am' r=>k b H' M' (k1.trans k') am' r⟩⟩
theorem iZ(ha:T3 X a tA):T3 X (.UnaryOp .Not a pos) (iI tA):=
 (LP ha).weak fun σ H Q z0=>z0.el fun τ M R as am h k=>⟨τ,M,_,as,am,h,fun c H1 M1 k1 am1 h1=>k (!c) H1 M1 k1 am1 h1⟩
def pI(ta tb:aX):aX:=fun τ M R=>ta τ M fun x M1=>∃ c,x=.bl c/\if c=true then tb τ M1 R else R (.bl false) M1
def EX(ta tb:aX):aX:=fun τ M R=>ta τ M fun x M1=>∃ c,x=.bl c/\if c=true then R (.bl true) M1 else tb τ M1 R
theorem pJ{op}(h:E3 X a ta):E3 X (.BoolOp op [a] pos) ta:=LS h
theorem v_and(ha:E3 X a ta)(hb:E3 X (.BoolOp .And (b :: rest) pos) tb):E3 X (.BoolOp .And (a :: b :: rest) pos) (pI ta tb):=
 (LU ha hb).weak fun σ H Q z0=>z0.el fun τ M R as am h k=>⟨τ,M,_,as,am,h,fun x H1 wx M1 k1 am1 ax ⟨c,e,h1⟩=>by
  subst e
  refine⟨c,ax.bl_inv,?_⟩
  cases c with
  | true=>exact⟨τ,M1,R,as.kp am k1,am1,h1,k.kp k1⟩
  | false=>exact(k.kp k1).at am1 (.bl false) h1⟩
theorem v_or(ha:E3 X a ta)(hb:E3 X (.BoolOp .Or (b :: rest) pos) tb):E3 X (.BoolOp .Or (a :: b :: rest) pos) (EX ta tb):=
 (LV ha hb).weak fun σ H Q z0=>z0.el fun τ M R as am h k=>⟨τ,M,_,as,am,h,fun x H1 wx M1 k1 am1 ax ⟨c,e,h1⟩=>by
  subst e
  refine⟨c,ax.bl_inv,?_⟩
  cases c with
  | true=>exact(k.kp k1).at am1 (.bl true) h1
  | false=>exact⟨τ,M1,R,as.kp am k1,am1,h1,k.kp k1⟩⟩
def EY(t:dS)(ta tb:aX):aX:=fun τ M R=>t τ M fun c M1=>if c=true then ta τ M1 R else tb τ M1 R
theorem SX{c:Expr}(hc:T3 X c tA)(ha:E3 X a ta)(hb:E3 X b tb):E3 X (.IfExp c a b pos) (EY tA ta tb):=
 (LX hc ha hb).weak fun σ H Q z0=>z0.el fun τ M R as am h k=>⟨τ,M,_,as,am,h,fun c H1 M1 k1 am1 h1=>by
  cases c with
  | true=>exact⟨τ,M1,R,as.kp am k1,am1,h1,k.kp k1⟩
  | false=>exact⟨τ,M1,R,as.kp am k1,am1,h1,k.kp k1⟩⟩
def aF:cZ:=fun _ M R=>R [] M
def aB(ta:aX)(tr:cZ):cZ:=fun τ M R=>ta τ M fun x M1=>tr τ M1 fun xs M2=>R (x :: xs) M2
variable {e:Expr}{es:List Expr}{te:aX}{t:cZ}
theorem aG:A3 X [] aF:=ON.weak fun σ H Q z0=>z0.el fun τ M R as am h k=>k [] H [] M (Kp.refl am) am .nil h
theorem aC(ha:E3 X e te)(hr:A3 X es t)(hs:Bh (e :: es) X.env=(false,eval e X.env) :: Bh es X.env:=by rfl):A3 X (e :: es) (aB te t):=
 (OO ha hr hs).weak fun σ H Q z0=>z0.el fun τ M R as am h k=>⟨τ,M,_,as,am,h,fun x H1 wx M1 k1 am1 ax h1=>⟨τ,M1,_,as.kp am k1,am1,h1,fun xs H2 ws M2 k2 am2 axs h2=>
  k (x :: xs) H2 (wx :: ws) M2 (k1.trans k2) am2 (.cons (ax.kp am1 k2) axs) h2⟩⟩
def cS(t:cZ):aX:=fun τ M R=>t τ M fun ws M1=>ws.length<=Am/\R (.tup ws) M1
def iJ(t:cZ):aX:=fun τ M R=>t τ M fun ws M1=>ws.length<=Am/\bA ws M1 R
theorem laidT{K:Ac}{H:Hp}{M:Mm}{R:K3}{Q:VK}{p:Addr}{xs:List V}{ws:List W}(am:AM K H M)(k:Up K H M R Q)(hp:H p=none)(ax:aM K H M xs ws)(r:R (.tup ws) M):Q (.ref p) (aQ H p (.tup xs)):=by
 obtain⟨am2,k2⟩:=am.tup (u:=.tup xs) hp
 exact k _ _ _ _ k2 am2 (.tup cU (ax.newT hp)) r
theorem iK{K:Ac}{H:Hp}{M:Mm}{R:K3}{Q:VK}{p:Addr}{xs:List V}{ws:List W}(am:AM K H M)(k:Up K H M R Q)(hp:H p=none)(ax:aM K H M xs ws)(r:∀ p,M p=none->R (.ref p) (put M p (.lst ws))):Q (.ref p) (aQ H p (.lst xs)):=by
 obtain⟨am2,k2⟩:=am.laid (o:=.lst ws) (u:=.lst xs) hp ⟨xs,cU,ax.newL hp⟩
 exact k _ _ _ _ k2 am2 (.ref p) (r p (am.nonM hp))
theorem vW{K:Ac}{H:Hp}{M:Mm}{R:K3}{Q:VK}{l:Addr}{xs:List V}{ws ws0:List W}{y:V}{w:W}(am:AM K H M)(k:Up K H M R Q)(hl:M l=some (.lst ws0))(ax:aM K H M xs ws)(ay:AV K H M y w)(r:R w (put M l (.lst ws))):Q y (aQ H l (.lst xs)):=by
 obtain⟨am2,k2⟩:=am.write (o:=.lst ws) (u:=.lst xs) hl ⟨xs,cU,ax.wr am hl⟩
 exact k _ _ _ _ k2 am2 (ay.wr am hl) r
theorem c7{x1}(h:A3 X es t):E3 X (.Tuple es x1 pos) (cS t):=
 (OR h).weak fun σ H Q z0=>z0.el fun τ M R as am h k=>⟨τ,M,_,as,am,h,fun xs H1 ws M1 k1 am1 axs ⟨hl,r⟩=>⟨by rw[axs.length];exact hl,fun p hp=>laidT am1 (k.kp k1) hp axs r⟩⟩
theorem kI(h:A3 X es t):E3 X (.List es pos) (iJ t):=
 (DJ h).weak fun σ H Q z0=>z0.el fun τ M R as am h k=>⟨τ,M,_,as,am,h,fun xs H1 ws M1 k1 am1 axs ⟨hl,r⟩=>⟨by rw[axs.length];exact hl,fun p hp=>iK am1 (k.kp k1) hp axs r⟩⟩
def bT(r:List W->Mm->K3->Prop)(t:cZ):aX:=fun τ M R=>t τ M fun ws M1=>r ws M1 R
variable {x:Str}{p:Pos}{id T:String}{r:List W->Mm->K3->Prop}
theorem EZ{K:Ac}{σ:SV}{H:Hp}{Q:VK}(h:up K (bT r t) σ H Q):u6 (gC K r) (nM K t) σ H Q:=by
 obtain⟨τ,M,R,as,am,h,k⟩:=h
 exact⟨τ,M,_,as,am,h,fun xs H1 ws M1 k1 am1 axs h1=>⟨ws,M1,R,am1,axs,h1,k.kp k1⟩⟩
theorem cH(hc:dA X (.builtin id) (gC X.K r))(hg:Gl X x)(hm:X.mg x=none)(hv:Co x=some (.builtin id))(ha:A3 X (e :: es) t)(hn:x≠"__name__":=by decide)(hdb:(x == ("__debug__" : Str))=false:=by decide)
  (hs:Bh (e :: es) X.env=(false,eval e X.env) :: Bh es X.env:=by rfl) (hpl:(Hf pos (Bh es X.env)).any (·.1)=false:=by rfl):E3 X (.Call (.Name x p) (e :: es) [] pos) (bT r t):=(OZ hc hg hm hv ha hn hdb hs hpl).weak fun _ _ _ h=>EZ h
theorem jT(hc:dA X (.type T) (gC X.K r))(hg:Gl X x)(hm:X.mg x=none)(hv:Co x=some (.type T))(ha:A3 X (e :: es) t)(hn:x≠"__name__":=by decide)(hdb:(x == ("__debug__" : Str))=false:=by decide)
  (hs:Bh (e :: es) X.env=(false,eval e X.env) :: Bh es X.env:=by rfl) (hpl:(Hf pos (Bh es X.env)).any (·.1)=false:=by rfl):E3 X (.Call (.Name x p) (e :: es) [] pos) (bT r t):=(O0 hc hg hm hv ha hn hdb hs hpl).weak fun _ _ _ h=>EZ h
abbrev bK:=List W->Mm->K3->Prop
def fR(K:Ac)(sp:bK):Sp:=fun vs H Q _=>∃ ws M R,AM K H M/\aM K H M vs ws/\sp ws M R/\Up K H M R Q
variable {k:Nat}{f:Addr}{fd:Bk}{ps:List Str}{sp:bK}
def bQ(sp:bK)(t:cZ):aX:=fun τ M R=>t τ M fun ws M1=>sp ws M1 R
theorem E1{K:Ac}{σ:SV}{H:Hp}{Q:VK}(h:up K (bQ sp t) σ H Q):DK (fR K sp) [] E0 (nM K t) σ H Q:=by
 obtain⟨τ,M,R,as,am,h,k⟩:=h
 exact⟨τ,M,_,as,am,h,fun xs H1 ws M1 k1 am1 axs h1=>⟨ws,M1,R,am1,by rw[Jc];exact axs,h1,k.kp k1⟩⟩
theorem mH(F:eC X.prog X.w X.K X.mg X.base fD k f fd ps (fR X.K sp))(hr:cM k X.A)(hg:Gl X x)(hm:X.mg x=some (.ref f))(hk:Ex X.K (.ref f)=true)(hb:Binds X.K fd ps [])
  (ha:A3 X (e :: es) t) (hdb:(x == ("__debug__" : Str))=false:=by decide) (he:Bh (e :: es) X.env=(false,eval e X.env) :: Bh es X.env:=by rfl) (hpl:(Hf pos (Bh es X.env)).any (·.1)=false:=by rfl) :
  E3 X (.Call (.Name x p) (e :: es) [] pos) (bQ sp t):=(OS F hr hg hm hk hb .nil nH ha hdb he hpl).weak fun _ _ _ h=>E1 h
def kJ(T:String):W->Mm->Prop
 | .str _,_=>T = "str"
 | .int _,_=>T = "int"
 | .rl _,_=>T = "list"
 | .sc _,_=>T = "list"
 | .dk _,_=>T = "dict"
 | .dt _,_=>T = "dict"
 | .fk _,_=>T = "dict"
 | .ft _,_=>T = "dict"
 | .ref p,M=>(T = "list"/\∃ ws,M p=some (.lst ws))\/(T = "dict"/\((∃ kvs,M p=some (.dK kvs))\/∃ kvs,M p=some (.dT kvs)))
 | _,_=>False
theorem E2{K:Ac}{H:Hp}{M:Mm}{v:V}{w:W}(am:AM K H M)(av:AV K H M v w)(h:kJ T w M):rH K T v H:=by
 cases av with
 | str y=>exact h
 | int i=>exact h
 | rl e n q=>exact .inl ⟨h,_,bF.of e⟩
 | sc e q=>exact .inl ⟨h,_,e.sq⟩
 | dk e n ke q=>exact .inr (.inr (.inl ⟨h,.inl ⟨_,.inl e⟩⟩))
 | dt e n ke q=>exact .inr (.inr (.inl ⟨h,.inr ⟨_,.inl e⟩⟩))
 | ref p=>
  rcases h with⟨e,ws,h⟩ | ⟨e,h⟩
  ·obtain⟨vs,e1,_⟩:=am.lst h
   exact .inl ⟨e,vs,bF.of e1⟩
  ·refine .inr (.inr (.inl ⟨e,?_⟩))
   rcases h with⟨kvs,h⟩ | ⟨kvs,h⟩
   ·obtain⟨ks,e1,_⟩:=am _ _ h;exact .inl ⟨ks,.inl e1⟩
   ·obtain⟨ks,e1,_⟩:=am _ _ h;exact .inr ⟨ks,.inl e1⟩
 | non=>exact h.elim
 | bl b=>exact h.elim
 | ty n=>exact h.elim
 | tup e q=>exact h.elim
 | fk e ke q=>exact .inr (.inr (.inl ⟨h,.inl ⟨_,.inr ⟨_,e⟩⟩⟩))
 | ft e ke q=>exact .inr (.inr (.inl ⟨h,.inr ⟨_,.inr ⟨_,e⟩⟩⟩))
variable {o:Expr}{to:aX}{name:Str}{apos cpos:Pos}{rm:W->List W->Mm->K3->Prop}
def rX(T:String)(r:W->List W->Mm->K3->Prop)(to:aX):aX:=fun τ M R=>to τ M fun x M1=>kJ T x M1/\r x [] M1 R
def eE(T:String)(r:W->List W->Mm->K3->Prop)(to:aX)(t:cZ):aX:=fun τ M R=>to τ M fun x M1=>kJ T x M1/\t τ M1 fun xs M2=>r x xs M2 R
theorem vX(pa:PlainAttrs T)(slot:Slot T name id)(hty:typeOf (.builtin id)=pure (.type "method_descriptor"))(hm:iG X id (kF X.K rm))(ho:E3 X o to)
  (hbase:Jl o name X.env (eval o X.env)=eval o X.env:=by rfl) (hline:(apos.endLine == cpos.line)=true:=by rfl):E3 X (.Call (.Attribute o name apos) [] [] cpos) (rX T rm to):=
 (QD pa slot hty hm ho hbase hline).weak fun σ H Q z0=>z0.el fun τ M R as am h k=>⟨τ,M,_,as,am,h,fun x H1 wx M1 k1 am1 ax ⟨ty,h1⟩=>⟨E2 am1 ax ty,wx,[],M1,R,am1,ax,.nil,h1,k.kp k1⟩⟩
theorem fE(pa:PlainAttrs T)(slot:Slot T name id)(hty:typeOf (.builtin id)=pure (.type "method_descriptor"))(hm:iG X id (kF X.K rm))(ho:E3 X o to)(ha:A3 X (e :: es) t)
  (hbase:Jl o name X.env (eval o X.env)=eval o X.env:=by rfl)
  (hfew:((Hf cpos (Bh (e :: es) X.env)).all (fun x=>!x.1) && (backToKw cpos (Lx [] X.env)).all (fun x=>x.1.isSome)
   && decide ((e :: es).length + ([]:List Keyword).length + (if ([]:List Keyword).isEmpty then 0 else 1) < 30))=true:=by rfl)
  (hline:(apos.endLine == cpos.line)=true:=by rfl) (hs:Bh (e :: es) X.env=(false,eval e X.env) :: Bh es X.env:=by rfl) (hplain:(Hf cpos (Bh es X.env)).any (·.1)=false:=by rfl) :
  E3 X (.Call (.Attribute o name apos) (e :: es) [] cpos) (eE T rm to t):=
 (QE pa slot hty hm ho ha hbase hfew hline hs hplain).weak fun σ H Q z0=>z0.el fun τ M R as am h k=>⟨τ,M,_,as,am,h,fun x H1 wx M1 k1 am1 ax ⟨ty,h1⟩=>⟨E2 am1 ax ty,τ,M1,_,as.kp am k1,am1,h1,fun xs H2 ws M2 k2 am2 axs h2=>
  ⟨wx,ws,M2,R,am2,ax.kp am1 k2,axs,h2,(k.kp k1).kp k2⟩⟩⟩
end
section
variable {X:Cx}
theorem kK{f:Ae->Ae->Sem Ae}{r:R2}{r3:R3}(h0:bG X f r)(h:∀ x y H Q M R,AM X.K H M->Up X.K H M R Q->∀ wx wy,r3 wx wy M R->AV X.K H M x wx->AV X.K H M y wy->r x y H Q):bG X f (cE X.K r3):=
 fun pins s σ H x y v u Q I rx ry ⟨wx,wy,M,R,am,ax,ay,h1,k⟩=>h0 pins s σ H x y v u Q I rx ry (h x y H Q M R am k wx wy h1 ax ay)
theorem SY{r:R2}{r3:R3}(h0:iF X r)(h:∀ x y H Q M R,AM X.K H M->Up X.K H M R Q->∀ wx wy,r3 wx wy M R->AV X.K H M x wx->AV X.K H M y wy->r x y H Q):iF X (cE X.K r3):=
 fun value slice pins s σ H x y v u Q I rx ry ⟨wx,wy,M,R,am,ax,ay,h1,k⟩=>h0 value slice pins s σ H x y v u Q I rx ry (h x y H Q M R am k wx wy h1 ax ay)
theorem vY{f:Ae}{r:List V->Hp->VK->Prop}{r3:List W->Mm->K3->Prop}(h0:dA X f r)(h:∀ xs H Q M R,AM X.K H M->Up X.K H M R Q->∀ ws,r3 ws M R->aM X.K H M xs ws->r xs H Q):dA X f (gC X.K r3):=
 fun pins s σ H xs us Q I rs ⟨ws,M,R,am,ax,h1,k⟩=>h0 pins s σ H xs us Q I rs (h xs H Q M R am k ws h1 ax)
def E4:R3
 | .int i,.int j,M,R=>R (.int (i + j)) M
 | .tup xs,.tup ys,M,R=>xs≠[]/\xs.length + ys.length<=Am/\R (.tup (xs ++ ys)) M
 | .ref a,.ref b,M,R=>∃ xs ys,M a=some (.lst xs)/\M b=some (.lst ys)/\xs.length + ys.length<=Am/\bA (xs ++ ys) M R
 | .rl xs,.ref b,M,R=>∃ ys,M b=some (.lst ys)/\xs.length + ys.length<=Am/\bA (xs ++ ys) M R
 | .ref a,.rl ys,M,R=>∃ xs,M a=some (.lst xs)/\xs.length + ys.length<=Am/\bA (xs ++ ys) M R
 | .rl xs,.rl ys,M,R=>xs.length + ys.length<=Am/\bA (xs ++ ys) M R
 | _,_,_,_=>False
def jU(M:Mm):W->List W->Prop
 | .ref a,ws=>M a=some (.lst ws)
 | .rl ws,zs=>ws=zs
 | _,_=>False
theorem kL{K:Ac}{H:Hp}{M:Mm}{v:V}{w:W}{ws:List W}(am:AM K H M)(h:AV K H M v w)(e:jU M w ws):∃ a xs,v=.ref a/\H a=some (.lst xs)/\aM K H M xs ws:=by
 cases w <;> first | exact(show False from e).elim | skip
 case ref a=>exact am.lstE e fun xs f q=>⟨_,_,h.inv,f,q⟩
 case rl zs=>exact h.rlE fun a xs e1 f q=>⟨_,_,e1,f,by rw[<-show zs=ws from e];exact q⟩
theorem S4{P:W->W->Prop}{M:Mm}{R:K3}(c1:∀ i j,R (.int (i + j)) M->P (.int i) (.int j))(c2:∀ xs ys,xs≠[]/\xs.length + ys.length<=Am/\R (.tup (xs ++ ys)) M->P (.tup xs) (.tup ys))
  (c3:∀ x y xs ys,jU M x xs->jU M y ys->xs.length + ys.length<=Am->bA (xs ++ ys) M R->P x y):∀ x y,E4 x y M R->P x y:=by
 intro x y h
 cases x <;> first | exact(show False from h).elim | (cases y <;> first | exact(show False from h).elim | skip)
 case int.int=>exact c1 _ _ h
 case tup.tup=>exact c2 _ _ h
 case ref.ref=>obtain⟨xs,ys,e,f,l,r⟩:=h;exact c3 _ _ _ _ e f l r
 case rl.ref=>obtain⟨ys,f,l,r⟩:=h;exact c3 _ _ _ _ rfl f l r
 case ref.rl=>obtain⟨xs,e,l,r⟩:=h;exact c3 _ _ _ _ e rfl l r
 case rl.rl=>exact c3 _ _ _ _ rfl rfl h.1 h.2
theorem S5:bG X (Fg .Add) (cE X.K E4):=kK (NH.or (PK.or QJ)) fun x y H Q M R am k=>S4
 (fun i j h ax ay=>.inl ⟨i,j,ax.inv,ay.inv,k.at am (.int _) h⟩)
 (fun xs ys h ax ay=>ax.tupE fun a us e1 f1 q1=>ay.tupE fun b vs e2 f2 q2=>.inr (.inl ⟨a,b,us,vs,e1,e2,bN.of f1,bN.of f2,
  fun z=>h.1 (Jj.mp (by rw[<-q1.length,z];rfl)),by rw[q1.length,q2.length];exact h.2.1,
  fun z=>k.at am (by rw[<-e1];exact ax) (by rw[<-Jc xs,<-Jj.mp (show ys.length=0 by rw[<-q2.length,z];rfl)];exact h.2.2),
  fun _ p hp=>laidT am k hp (q1.append q2) h.2.2⟩))
 (fun wx wy xs ys h1 h2 l r ax ay=>.inr (.inr (by
  obtain⟨a,us,e1,f1,q1⟩:=kL am ax h1
  obtain⟨b,vs,e2,f2,q2⟩:=kL am ay h2
  exact⟨a,b,us,vs,e1,e2,f1,f2,by rw[q1.length,q2.length];exact l,fun p hp=>iK am k hp (q1.append q2) r⟩)))
def pK(C:Int->Int->Prop)(g:Int->Int->W):R3
 | .int i,.int j,M,R=>C i j/\R (g i j) M
 | _,_,_,_=>False
theorem S6{C:Int->Int->Prop}{g:Int->Int->W}{P:W->W->Prop}{M:Mm}{R:K3}(c:∀ i j,C i j/\R (g i j) M->P (.int i) (.int j))(x y:W)(h:pK C g x y M R):P x y:=by
 cases x <;> first | exact(show False from h).elim | (cases y <;> first | exact(show False from h).elim | exact c _ _ h)
theorem vZ{f:Ae->Ae->Sem Ae}{C:Int->Int->Prop}{g:Int->Int->V}{g':Int->Int->W}(h0:bG X f (rI C g))(hg:∀ H M i j,AV X.K H M (g i j) (g' i j)):bG X f (cE X.K (pK C g')):=
 kK h0 fun x y H Q M R am k=>S6 fun i j h ax ay=>⟨i,j,ax.inv,ay.inv,h.1,k.at am (hg H M i j) h.2⟩
def mI(g:Int->Int->W):R3
 | .int i,.int j,M,R=>R (g i j) M
 | _,_,_,_=>False
theorem S7{g:Int->Int->W}{P:W->W->Prop}{M:Mm}{R:K3}(c:∀ i j,R (g i j) M->P (.int i) (.int j))(x y:W)(h:mI g x y M R):P x y:=by
 cases x <;> first | exact(show False from h).elim | (cases y <;> first | exact(show False from h).elim | exact c _ _ h)
theorem pL{f:Ae->Ae->Sem Ae}{g:Int->Int->V}{g':Int->Int->W}(h0:bG X f (kB g))(hg:∀ H M i j,AV X.K H M (g i j) (g' i j)):bG X f (cE X.K (mI g')):=
 kK h0 fun x y H Q M R am k=>S7 fun i j h ax ay=>⟨i,j,ax.inv,ay.inv,k.at am (hg H M i j) h⟩
abbrev nN:R3:=mI fun i j=>.int (i - j)
theorem pM:bG X (Fg .Sub) (cE X.K nN):=pL NI fun _ _ _ _=>.int _
abbrev nO:R3:=pK vM fun i j=>.int (i / j)
theorem pN:bG X (Fg .FloorDiv) (cE X.K nO):=vZ RM fun _ _ _ _=>.int _
abbrev iL:R3:=pK (fun _ j=>0 < j) fun i j=>.int (i % j)
theorem i0:bG X (Fg .Mod) (cE X.K iL):=vZ NK fun _ _ _ _=>.int _
abbrev rY:R3:=pK C5 fun i j=>.int (i ^ j.toNat)
theorem v3:bG X (Fg .Pow) (cE X.K rY):=vZ NL fun _ _ _ _=>.int _
def E5:R3
 | .int i,.int j,M,R=>(nE i j\/rO i j)/\R (.int (i * j)) M
 | .ref a,.int n,M,R=>∃ xs,M a=some (.lst xs)/\-(2 ^ 63)<=n/\n < 2 ^ 63/\xs.length * n.toNat<=Am/\bA (Bs n.toNat xs).flatten M R
 | .rl xs,.int n,M,R=>-(2 ^ 63)<=n/\n < 2 ^ 63/\xs.length * n.toNat<=Am/\bA (Bs n.toNat xs).flatten M R
 | _,_,_,_=>False
theorem S8{P:W->W->Prop}{M:Mm}{R:K3}(c1:∀ i j,(nE i j\/rO i j)/\R (.int (i * j)) M->P (.int i) (.int j))
  (c3:∀ x n xs,jU M x xs->-(2 ^ 63)<=n/\n < 2 ^ 63/\xs.length * n.toNat<=Am/\bA (Bs n.toNat xs).flatten M R->P x (.int n)):∀ x y,E5 x y M R->P x y:=by
 intro x y h
 cases x <;> first | exact(show False from h).elim | (cases y <;> first | exact(show False from h).elim | skip)
 case int.int=>exact c1 _ _ h
 case ref.int=>obtain⟨xs,e,h⟩:=h;exact c3 _ _ _ e h
 case rl.int=>exact c3 _ _ _ rfl h
theorem S9:bG X (Fg .Mult) (cE X.K E5):=kK (NJ.or (RL.or QM)) fun x y H Q M R am k=>S8
 (fun i j h ax ay=>h.1.elim (fun z=>.inl ⟨i,j,ax.inv,ay.inv,z,k.at am (.int _) h.2⟩) fun z=>.inr (.inl ⟨i,j,ax.inv,ay.inv,z,k.at am (.int _) h.2⟩))
 (fun wx n xs h1 h ax ay=>.inr (.inr (by
  obtain⟨a,us,e1,f1,q1⟩:=kL am ax h1
  exact⟨a,n,us,e1,ay.inv,f1,h.1,h.2.1,by rw[q1.length];exact h.2.2.1,fun p hp=>iK am k hp (q1.flatRep _) h.2.2.2⟩)))
def kM:W->Mm->K3->Prop
 | .int i,M,R=>R (.int (-i)) M
 | _,_,_=>False
theorem lG:oT X (unaryOp .USub) (EV X.K kM):=by
 rintro pins s σ H x v Q I rx ⟨wx,M,R,am,ax,h,k⟩
 cases wx <;> first | exact(show False from h).elim | skip
 case int i=>exact NO pins s σ H _ v Q I rx ⟨i,ax.inv,k.at am (.int _) h⟩
def lH:R3:=mI fun i j=>.bl (decide (i < j))
theorem mJ:bG X (Bw .Lt) (cE X.K lH):=pL NS fun _ _ _ _=>.bl _
abbrev v5:R3:=mI fun i j=>.bl (decide (i<=j))
theorem E6:bG X (Bw .LtE) (cE X.K v5):=pL NT fun _ _ _ _=>.bl _
abbrev E7:R3:=mI fun i j=>.bl (decide (j < i))
theorem TB:bG X (Bw .Gt) (cE X.K E7):=pL NU fun _ _ _ _=>.bl _
abbrev v7:R3:=mI fun i j=>.bl (decide (j<=i))
theorem E8:bG X (Bw .GtE) (cE X.K v7):=pL NV fun _ _ _ _=>.bl _
def isNon:W->Bool
 | .non=>true
 | _=>false
def v8(neg:Bool):R3
 | x,.non,M,R=>R (.bl (if neg then !isNon x else isNon x)) M
 | _,_,_,_=>False
theorem AV.isNon{K:Ac}{H:Hp}{M:Mm}{v:V}{w:W}(h:AV K H M v w):decide (v=.non)=L3.isNon w:=by cases h <;> rfl
theorem TC{n:Bool}{P:W->W->Prop}{M:Mm}{R:K3}(c:∀ x,R (.bl (if n then !isNon x else isNon x)) M->P x .non)(x y:W)(h:v8 n x y M R):P x y:=by
 cases y <;> first | exact(show False from h).elim | exact c _ h
theorem TF:bG X (Bw .Is) (cE X.K (v8 false)):=kK NX fun x y H Q M R am k=>TC fun w h ax ay=>⟨ay.inv,by rw[ax.isNon];exact k.at am (.bl _) h⟩
mutual
inductive Snap(M:Mm):W->Lo->Prop
 | non:Snap M .non .none
 | bl (b:Bool):Snap M (.bl b) (.bool b)
 | int (i:Int):Snap M (.int i) (.int i)
 | str (x:Str):Snap M (.str x) (.str x)
 | tup {ws:List W} {ds:List Lo}:h9 M ws ds->Snap M (.tup ws) (.tuple ds)
 | rl {ws:List W} {ds:List Lo}:h9 M ws ds->Snap M (.rl ws) (.list ds)
 | ref {a:Addr} {ws:List W} {ds:List Lo}:M a=some (.lst ws)->h9 M ws ds->Snap M (.ref a) (.list ds)
inductive h9(M:Mm):List W->List Lo->Prop
 | nil:h9 M [] []
 | cons {w:W} {ws:List W} {d:Lo} {ds:List Lo}:Snap M w d->h9 M ws ds->h9 M (w :: ws) (d :: ds)
end
section
variable {pins:List (Addr×Obj)}{σ:SV}{H:Hp}{s:Ah}{M:Mm}
theorem h9.reads(I:Inv X pins σ H s)(am:AM X.K H M){ws:List W}{ds:List Lo}(h:h9 M ws ds):∀ {vs:List V} {us:List Ae},aM X.K H M vs ws->aZ vs us->∃ as,ReadsAll s.heap us ds as:=
 h9.rec (motive_1:=fun w d _=>∀ {v:V} {u:Ae},AV X.K H M v w->RelV v u->∃ as,Reads s.heap u d as) (motive_2:=fun ws ds _=>∀ {vs:List V} {us:List Ae},aM X.K H M vs ws->aZ vs us->∃ as,ReadsAll s.heap us ds as)
  (fun av r=>by rw[show _=_ from av.inv] at r;rw[show _=_ from r];exact⟨_,.none⟩)
  (fun b _ _ av r=>by rw[show _=_ from av.inv] at r;rw[show _=_ from r];exact⟨_,.bool b⟩)
  (fun i _ _ av r=>by rw[show _=_ from av.inv] at r;exact r.elim fun t r=>by rw[r];exact⟨_,.int i t⟩)
  (fun x _ _ av r=>by rw[show _=_ from av.inv] at r;exact r.elim fun t r=>by rw[r];exact⟨_,.str x t⟩)
  (fun _ ih _ _ av r=>av.tupE fun a xs e f q=>by
   rw[e] at r;rw[show _=_ from r]
   obtain⟨its,rv,⟨o,e1,e2,n,e3⟩,_⟩:=I.tuple (bN.of f)
   exact(ih q rv).elim fun as z=>⟨_,.tuple e1 e2 e3 (by simpa using z)⟩)
  (fun _ ih _ _ av r=>av.rlE fun a xs e f q=>by
   rw[e] at r;rw[show _=_ from r]
   obtain⟨its,rv,pl,_⟩:=I.list (bF.of f)
   obtain⟨o,e1,e2,n,e3⟩:=pl.isList
   exact(ih q rv).elim fun as z=>⟨_,.list e1 e2 e3 (by simpa using z)⟩)
  (fun e0 _ ih _ _ av r=>am.lstE e0 fun vs f q=>by
   rw[show _=_ from av.inv] at r;rw[show _=_ from r]
   obtain⟨its,rv,pl,_⟩:=I.list (bF.of f)
   obtain⟨o,e1,e2,n,e3⟩:=pl.isList
   exact(ih q rv).elim fun as z=>⟨_,.list e1 e2 e3 (by simpa using z)⟩)
  (fun av r=>by cases av;cases r;exact⟨_,.nil⟩)
  (fun _ _ ih1 ih2 _ _ av r=>by
   cases av with
   | cons a b=>
    cases r with
    | cons r1 r2=>exact(ih1 a r1).elim fun x q1=>(ih2 b r2).elim fun y q2=>⟨_,.cons q1 q2⟩) h
theorem Snap.reads(I:Inv X pins σ H s)(am:AM X.K H M){w:W}{d:Lo}{v:V}{u:Ae}(h:Snap M w d)(av:AV X.K H M v w)(r:RelV v u):∃ as,Reads s.heap u d as:=
 (h9.reads I am (.cons h .nil) (.cons av .nil) (.cons r .nil)).elim fun _ z=>by
  cases z with
  | cons q _=>exact⟨_,q⟩
end
def pO(neg:Bool):R3:=fun x y M R=>∃ da db,Snap M x da/\Snap M y db/\EK da/\EK db/\R (.bl (if neg then !PyData.eqv da db else Gf da db)) M
def rEq(neg:Bool):R3
 | .int i,.int j,M,R=>R (.bl (if neg then !decide (i=j) else decide (i=j))) M
 | .str i,.str j,M,R=>R (.bl (if neg then !decide (i=j) else decide (i=j))) M
 | .bl i,.bl j,M,R=>R (.bl (if neg then !decide (i=j) else decide (i=j))) M
 | x,y,M,R=>pO neg x y M R
theorem E9{i j:Int}:decide (V.int i=V.int j)=decide (i=j):=by rw[Eu];simp
theorem rZ{i j:Str}:decide (V.str i=V.str j)=decide (i=j):=by rw[Eu];simp
theorem FA{i j:Bool}:decide (V.bl i=V.bl j)=decide (i=j):=by rw[Eu];simp
theorem FC{n:Bool}{P:W->W->Prop}{M:Mm}{R:K3}(c1:∀ i j,R (.bl (if n then !decide (i=j) else decide (i=j))) M->P (.int i) (.int j))(c2:∀ i j,R (.bl (if n then !decide (i=j) else decide (i=j))) M->P (.str i) (.str j))
  (c3:∀ i j,R (.bl (if n then !decide (i=j) else decide (i=j))) M->P (.bl i) (.bl j)) (c4:∀ x y,pO n x y M R->P x y) (x y:W) (h:rEq n x y M R):P x y:=by
 cases x <;> first | exact c4 _ _ h | (cases y <;> first | exact c1 _ _ h | exact c2 _ _ h | exact c3 _ _ h | exact c4 _ _ h)
theorem sV{i j:V}{x y:V}(e:x=i)(f:y=j)(h:rD i j=true):rD x y=true:=by rw[e,f];exact h
theorem dV{i j:V}{x y:V}{b:Bool}{Q:Bool->Prop}(e:x=i)(f:y=j)(h:decide (i=j)=b)(q:Q b):Q (decide (x=y)):=by rw[e,f,h];exact q
theorem TH(hu:X.A.units + 64 < Fn):bG X (Bw .Eq) (cE X.K (pO false)):=by
 rintro pins s σ H x y v u Q I rx ry ⟨wx,wy,M,R,am,ax,ay,⟨da,db,ha,hb,fa,fb,q⟩,k⟩
 obtain⟨as,ra⟩:=ha.reads I am ax rx
 obtain⟨bs,rb⟩:=hb.reads I am ay ry
 exact SeqAt.compareEq_reads ra rb fa.1 fb.1 (Kz (Hb (Bc (Hm _ _) (Bc fa.2 (by decide))) _) hu) ⟨.bl _,H,I,rfl,k.at am (.bl _) q⟩
theorem TJ(hu:X.A.units + 64 < Fn):bG X (Bw .NotEq) (cE X.K (pO true)):=by
 rintro pins s σ H x y v u Q I rx ry ⟨wx,wy,M,R,am,ax,ay,⟨da,db,ha,hb,fa,fb,q⟩,k⟩
 obtain⟨as,ra⟩:=ha.reads I am ax rx
 obtain⟨bs,rb⟩:=hb.reads I am ay ry
 exact SeqAt.compareNe_reads ra rb fa.1 fb.1 (Kz (Hb (Bc (Hm _ _) (Bc fa.2 (by decide))) _) hu) ⟨.bl _,H,I,rfl,k.at am (.bl _) q⟩
theorem kN(hu:X.A.units + 64 < Fn):bG X (Bw .Eq) (cE X.K (rEq false)):=kK (NQ.or (TH hu)) fun x y H Q M R am k=>FC
 (fun i j h ax ay=>.inl ⟨sV ax.inv ay.inv rfl,dV (Q:=fun b=>Q (.bl b) H) ax.inv ay.inv E9 (k.at am (.bl _) h)⟩)
 (fun i j h ax ay=>.inl ⟨sV ax.inv ay.inv rfl,dV (Q:=fun b=>Q (.bl b) H) ax.inv ay.inv rZ (k.at am (.bl _) h)⟩)
 (fun i j h ax ay=>.inl ⟨sV ax.inv ay.inv rfl,dV (Q:=fun b=>Q (.bl b) H) ax.inv ay.inv FA (k.at am (.bl _) h)⟩)
 (fun wx wy h ax ay=>.inr ⟨wx,wy,M,R,am,ax,ay,h,k⟩)
theorem lI(hu:X.A.units + 64 < Fn):bG X (Bw .NotEq) (cE X.K (rEq true)):=kK (NR.or (TJ hu)) fun x y H Q M R am k=>FC
 (fun i j h ax ay=>.inl ⟨sV ax.inv ay.inv rfl,dV (Q:=fun b=>Q (.bl !b) H) ax.inv ay.inv E9 (k.at am (.bl _) h)⟩)
 (fun i j h ax ay=>.inl ⟨sV ax.inv ay.inv rfl,dV (Q:=fun b=>Q (.bl !b) H) ax.inv ay.inv rZ (k.at am (.bl _) h)⟩)
 (fun i j h ax ay=>.inl ⟨sV ax.inv ay.inv rfl,dV (Q:=fun b=>Q (.bl !b) H) ax.inv ay.inv FA (k.at am (.bl _) h)⟩)
 (fun wx wy h ax ay=>.inr ⟨wx,wy,M,R,am,ax,ay,h,k⟩)
def wK:aE->W
 | .inl i=>.int i
 | .inr x=>.str x
def bD{κ:Type}[DecidableEq κ](kvs:List (κ×W))(k:κ):Option W:=(kvs.find? fun kv=>decide (kv.1=k)).map (·.2)
def cC{κ:Type}[DecidableEq κ](kvs:List (κ×W))(k:κ)(v:W):List (κ×W):=
 if (kvs.any fun kv=>decide (kv.1=k))=true then kvs.map (fun kv=>if kv.1=k then(kv.1,v) else kv) else kvs ++ [(k,v)]
theorem AV.key{K:Ac}{H:Hp}{M:Mm}{v:V}{k:aE}(h:AV K H M v (wK k)):v=kV k:=by
 cases k <;> exact h.inv
theorem aM.keys{K:Ac}{H:Hp}{M:Mm}:∀ {vs:List V} {k:List aE},aM K H M vs (k.map wK)->vs=k.map kV
 | _,[],h=>by cases h;rfl
 | _,a :: r,h=>by
  cases h with
  | cons x y=>rw[x.key,aM.keys y];rfl
section
variable {κ:Type}[DecidableEq κ]{K:Ac}{H:Hp}{M:Mm}
theorem r6{ks:List (κ×V)}{kvs:List (κ×W)}(h:bS K H M κ ks kvs)(k:κ):(bD kvs k=none/\fP ks k=none)\/∃ v w,bD kvs k=some w/\fP ks k=some v/\AV K H M v w:=by
 induction h with
 | nil=>exact .inl ⟨rfl,rfl⟩
 | @cons p q ps qs r t ih=>
  by_cases e:p.1=k
  ·refine .inr ⟨p.2,q.2,?_,?_,r.2⟩
   ·unfold bD;rw[Fe,decide_eq_true (by rw[<-r.1];exact e)];rfl
   ·exact rJ e
  ·have e2:¬ q.1=k:=by rw[<-r.1];exact e
   have l:bD (q :: qs) k=bD qs k:=by unfold bD;rw[Fe,decide_eq_false e2]
   rw[l,rK e]
   exact ih
theorem TL{ks:List (κ×V)}{kvs:List (κ×W)}(h:bS K H M κ ks kvs)(k:κ):(ks.any fun kv=>decide (kv.1=k))=(kvs.any fun kv=>decide (kv.1=k)):=by
 induction h with
 | nil=>rfl
 | cons r t ih=>rw[Ge,Ge,ih,r.1]
theorem TM{ks:List (κ×V)}{kvs:List (κ×W)}{v:V}{w:W}{k:κ}(av:AV K H M v w)(h:bS K H M κ ks kvs):bS K H M κ (ks.map (fun kv=>if kv.1=k then(kv.1,v) else kv)) (kvs.map (fun kv=>if kv.1=k then(kv.1,w) else kv)):=by
 induction h with
 | nil=>exact .nil
 | @cons p q ps qs r t ih=>
  rw[Ay,Ay]
  refine .cons ?_ ih
  by_cases e:p.1=k
  ·rw[if_pos e,if_pos (by rw[<-r.1];exact e)];exact⟨r.1,av⟩
  ·rw[if_neg e,if_neg (by rw[<-r.1];exact e)];exact r
theorem TN{ks:List (κ×V)}{kvs:List (κ×W)}{v:V}{w:W}{k:κ}(av:AV K H M v w)(h:bS K H M κ ks kvs):bS K H M κ (ks ++ [(k,v)]) (kvs ++ [(k,w)]):=by
 induction h with
 | nil=>exact .cons ⟨rfl,av⟩ .nil
 | cons r t ih=>exact .cons r ih
theorem r9{ks:List (κ×V)}{kvs:List (κ×W)}{v:V}{w:W}(h:bS K H M κ ks kvs)(k:κ)(av:AV K H M v w):bS K H M κ (eJ ks k v) (cC kvs k w):=by
 unfold eJ cC
 rw[TL h k]
 split
 ·exact TM av h
 ·exact TN av h
end
def eR(M:Mm):W->W->Option W->Prop
 | .ref a,y,o=>(∃ kvs k,M a=some (.dK kvs)/\y=wK k/\o=bD kvs k)\/∃ kvs k,M a=some (.dT kvs)/\y=.tup (k.map wK)/\o=bD kvs k
 | .dk kvs,y,o=>∃ k,y=wK k/\o=bD kvs k
 | .dt kvs,y,o=>∃ k,y=.tup (k.map wK)/\o=bD kvs k
 | .fk kvs,y,o=>∃ k,y=wK k/\o=bD kvs k
 | .ft kvs,y,o=>∃ k,y=.tup (k.map wK)/\o=bD kvs k
 | _,_,_=>False
theorem v9{K:Ac}{H:Hp}{M:Mm}{a:Addr}{y:V}{k:aE}{ks:List (aE×V)}{kvs:List (aE×W)}(e1:Rd H a (.dK ks))(q:bS K H M aE ks kvs)(ay:AV K H M y (wK k)):(bD kvs k=none/\gO H a y none)\/∃ v w,bD kvs k=some w/\gO H a y (some v)/\AV K H M v w:=by
 rw[ay.key]
 rcases r6 q k with⟨l1,l2⟩ | ⟨v,w,l1,l2,av⟩
 ·exact .inl ⟨l1,by rw[<-l2];exact .inl ⟨_,_,e1,rfl,rfl⟩⟩
 ·exact .inr ⟨v,w,l1,by rw[<-l2];exact .inl ⟨_,_,e1,rfl,rfl⟩,av⟩
theorem wA{K:Ac}{H:Hp}{M:Mm}{a:Addr}{y:V}{k:List aE}{ks:List (List aE×V)}{kvs:List (List aE×W)}(e1:Rd H a (.dT ks))(q:bS K H M (List aE) ks kvs)(ay:AV K H M y (.tup (k.map wK))):(bD kvs k=none/\gO H a y none)\/∃ v w,bD kvs k=some w/\gO H a y (some v)/\AV K H M v w:=
 ay.tupE fun b xs e eb qb=>by
  rw[qb.keys] at eb
  rcases r6 q k with⟨l1,l2⟩ | ⟨v,w,l1,l2,av⟩
  ·exact .inl ⟨l1,by rw[<-l2];exact .inr ⟨_,_,_,e1,e,eb,rfl⟩⟩
  ·exact .inr ⟨v,w,l1,by rw[<-l2];exact .inr ⟨_,_,_,e1,e,eb,rfl⟩,av⟩
theorem sA{K:Ac}{H:Hp}{M:Mm}{x y:V}{wx wy:W}{o:Option W}(am:AM K H M)(ax:AV K H M x wx)(ay:AV K H M y wy)(h:eR M wx wy o):∃ a,x=.ref a/\((o=none/\gO H a y none)\/∃ v w,o=some w/\gO H a y (some v)/\AV K H M v w):=by
 cases wx <;> first | exact(show False from h).elim | skip
 case ref a=>
  rcases h with⟨kvs,k,e,rfl,rfl⟩ | ⟨kvs,k,e,rfl,rfl⟩
  ·obtain⟨ks,e1,q⟩:=am _ _ e
   exact⟨a,ax.inv,v9 (.inl e1) q ay⟩
  ·obtain⟨ks,e1,q⟩:=am _ _ e
   exact⟨a,ax.inv,wA (.inl e1) q ay⟩
 all_goals
  obtain⟨k,rfl,rfl⟩:=h
  have ax:=ax.inv
 case dk=>obtain⟨a,ks,e,f,_,q⟩:=ax;exact⟨a,e,v9 (.inl f) q ay⟩
 case dt=>obtain⟨a,ks,e,f,_,q⟩:=ax;exact⟨a,e,wA (.inl f) q ay⟩
 case fk=>obtain⟨a,ks,e,f,q⟩:=ax;exact⟨a,e,v9 (.inr f) q ay⟩
 case ft=>obtain⟨a,ks,e,f,q⟩:=ax;exact⟨a,e,wA (.inr f) q ay⟩
def aN:R3
 | .tup ws,.int i,M,R=>∃ w,cB ws i=some w/\R w M
 | .rl ws,.int i,M,R=>∃ w,cB ws i=some w/\R w M
 | .sc ws,.int i,M,R=>∃ w,cB ws i=some w/\R w M
 | .dk kvs,y,M,R=>∃ w,eR M (.dk kvs) y (some w)/\R w M
 | .dt kvs,y,M,R=>∃ w,eR M (.dt kvs) y (some w)/\R w M
 | .fk kvs,y,M,R=>∃ w,eR M (.fk kvs) y (some w)/\R w M
 | .ft kvs,y,M,R=>∃ w,eR M (.ft kvs) y (some w)/\R w M
 | .str z,.int i,M,R=>z.length<=Am/\∃ c,cB z.cps.toList i=some c/\R (.str ⟨#[c]⟩) M
 | .ref a,.int i,M,R=>(∃ ws w,M a=some (.lst ws)/\cB ws i=some w/\R w M)\/∃ w,eR M (.ref a) (.int i) (some w)/\R w M
 | .ref a,y,M,R=>∃ w,eR M (.ref a) y (some w)/\R w M
 | _,_,_,_=>False
theorem wB{K:Ac}{H:Hp}{M:Mm}{vs:List V}{ws:List W}{i:Int}{w:W}(q:aM K H M vs ws)(h:cB ws i=some w):∃ v,cB vs i=some v/\AV K H M v w:=by
 unfold cB at h ⊢
 rw[q.length]
 cases e:hX ws.length i with
 | none=>rw[e] at h;cases h
 | some j=>
  rw[e] at h
  exact q.getW (i:=j) h
theorem TQ(hu:X.A.units + 1 < Fn):iF X (fun x y H Q=>∃ a v,x=.ref a/\gO H a y (some v)/\Q v H):=by
 intro value slice pins s σ H x y v u Q I rx ry h hs
 obtain⟨a,z,rfl,g,q⟩:=h
 cases rx
 exact tail_any (QW I g) PySem.F.slot_dict_getitem.lookup (QP hu I g ry fun w' s3 I3 rw'=>⟨z,H,I3,rw',q⟩) hs
theorem TR{P:W->W->Prop}{M:Mm}{R:K3}(c1:∀ ws i w,cB ws i=some w->R w M->P (.tup ws) (.int i))(c2:∀ ws i w,cB ws i=some w->R w M->P (.sc ws) (.int i))
  (c3:∀ x ws i w,jU M x ws->cB ws i=some w->R w M->P x (.int i)) (c4:∀ z i,z.length<=Am/\(∃ c,cB z.cps.toList i=some c/\R (.str ⟨#[c]⟩) M)->P (.str z) (.int i))
  (c5:∀ x y w,eR M x y (some w)->R w M->P x y) (x y:W) (h:aN x y M R):P x y:=by
 cases x
 case non | bl | int | ty=>exact(show False from h).elim
 case dk | dt | fk | ft=>exact h.elim fun w h=>c5 _ _ _ h.1 h.2
 all_goals cases y <;> first | exact(show False from h).elim | skip
 case tup.int=>obtain⟨w,e,r⟩:=h;exact c1 _ _ _ e r
 case sc.int=>obtain⟨w,e,r⟩:=h;exact c2 _ _ _ e r
 case rl.int=>obtain⟨w,e,r⟩:=h;exact c3 _ _ _ _ rfl e r
 case str.int=>exact c4 _ _ h
 case ref.int=>exact h.elim (fun⟨ws,w,e,e2,r⟩=>c3 _ _ _ _ e e2 r) fun⟨w,e,r⟩=>c5 _ _ _ e r
 all_goals obtain⟨w,e,r⟩:=h;exact c5 _ _ _ e r
theorem TU(hu:X.A.units + 1 < Fn):iF X (cE X.K aN):=SY (PR.or (PU.or (PV.or (TQ hu)))) fun x y H Q M R am k=>TR
 (fun ws i w h r ax ay=>ax.tupE fun a xs e f q=>let ⟨z,e3,av⟩:=wB q h;.inr (.inl ⟨a,xs,i,z,e,ay.inv,bN.of f,e3,k.at am av r⟩))
 (fun ws i w h r ax ay=>ax.scE fun a xs e f q=>let ⟨z,e3,av⟩:=wB q h;.inl ⟨a,xs,i,z,e,ay.inv,f.sq,e3,k.at am av r⟩)
 (fun wx ws i w h1 h r ax ay=>let ⟨a,xs,e,f,q⟩:=kL am ax h1;let ⟨z,e3,av⟩:=wB q h;.inl ⟨a,xs,i,z,e,ay.inv,bF.of f,e3,k.at am av r⟩)
 (fun z i h ax ay=>let ⟨c,e,r⟩:=h.2;.inr (.inr (.inl ⟨z,i,c,ax.inv,ay.inv,h.1,e,k.at am (.str _) r⟩)))
 (fun wx wy w g r ax ay=>.inr (.inr (.inr (by
  obtain⟨a,e,g⟩:=sA am ax ay g
  rcases g with⟨z,_⟩ | ⟨z,w',e',g',av⟩
  ·cases z
  ·exact⟨a,z,e,g',k.at am av (by rw[<-Cr e'];exact r)⟩))))
variable {a b:Expr}{ta tb:aX}{pos:Pos}
theorem aR(hu:X.A.units + 1 < Fn)(ha:E3 X a ta)(hb:E3 X b tb)(hs:DY b:=by exact fun _ _=>rfl):E3 X (.Subscript a b pos) (aD aN ta tb):=(PL (TU hu) ha hb hs).weak fun _ _ _ h=>rV h
def dW(ws:List W)(lo hi:Option Int):List W:=(ws.drop (HT.sIx ws.length 0 lo)).take (HT.sIx ws.length ws.length hi - HT.sIx ws.length 0 lo)
def wC:W->Option Int->Option Int->Mm->K3->Prop
 | .rl ws,lo,hi,M,R=>bA (dW ws lo hi) M R
 | .sc ws,lo,hi,M,R=>bA (dW ws lo hi) M R
 | .ref a,lo,hi,M,R=>∃ ws,M a=some (.lst ws)/\bA (dW ws lo hi) M R
 | .tup ws,lo,hi,M,R=>¬ (HT.sIx ws.length 0 lo=0/\HT.sIx ws.length ws.length hi=ws.length)/\R (.tup (dW ws lo hi)) M
 | _,_,_,_,_=>False
theorem sC{K:Ac}{H:Hp}{M:Mm}{vs:List V}{ws:List W}{lo hi:Option Int}(q:aM K H M vs ws):aM K H M (k9 vs lo hi) (dW ws lo hi):=by
 unfold k9 dW
 rw[q.length]
 exact(q.drop _).take _
def TV(K:Ac)(r:W->Option Int->Option Int->Mm->K3->Prop):V->Option Int->Option Int->Hp->VK->Prop:=fun x lo hi H Q=>∃ wx M R,AM K H M/\AV K H M x wx/\r wx lo hi M R/\Up K H M R Q
theorem FD:rG X (TV X.K wC):=by
 rintro pins s σ H x v vl vu lo hi sl Q I rx hs pl pu ⟨wx,M,R,am,ax,h,k⟩
 cases wx <;> first | exact(show False from h).elim | skip
 case tup ws=>exact ax.tupE fun a xs e f q=>PH pins s σ H _ v vl vu lo hi sl Q I rx hs pl pu ⟨a,xs,e,bN.of f,by rw[q.length];exact h.1,fun p hp=>laidT am k hp (sC q) h.2⟩
 case sc ws=>exact ax.scE fun a xs e f q=>u9 pins s σ H _ v vl vu lo hi sl Q I rx hs pl pu ⟨a,xs,e,f.sq,fun p hp=>iK am k hp (sC q) h⟩
 case rl ws=>exact ax.rlE fun a xs e f q=>u9 pins s σ H _ v vl vu lo hi sl Q I rx hs pl pu ⟨a,xs,e,bF.of f,fun p hp=>iK am k hp (sC q) h⟩
 case ref a=>
  obtain⟨ws,e,r⟩:=h
  exact am.lstE e fun vs f q=>u9 pins s σ H _ v vl vu lo hi sl Q I rx hs pl pu ⟨a,vs,ax.inv,bF.of f,fun p hp=>iK am k hp (sC q) r⟩
abbrev lJ:=S3->Mm->(Option Int->Mm->Prop)->Prop
def lK(K:Ac)(t:lJ):TO:=fun σ H Q=>∃ (τ:S3) (M:Mm) (R:Option Int->Mm->Prop),AS K H M σ τ/\AM K H M/\t τ M R/\∀ o H' M',Kp H M H' M'->AM K H' M'->R o M'->Q o H'
theorem lK.el{K:Ac}{H:Hp}{σ:SV}{C:Prop}{t:lJ}{Q:Option Int->Hp->Prop}(h:lK K t σ H Q)(c:∀ τ M R,AS K H M σ τ->AM K H M->t τ M R->(∀ o H' M',Kp H M H' M'->AM K H' M'->R o M'->Q o H')->C):C:=by obtain⟨τ,M,R,a,b,h,k⟩:=h;exact c τ M R a b h k
def pP:lJ:=fun _ M Q=>Q none M
def kO(t:aX):lJ:=fun τ M Q=>t τ M fun x M1=>∃ i,x=.int i/\Q (some i) M1
theorem sD:PO X none (lK X.K pP):=PB.weak fun σ H Q z0=>z0.el fun τ M R as am h k=>k none H M (Kp.refl am) am h
theorem lL(h:E3 X a ta):PO X (some a) (lK X.K (kO ta)):=(PC h).weak fun σ H Q z0=>z0.el fun τ M R as am h k=>⟨τ,M,_,as,am,h,fun x H1 wx M1 k1 am1 ax ⟨i,e,h1⟩=>by
 subst e;exact⟨i,ax.inv,k _ _ _ k1 am1 h1⟩⟩
def FE(ta:aX)(tl th:lJ):aX:=fun τ M R=>ta τ M fun x M1=>tl τ M1 fun l M2=>th τ M2 fun u M3=>wC x l u M3 R
theorem TX{lo hi:Option Expr}{tl th:lJ}{p2:Pos}(he:E3 X a ta)(hl:PO X lo (lK X.K tl))(hu:PO X hi (lK X.K th)):E3 X (.Subscript a (.Slice lo hi none p2) pos) (FE ta tl th):=
 (DU FD he hl hu).weak fun σ H Q z0=>z0.el fun τ M R as am h k=>⟨τ,M,_,as,am,h,fun x H1 wx M1 k1 am1 ax h1=>⟨τ,M1,_,as.kp am k1,am1,h1,fun l H2 M2 k2 am2 h2=>⟨τ,M2,_,(as.kp am k1).kp am1 k2,am2,h2,fun u H3 M3 k3 am3 h3=>
  ⟨wx,M3,R,am3,(ax.kp am1 k2).kp am2 k3,h3,((k.kp k1).kp k2).kp k3⟩⟩⟩⟩
def fF:W->Bool
 | .non=>true
 | .bl _=>true
 | .int _=>true
 | .str _=>true
 | _=>false
def wD:W->W->Bool
 | .non,.non=>true
 | .bl a,.bl b=>a == b
 | .bl a,.int b=>(if a then 1 else 0) == b
 | .int a,.bl b=>a == (if b then 1 else 0)
 | .int a,.int b=>a == b
 | .str a,.str b=>a == b
 | _,_=>false
def inW(x:W)(ws:List W):Bool:=ws.any fun y=>wD y x
theorem AV.flat{K:Ac}{H:Hp}{M:Mm}{v:V}{w:W}(h:AV K H M v w)(f:fF w=true):jM v=true:=by cases h <;> first | rfl | exact f
def wF:W->V
 | .non=>.non
 | .bl b=>.bl b
 | .int i=>.int i
 | .str x=>.str x
 | _=>.non
theorem AV.flv{K:Ac}{H:Hp}{M:Mm}{v:V}{w:W}(h:AV K H M v w)(f:fF w=true):v=wF w:=by
 cases w <;> first | exact h.inv | exact absurd f Ar
theorem TY:∀ {w z:W},fF w=true->fF z=true->jN (wF w) (wF z)=wD w z:=by
 intro w z f g
 cases w <;> first | exact absurd f Ar | (cases z <;> first | rfl | exact absurd g Ar)
theorem AV.eq{K:Ac}{H:Hp}{M:Mm}{v u:V}{w z:W}(h:AV K H M v w)(h2:AV K H M u z)(f:fF w=true)(f2:fF z=true):jN v u=wD w z:=by
 rw[h.flv f,h2.flv f2];exact TY f f2
theorem aM.inn{K:Ac}{H:Hp}{M:Mm}{u:V}{z:W}(hz:AV K H M u z)(fz:fF z=true):∀ {vs:List V} {ws:List W},aM K H M vs ws->ws.all fF=true->vs.all jM=true/\inV u vs=inW z ws
 | _,_,.nil,_=>⟨rfl,rfl⟩
 | _,_,.cons x r,f=>by
  rw[Iz,Cj] at f
  obtain⟨h1,h2⟩:=aM.inn hz fz r f.2
  refine⟨by rw[Iz,x.flat f.1,h1];rfl,?_⟩
  unfold inV inW at h2 ⊢
  rw[Ge,Ge,h2,x.eq hz f.1 fz]
def occ(i j:Str):Bool:=!(Ik j i 0 j.length 1).isEmpty
def rIn(neg:Bool):R3
 | .str i,.str j,M,R=>R (.bl (if neg then !occ i j else occ i j)) M
 | x,.tup ws,M,R=>fF x=true/\ws.all fF=true/\R (.bl (if neg then !inW x ws else inW x ws)) M
 | x,.rl ws,M,R=>fF x=true/\ws.all fF=true/\R (.bl (if neg then !inW x ws else inW x ws)) M
 | x,.ref a,M,R=>(∃ ws,M a=some (.lst ws)/\fF x=true/\ws.all fF=true/\R (.bl (if neg then !inW x ws else inW x ws)) M)\/∃ o,eR M (.ref a) x o/\R (.bl (if neg then !o.isSome else o.isSome)) M
 | x,.dk kvs,M,R=>∃ o,eR M (.dk kvs) x o/\R (.bl (if neg then !o.isSome else o.isSome)) M
 | x,.dt kvs,M,R=>∃ o,eR M (.dt kvs) x o/\R (.bl (if neg then !o.isSome else o.isSome)) M
 | x,.fk kvs,M,R=>∃ o,eR M (.fk kvs) x o/\R (.bl (if neg then !o.isSome else o.isSome)) M
 | x,.ft kvs,M,R=>∃ o,eR M (.ft kvs) x o/\R (.bl (if neg then !o.isSome else o.isSome)) M
 | _,_,_,_=>False
def FF(M:Mm):W->List W->Prop
 | .tup ws,zs=>ws=zs
 | x,ws=>jU M x ws
theorem FG{K:Ac}{H:Hp}{M:Mm}{v:V}{w:W}{ws:List W}(am:AM K H M)(h:AV K H M v w)(e:FF M w ws):∃ a xs,v=.ref a/\(bF K H a xs\/bN K H a xs)/\aM K H M xs ws:=by
 cases w
 case tup zs=>exact h.tupE fun a xs e1 f q=>⟨_,_,e1,.inr (bN.of f),by rw[<-show zs=ws from e];exact q⟩
 case ref | rl=>obtain⟨a,xs,e1,f,q⟩:=kL am h e;exact⟨a,xs,e1,.inl (bF.of f),q⟩
 all_goals exact(show False from e).elim
theorem FH{n:Bool}{P:W->W->Prop}{M:Mm}{R:K3}(c1:∀ i j,R (.bl (if n then !occ i j else occ i j)) M->P (.str i) (.str j))
  (c2:∀ x y ws,FF M y ws->fF x=true/\ws.all fF=true/\R (.bl (if n then !inW x ws else inW x ws)) M->P x y)
  (c3:∀ x y o,eR M y x o->R (.bl (if n then !o.isSome else o.isSome)) M->P x y) (x y:W) (h:rIn n x y M R):P x y:=by
 cases y
 case non | bl | int | ty | sc=>exfalso;cases x <;> exact h
 case str=>cases x <;> first | exact(show False from h).elim | exact c1 _ _ h
 case tup=>exact c2 _ _ _ rfl (by cases x <;> exact h)
 case rl=>exact c2 _ _ _ rfl (by cases x <;> exact h)
 case ref a=>
  have h:(∃ ws,M a=some (.lst ws)/\fF x=true/\ws.all fF=true/\R (.bl (if n then !inW x ws else inW x ws)) M)\/∃ o,eR M (.ref a) x o/\R (.bl (if n then !o.isSome else o.isSome)) M:=by cases x <;> exact h
  exact h.elim (fun⟨ws,e,h⟩=>c2 _ _ _ e h) fun⟨o,g,r⟩=>c3 _ _ _ g r
 case dk kvs=>have h:∃ o,eR M (.dk kvs) x o/\R (.bl (if n then !o.isSome else o.isSome)) M:=(by cases x <;> exact h);exact h.elim fun o h=>c3 _ _ _ h.1 h.2
 case dt kvs=>have h:∃ o,eR M (.dt kvs) x o/\R (.bl (if n then !o.isSome else o.isSome)) M:=(by cases x <;> exact h);exact h.elim fun o h=>c3 _ _ _ h.1 h.2
 case fk kvs=>have h:∃ o,eR M (.fk kvs) x o/\R (.bl (if n then !o.isSome else o.isSome)) M:=(by cases x <;> exact h);exact h.elim fun o h=>c3 _ _ _ h.1 h.2
 case ft kvs=>have h:∃ o,eR M (.ft kvs) x o/\R (.bl (if n then !o.isSome else o.isSome)) M:=(by cases x <;> exact h);exact h.elim fun o h=>c3 _ _ _ h.1 h.2
def FJ(n:Bool):R2:=fun x y H Q=>∃ a o,y=.ref a/\gO H a x o/\Q (.bl (if n then !o.isSome else o.isSome)) H
theorem TZ(hu:X.A.units + 1 < Fn):bG X (Bw .In) (FJ false):=by
 rintro pins s σ H x y v u Q I rx ry ⟨a,o,rfl,g,q⟩
 cases ry
 exact QQ hu I g rx fun s3 I3=>⟨.bl _,H,I3,rfl,q⟩
theorem T4(hu:X.A.units + 1 < Fn):bG X (Bw .NotIn) (FJ true):=by
 rintro pins s σ H x y v u Q I rx ry ⟨a,o,rfl,g,q⟩
 cases ry
 exact QS hu I g rx fun s3 I3=>⟨.bl _,H,I3,rfl,q⟩
theorem FK{K:Ac}{H:Hp}{M:Mm}{x y:V}{wx wy:W}{o:Option W}(am:AM K H M)(ax:AV K H M x wx)(ay:AV K H M y wy)(h:eR M wx wy o):∃ a o',x=.ref a/\gO H a y o'/\o'.isSome=o.isSome:=by
 obtain⟨a,e,⟨rfl,g⟩ | ⟨v,w,rfl,g,_⟩⟩:=sA am ax ay h
 ·exact⟨a,_,e,g,rfl⟩
 ·exact⟨a,_,e,g,rfl⟩
theorem i7(hu:X.A.units + 1 < Fn):bG X (Bw .In) (cE X.K (rIn false)):=kK (NW.or (P5.or (TZ hu))) fun x y H Q M R am k=>FH
 (fun i j h ax ay=>.inl ⟨i,j,ax.inv,ay.inv,k.at am (.bl _) h⟩)
 (fun wx wy ws e h ax ay=>let ⟨a,xs,e1,f,q⟩:=FG am ay e;.inr (.inl ⟨a,xs,e1,f,ax.flat h.1,(aM.inn ax h.1 q h.2.1).1,by rw[(aM.inn ax h.1 q h.2.1).2];exact k.at am (.bl _) h.2.2⟩))
 (fun wx wy o g r ax ay=>let ⟨a,o',e,g,z⟩:=FK am ay ax g;.inr (.inr ⟨a,o',e,g,by rw[z];exact k.at am (.bl _) r⟩))
theorem nP(hu:X.A.units + 1 < Fn):bG X (Bw .NotIn) (cE X.K (rIn true)):=kK (NY.or (P6.or (T4 hu))) fun x y H Q M R am k=>FH
 (fun i j h ax ay=>.inl ⟨i,j,ax.inv,ay.inv,k.at am (.bl _) h⟩)
 (fun wx wy ws e h ax ay=>let ⟨a,xs,e1,f,q⟩:=FG am ay e;.inr (.inl ⟨a,xs,e1,f,ax.flat h.1,(aM.inn ax h.1 q h.2.1).1,by rw[(aM.inn ax h.1 q h.2.1).2];exact k.at am (.bl _) h.2.2⟩))
 (fun wx wy o g r ax ay=>let ⟨a,o',e,g,z⟩:=FK am ay ax g;.inr (.inr ⟨a,o',e,g,by rw[z];exact k.at am (.bl _) r⟩))
def cX:List W->Mm->K3->Prop
 | [.tup ws],M,R=>R (.int ws.length) M
 | [.rl ws],M,R=>R (.int ws.length) M
 | [.sc ws],M,R=>R (.int ws.length) M
 | [.dk kvs],M,R=>R (.int kvs.length) M
 | [.str z],M,R=>z.length<=Am/\R (.int z.length) M
 | [.ref a],M,R=>(∃ ws,M a=some (.lst ws)/\R (.int ws.length) M)\/∃ kvs,M a=some (.dK kvs)/\R (.int kvs.length) M
 | _,_,_=>False
theorem T5{P:List W->Prop}{M:Mm}{R:K3}(c1:∀ ws,R (.int ws.length) M->P [.tup ws])(c2:∀ ws,R (.int ws.length) M->P [.sc ws])(c3:∀ x ws,jU M x ws->R (.int ws.length) M->P [x])
  (c4:∀ z,z.length<=Am/\R (.int z.length) M->P [.str z]) (c5:∀ kvs,R (.int kvs.length) M->P [.dk kvs]) (c6:∀ a kvs,M a=some (.dK kvs)->R (.int kvs.length) M->P [.ref a]) (l:List W) (h:cX l M R):P l:=by
 match l,h with
 | [.tup _],h=>exact c1 _ h
 | [.rl _],h=>exact c3 _ _ rfl h
 | [.sc _],h=>exact c2 _ h
 | [.dk _],h=>exact c5 _ h
 | [.str _],h=>exact c4 _ h
 | [.ref _],h=>exact h.elim (fun⟨ws,e,r⟩=>c3 _ _ e r) fun⟨ws,e,r⟩=>c6 _ _ e r
theorem dC:dA X (.builtin "len") (gC X.K cX):=vY (P7.or (P8.or RA)) fun xs H Q M R am k=>T5
 (fun ws h ax=>ax.oneE fun v e1 av=>av.tupE fun a us e f q=>.inl ⟨_,_,gZ e1 e,.inr (bN.of f),by rw[q.length];exact k.at am (.int _) h⟩)
 (fun ws h ax=>ax.oneE fun v e1 av=>av.scE fun a us e f q=>.inl ⟨_,_,gZ e1 e,.inl f.sq,by rw[q.length];exact k.at am (.int _) h⟩)
 (fun x ws e0 h ax=>ax.oneE fun v e1 av=>let ⟨a,us,e,f,q⟩:=kL am av e0;.inl ⟨_,_,gZ e1 e,.inl (bF.of f),by rw[q.length];exact k.at am (.int _) h⟩)
 (fun z h ax=>ax.oneE fun v e1 av=>.inr (.inl ⟨z,gZ e1 av.inv,h.1,k.at am (.int _) h.2⟩))
 (fun kvs h ax=>ax.oneE fun v e1 av=>let ⟨a,ks,e,f,_,q⟩:=av.inv;.inr (.inr ⟨a,ks,gZ e1 e,f,by rw[Ee q];exact k.at am (.int _) h⟩))
 (fun a kvs e0 h ax=>ax.oneE fun v e1 av=>let ⟨ks,f,q⟩:=am _ _ e0;.inr (.inr ⟨a,ks,gZ e1 av.inv,f,by rw[Ee q];exact k.at am (.int _) h⟩))
def sE:List W->Mm->K3->Prop
 | [.tup ws],M,R=>bA ws M R
 | [.rl ws],M,R=>bA ws M R
 | [.sc ws],M,R=>bA ws M R
 | [.dk kvs],M,R=>bA (kvs.map fun kv=>wK kv.1) M R
 | [.ref a],M,R=>(∃ ws,M a=some (.lst ws)/\bA ws M R)\/∃ kvs,M a=some (.dK kvs)/\bA (kvs.map fun kv=>wK kv.1) M R
 | _,_,_=>False
theorem FL{K:Ac}{H:Hp}{M:Mm}{ks:List (aE×V)}{kvs:List (aE×W)}(h:bS K H M aE ks kvs):aM K H M (ks.map fun kv=>kV kv.1) (kvs.map fun kv=>wK kv.1):=by
 induction h with
 | nil=>exact .nil
 | @cons p q ps qs r t ih=>
  refine .cons ?_ ih
  show AV K H M (kV p.1) (wK q.1)
  rw[r.1]
  cases q.1 with
  | inl i=>exact .int i
  | inr x=>exact .str x
theorem T6{P:List W->Prop}{M:Mm}{R:K3}(c1:∀ ws,bA ws M R->P [.tup ws])(c2:∀ ws,bA ws M R->P [.sc ws])(c3:∀ x ws,jU M x ws->bA ws M R->P [x])
  (c5:∀ kvs:List (aE×W),bA (kvs.map fun kv=>wK kv.1) M R->P [.dk kvs]) (c6:∀ a kvs,M a=some (.dK kvs)->bA (kvs.map fun kv=>wK kv.1) M R->P [.ref a]) (l:List W) (h:sE l M R):P l:=by
 match l,h with
 | [.tup _],h=>exact c1 _ h
 | [.rl _],h=>exact c3 _ _ rfl h
 | [.sc _],h=>exact c2 _ h
 | [.dk _],h=>exact c5 _ h
 | [.ref _],h=>exact h.elim (fun⟨ws,e,r⟩=>c3 _ _ e r) fun⟨ws,e,r⟩=>c6 _ _ e r
theorem wH(hc:X.calm=true):dA X (.type "list") (gC X.K sE):=vY (P9.or (RY hc)) fun xs H Q M R am k=>T6
 (fun ws h ax=>ax.oneE fun v e1 av=>av.tupE fun a us e f q=>.inl ⟨_,_,gZ e1 e,.inr (bN.of f),fun p hp=>iK am k hp q h⟩)
 (fun ws h ax=>ax.oneE fun v e1 av=>av.scE fun a us e f q=>.inl ⟨_,_,gZ e1 e,.inl f.sq,fun p hp=>iK am k hp q h⟩)
 (fun x ws e0 h ax=>ax.oneE fun v e1 av=>let ⟨a,us,e,f,q⟩:=kL am av e0;.inl ⟨_,_,gZ e1 e,.inl (bF.of f),fun p hp=>iK am k hp q h⟩)
 (fun kvs h ax=>ax.oneE fun v e1 av=>let ⟨a,ks,e,f,_,q⟩:=av.inv;.inr ⟨a,ks,gZ e1 e,f,fun p hp=>iK am k hp (FL q) h⟩)
 (fun a kvs e0 h ax=>ax.oneE fun v e1 av=>let ⟨ks,f,q⟩:=am _ _ e0;.inr ⟨a,ks,gZ e1 av.inv,f,fun p hp=>iK am k hp (FL q) h⟩)
def sF:List W->Mm->K3->Prop
 | [.tup ws],M,R=>R (.tup ws) M
 | [.rl ws],M,R=>R (.tup ws) M
 | [.ref a],M,R=>∃ ws,M a=some (.lst ws)/\R (.tup ws) M
 | _,_,_=>False
theorem T7{P:List W->Prop}{M:Mm}{R:K3}(c1:∀ ws,R (.tup ws) M->P [.tup ws])(c3:∀ x ws,jU M x ws->R (.tup ws) M->P [x])(l:List W)(h:sF l M R):P l:=by
 match l,h with
 | [.tup _],h=>exact c1 _ h
 | [.rl _],h=>exact c3 _ _ rfl h
 | [.ref _],h=>exact h.elim fun ws h=>c3 _ _ h.1 h.2
theorem FN:dA X (.type "tuple") (gC X.K sF):=vY QA fun xs H Q M R am k=>T7
 (fun ws h ax=>ax.oneE fun v e1 av=>av.tupE fun a us e f q=>⟨_,_,gZ e1 e,.inr ⟨bN.of f,k.at am (by rw[<-e];exact av) h⟩⟩)
 (fun x ws e0 h ax=>ax.oneE fun v e1 av=>let ⟨a,us,e,f,q⟩:=kL am av e0;⟨_,_,gZ e1 e,.inl ⟨bF.of f,fun p hp=>laidT am k hp q h⟩⟩)
def bools(bs:List Bool):List W:=bs.map W.bl
theorem aM.bools{K:Ac}{H:Hp}{M:Mm}:∀ {bs:List Bool} {vs:List V},aM K H M vs (L3.bools bs)->vs=bs.map V.bl
 | [],_,h=>by cases h;rfl
 | b :: r,_,h=>by
  cases h with
  | cons x y=>cases x;rw[aM.bools y];rfl
theorem aM.ints{K:Ac}{H:Hp}{M:Mm}:∀ {bs:List Int} {vs:List V},aM K H M vs (bs.map W.int)->vs=bs.map V.int
 | [],_,h=>by cases h;rfl
 | b :: r,_,h=>by
  cases h with
  | cons x y=>cases x;rw[aM.ints y];rfl
def FO:List W->Mm->K3->Prop
 | [.ref a],M,R=>∃ bs,M a=some (.lst (bools bs))/\R (.bl (bs.all id)) M
 | [.rl ws],M,R=>∃ bs,ws=bools bs/\R (.bl (bs.all id)) M
 | _,_,_=>False
theorem T8(hc:X.calm=true):dA X (.builtin "all") (gC X.K FO):=by
 rintro pins s σ H xs us Q I rs ⟨ws,M,R,am,axs,h,k⟩
 match ws,h with
 | [.ref a],h=>
  obtain⟨v,rfl,av⟩:=axs.one
  cases av
  obtain⟨bs,e,r⟩:=h
  obtain⟨vs,f,q⟩:=am.lst e
  rw[q.bools] at f
  exact ED hc pins s σ H _ us Q I rs ⟨a,bs,rfl,bF.of f,k.at am (.bl _) r⟩
 | [.rl ws],h=>
  obtain⟨v,rfl,av⟩:=axs.one
  obtain⟨bs,rfl,r⟩:=h
  cases av with
  | rl f _ q=>
   rw[q.bools] at f
   exact ED hc pins s σ H _ us Q I rs ⟨_,bs,rfl,bF.of f,k.at am (.bl _) r⟩
def fG:W->List W->Mm->K3->Prop
 | .ref l,[y],M,R=>∃ ws,M l=some (.lst ws)/\ws.length < Am/\R .non (put M l (.lst (ws ++ [y])))
 | _,_,_,_=>False
theorem i8:iG X "list.append" (kF X.K fG):=by
 rintro pins s σ H x xs v us Q I rx rs ⟨wx,ws,M,R,am,ax,axs,h,k⟩
 match wx,ws,h with
 | .ref l,[y],h=>
  obtain⟨z,rfl,az⟩:=axs.one
  cases ax
  obtain⟨ws,e,hl,r⟩:=h
  obtain⟨vs,f,q⟩:=am.lst e
  exact D1 pins s σ H _ _ v us Q I rx rs ⟨l,vs,z,rfl,rfl,f,by rw[q.length];exact hl,vW am k e (q.append (.cons az .nil)) .non r⟩
def rPop:W->List W->Mm->K3->Prop
 | .ref l,[],M,R=>∃ ws w,M l=some (.lst (ws ++ [w]))/\R w (put M l (.lst ws))
 | _,_,_,_=>False
theorem wI:iG X "list.pop" (kF X.K rPop):=by
 rintro pins s σ H x xs v us Q I rx rs ⟨wx,ws,M,R,am,ax,axs,h,k⟩
 match wx,ws,h with
 | .ref l,[],h=>
  cases axs
  cases ax
  obtain⟨ws,w,e,r⟩:=h
  obtain⟨vs,f,q⟩:=am.lst e
  have hl:=q.length
  rw[Ao,Cd] at hl
  obtain⟨z,hz,az⟩:=q.getW (i:=ws.length) (w:=w) (by simp)
  refine QH pins s σ H _ _ v us Q I rx rs ⟨l,vs,z,rfl,rfl,f,by rw[hl];exact hz,vW am k e ?_ az r⟩
  have:=q.dropLast
  rw[List.dropLast_concat] at this
  exact this
def FP:aX:=fun _ M R=>SN [] M R
def lM:aX:=fun _ M R=>iH [] M R
theorem T9:E3 X (.Dict [] [] pos) FP:=Q0.weak fun σ H Q ⟨τ,M,R,as,am,h,k⟩ p hp=>by
 obtain⟨am2,k2⟩:=am.laid (o:=.dK []) (u:=.dK []) hp ⟨[],cU,.nil⟩
 exact k _ _ _ _ k2 am2 (.ref p) (h p (am.nonM hp))
theorem mK:E3 X (.Dict [] [] pos) lM:=Q1.weak fun σ H Q ⟨τ,M,R,as,am,h,k⟩ p hp=>by
 obtain⟨am2,k2⟩:=am.laid (o:=.dT []) (u:=.dT []) hp ⟨[],cU,.nil⟩
 exact k _ _ _ _ k2 am2 (.ref p) (h p (am.nonM hp))
end
abbrev P3(X:Cx)(st:Stmt)(t:aJ):Prop:=PS X st (pF X.K t)
abbrev jV(X:Cx)(st:List Stmt)(t:aJ):Prop:=fM X st (pF X.K t)
abbrev eS:=W->S3->Mm->(S3->Mm->Prop)->Prop
abbrev lN:=List W->S3->Mm->(S3->Mm->Prop)->Prop
def gR(K:Ac)(g:eS):TG:=fun v σ H Q=>∃ w τ M R,AV K H M v w/\AS K H M σ τ/\AM K H M/\g w τ M R/\gY K H M R Q
def nQ(K:Ac)(g:lN):iW:=fun vs σ H Q=>∃ ws τ M R,aM K H M vs ws/\AS K H M σ τ/\AM K H M/\g ws τ M R/\gY K H M R Q
theorem gR.el{K:Ac}{H:Hp}{σ:SV}{C:Prop}{t:eS}{v:V}{Q:SV->Hp->Prop}(h:gR K t v σ H Q)(c:∀ w τ M R,AV K H M v w->AS K H M σ τ->AM K H M->t w τ M R->gY K H M R Q->C):C:=by obtain⟨w,τ,M,R,a,b,d,h,k⟩:=h;exact c w τ M R a b d h k
theorem nQ.el{K:Ac}{H:Hp}{σ:SV}{C:Prop}{t:lN}{v:List V}{Q:SV->Hp->Prop}(h:nQ K t v σ H Q)(c:∀ w τ M R,aM K H M v w->AS K H M σ τ->AM K H M->t w τ M R->gY K H M R Q->C):C:=by obtain⟨w,τ,M,R,a,b,d,h,k⟩:=h;exact c w τ M R a b d h k
section
variable {X:Cx}{pos:Pos}
theorem _root_.L2.PG.weak{e:Expr}{t t':TG}(h:PG X e t)(k:∀ v σ H Q,t' v σ H Q->t v σ H Q):PG X e t':=fun pins s σ H v u Q I r q=>h pins s σ H v u Q I r (k v σ H Q q)
theorem _root_.L2.iD.weak{e:List Expr}{t t':iW}(h:iD X e t)(k:∀ v σ H Q,t' v σ H Q->t v σ H Q):iD X e t':=fun pins s σ H v u Q I r q=>h pins s σ H v u Q I r (k v σ H Q q)
theorem gY.at{K:Ac}{H:Hp}{M:Mm}{R:S3->Mm->Prop}{Q:SV->Hp->Prop}(h:gY K H M R Q)(am:AM K H M){σ:SV}{τ:S3}(as:AS K H M σ τ)(r:R τ M):Q σ H:=h σ H τ M (Kp.refl am) am as r
def bP(i:Nat):eS:=fun w τ M R=>R (τ.set i (some w)) M
theorem FQ{i:Nat}{x:Str}(hN:X.N.Nodup)(hi:X.N[i]? = some x)(hx:Loc X.env.scope x)(hf:X.fn x=true\/X.env.scope.names.lookup x=some .local:=by first | exact .inl rfl | exact .inr rfl | assumption):PG X (.Name x pos) (gR X.K (bP i)):=
 (MG hN hi hx hf).weak fun v σ H Q z0=>z0.el fun w τ M R av as am h k=>k.at am (as.set av i) h
def iM:lN:=fun ws τ M R=>ws=[]/\R τ M
def d9(t:eS)(u:lN):lN:=fun ws τ M R=>match ws with
 | w :: r=>t w τ M fun τ' M'=>u r τ' M' R
 | []=>False
theorem jW:iD X [] (nQ X.K iM):=MJ.weak fun vs σ H Q z=>z.el fun ws τ M R av as am h k=>⟨aM.nil_ (by rw[<-h.1];exact av),k.at am as h.2⟩
theorem eT{e:Expr}{es:List Expr}{t:eS}{u:lN}(h1:PG X e (gR X.K t))(h2:iD X es (nQ X.K u))
  (hs:(Gq (e :: es) X.env).map (·.2)=Ma e X.env :: (Gq es X.env).map (·.2):=by rfl):iD X (e :: es) (nQ X.K (d9 t u)):=
 (MK h1 h2 hs).weak fun vs σ H Q z0=>z0.el fun ws τ M R av as am h k=>by
  cases av with
  | nil=>exact(show False from h).elim
  | cons x r=>exact⟨_,_,rfl,_,τ,M,_,x,as,am,h,fun σ' H' τ' M' k' am' as' h'=>⟨_,τ',M',R,r.kp am k',as',am',h',k.kp k'⟩⟩
def iN(n:Nat)(g:lN):eS:=fun w τ M R=>match w with
 | .tup ws=>ws.length=n/\g ws τ M R
 | .rl ws=>ws.length=n/\g ws τ M R
 | .ref a=>∃ ws,M a=some (.lst ws)/\ws.length=n/\g ws τ M R
 | _=>False
theorem jX{es:List Expr}{k:Nat}{t:lN}{n:Nat}(hc:X.calm=true)(h:iD X es (nQ X.K t))
  (hn:(Gq es X.env).length=n:=by rfl) (hst:(Gq es X.env).findIdx? (·.1)=none:=by rfl):PG X (.Tuple es k pos) (gR X.K (iN n t)):=by
 rintro pins s σ H v u Q I r ⟨w,τ,M,R,av,as,am,hw,kk⟩
 cases w <;> first | exact(show False from hw).elim | skip
 case tup ws=>exact av.tupE fun a xs e f q=>MM hc h hn hst pins s σ H _ u Q I r ⟨a,xs,e,bN.of f,by rw[q.length];exact hw.1,_,τ,M,R,q,as,am,hw.2,kk⟩
 case rl ws=>exact av.rlE fun a xs e f q=>EG hc h hn hst pins s σ H _ u Q I r ⟨a,xs,e,bF.of f,by rw[q.length];exact hw.1,_,τ,M,R,q,as,am,hw.2,kk⟩
 case ref a=>exact hw.elim fun ws hw=>am.lstE hw.1 fun xs f q=>EG hc h hn hst pins s σ H _ u Q I r ⟨a,xs,av.inv,bF.of f,by rw[q.length];exact hw.2.1,_,τ,M,R,q,as,am,hw.2.2,kk⟩
def jY(te:aX)(g:eS):aJ:=fun D τ M=>te τ M fun x M1=>g x τ M1 D.nx
theorem UA{K:Ac}{te:aX}{g:eS}{D:kA}{σ:SV}{H:Hp}(h:pF K (jY te g) D σ H):qZ (up K te) (gR K g) D σ H:=by
 obtain⟨τ,M,D',as,am,h,k⟩:=h
 exact⟨τ,M,_,as,am,h,fun x H1 wx M1 k1 am1 ax h1=>⟨wx,τ,M1,D'.nx,ax,as.kp am k1,am1,h1,k.nx.kp k1⟩⟩
theorem mL{tg e:Expr}{te:aX}{g:eS}(he:E3 X e te)(hg:PG X tg (gR X.K g))(hs:swapsWithSole [tg] e pos.line X.env=pure false:=by rfl)(hw:swappedStores [tg] e X.env=pure none:=by rfl)
  (h1:(Gq [tg] X.env).map (·.2)=[Ma tg X.env]:=by rfl):P3 X (.Assign [tg] e pos) (jY te g):=(MQ he hg hs hw h1).weak fun _ _ _ h=>UA h
def bE(i:Nat)(te:aX):aJ:=fun D τ M=>te τ M fun x M1=>D.nx (τ.set i (some x)) M1
theorem UB{i:Nat}{x:Str}{e:Expr}{te:aX}{pos':Pos}(hN:X.N.Nodup)(hi:X.N[i]? = some x)(hx:Loc X.env.scope x)(he:E3 X e te)(hs:Js e (some (.Name x pos')) pos.line X.env=pure false:=by rfl)(hf:X.fn x=true\/X.env.scope.names.lookup x=some .local:=by first | exact .inl rfl | exact .inr rfl | assumption) :
  P3 X (.Assign [.Name x pos'] e pos) (bE i te):=(MR hN hi hx he hs hf).weak fun D σ H z0=>z0.el fun τ M D' as am h k=>⟨τ,M,_,as,am,h,fun y H1 wy M1 k1 am1 ay h1=>k.nx _ _ _ _ k1 am1 ((as.kp am k1).set ay i) h1⟩
def sG(o i v:W)(M:Mm)(Q:Mm->Prop):Prop:=match o with
 | .ref a=>(∃ ws k j,i=.int k/\M a=some (.lst ws)/\hX ws.length k=some j/\Q (put M a (.lst (ws.set j v))))\/
   (∃ kvs k,i=wK k/\M a=some (.dK kvs)/\kvs.length < Am/\Q (put M a (.dK (cC kvs k v))))\/
   ∃ kvs k,i=.tup (k.map wK)/\M a=some (.dT kvs)/\kvs.length < Am/\Q (put M a (.dT (cC kvs k v)))
 | _=>False
def UC(K:Ac):qX:=fun o i v H Q=>∃ wo wi wv M R,AV K H M o wo/\AV K H M i wi/\AV K H M v wv/\AM K H M/\sG wo wi wv M R/\∀ H' M',Kp H M H' M'->AM K H' M'->R M'->Q H'
theorem set_dict(hu:X.A.units + 1 < Fn):qY X (fun o i v H Q=>∃ a H',o=.ref a/\lC H a i v H'/\Q H'):=by
 intro pins s σ H o i v ov iv u Q I ro ri rv h
 obtain⟨a,H',rfl,d,q⟩:=h
 cases ro
 exact QU hu I d ri rv fun s4 I4=>⟨H',I4,q⟩
theorem FR{κ:Type}[DecidableEq κ]{K:Ac}{H:Hp}{M:Mm}{ks:List (κ×V)}{kvs:List (κ×W)}{n:κ}{v:V}{wv:W}{a:Addr}{o:MO}{u:HO}(am:AM K H M)(e:M a=some o)(q:bS K H M κ ks kvs)(av:AV K H M v wv){o':MO}:bS K (aQ H a u) (put M a o') κ (eJ ks n v) (cC kvs n wv):=Paired.mapP (r9 q n av) fun p q z=>⟨z.1,z.2.wr am e⟩
theorem UD(hu:X.A.units + 1 < Fn):qY X (UC X.K):=by
 rintro pins s σ H o i v ov iv u Q I ro ri rv ⟨wo,wi,wv,M,R,ao,ai,av,am,h,k⟩
 cases wo <;> first | exact(show False from h).elim | skip
 rename_i a
 rcases h with⟨ws,n,j,ei,e,hj,r⟩ | ⟨kvs,n,ei,e,hl,r⟩ | ⟨kvs,n,ei,e,hl,r⟩
 ·rw[ei] at ai
  obtain⟨vs,f,q⟩:=am.lst e
  obtain⟨am2,k2⟩:=am.write (o:=.lst (ws.set j wv)) (u:=.lst (vs.set j v)) e ⟨_,cU,(aM.set av j q).wr am e⟩
  exact PZ pins s σ H _ _ v ov iv u Q I ro ri rv ⟨a,vs,n,j,ao.inv,ai.inv,f,by rw[q.length];exact hj,k _ _ k2 am2 r⟩
 ·rw[ei] at ai
  obtain⟨ks,f,q⟩:=am _ _ e
  obtain⟨am2,k2⟩:=am.write (o:=.dK (cC kvs n wv)) (u:=.dK (eJ ks n v)) e ⟨_,cU,FR am e q av⟩
  exact set_dict hu pins s σ H _ _ v ov iv u Q I ro ri rv ⟨a,_,ao.inv,by rw[ai.key];exact lC.k f (by rw[Ee q];exact hl),k _ _ k2 am2 r⟩
 ·rw[ei] at ai
  obtain⟨ks,f,q⟩:=am _ _ e
  obtain⟨am2,k2⟩:=am.write (o:=.dT (cC kvs n wv)) (u:=.dT (eJ ks n v)) e ⟨_,cU,FR am e q av⟩
  exact ai.tupE fun b xs eb fb qb=>set_dict hu pins s σ H _ _ v ov iv u Q I ro ri rv ⟨a,_,ao.inv,by rw[eb];exact lC.t f (by rw[<-qb.keys];exact fb) (by rw[Ee q];exact hl),k _ _ k2 am2 r⟩
def kP(to ti:aX):eS:=fun w τ M R=>to τ M fun o M1=>ti τ M1 fun i M2=>sG o i w M2 fun M3=>R τ M3
theorem w_sub{o i:Expr}{to ti:aX}(hu:X.A.units + 1 < Fn)(ho:E3 X o to)(hi:E3 X i ti)
  (ha:∀ v,Ma (.Subscript o i pos) X.env v=(do
   let ov <-Ht [v] (eval o X.env)
   let iv <-Ht [v,ov] (eval i X.env)
   Nj pos
   Ht [v,ov,iv] (setItem ov iv v)
   release [v,ov,iv] []):=by intro _;rfl):PG X (.Subscript o i pos) (gR X.K (kP to ti)):=
 (MP ho hi (UD hu) ha).weak fun v σ H Q z0=>z0.el fun w τ M R av as am h k=>⟨τ,M,_,as,am,h,fun o H1 wo M1 k1 am1 ao h1=>⟨τ,M1,_,as.kp am k1,am1,h1,fun i H2 wi M2 k2 am2 ai h2=>
  ⟨wo,wi,w,M2,_,ao.kp am1 k2,ai,(av.kp am k1).kp am1 k2,am2,h2,fun H' M' k' am' r=>k _ _ _ _ ((k1.trans k2).trans k') am' (((as.kp am k1).kp am1 k2).kp am2 k') r⟩⟩⟩
def eL:aJ:=fun D τ M=>D.nx τ M
def aS(t u:aJ):aJ:=fun D τ M=>t {D with nx:=u D} τ M
variable {st:Stmt}{rest:List Stmt}{t u:aJ}{e:Expr}{te:aX}
theorem eU:jV X [] eL:=L1.weak fun D σ H z0=>z0.el fun τ M D' as am h k=>k.nx.at am as h
theorem aU(h1:P3 X st t)(h2:jV X rest u):jV X (st :: rest) (aS t u):=(L4 h1 h2).weak fun D σ H z0=>z0.el fun τ M D' as am h k=>
 ⟨τ,M,_,as,am,h,⟨fun σ' H' τ' M' k' am' as' h'=>⟨τ',M',D',as',am',h',k.kp k'⟩,k.rt,k.bk,k.ct⟩⟩
theorem aV(h1:P3 X st t):jV X [st] t:=L5 h1
def eA(te:aX):aJ:=fun D τ M=>te τ M fun _ M1=>D.nx τ M1
theorem eM(he:E3 X e te)(hs:Js e none pos.line X.env=pure false:=by rfl):P3 X (.Expr e pos) (eA te):=(L7 he hs).weak fun D σ H z0=>z0.el fun τ M D' as am h k=>
 ⟨τ,M,_,as,am,h,fun v H' w M' k' am' av r=>k.nx _ _ _ _ k' am' (as.kp am k') r⟩
def bW(te:aX):aJ:=fun D τ M=>te τ M D.rt
theorem b5(he:E3 X e te):P3 X (.Return (some e) pos) (bW te):=(L9 he).weak fun D σ H z0=>z0.el fun τ M D' as am h k=>⟨τ,M,_,as,am,h,k.rt⟩
def wJ:aJ:=fun D _ M=>D.rt .non M
theorem FT:P3 X (.Return none pos) wJ:=MB.weak fun D σ H z0=>z0.el fun τ M D' as am h k=>k.rt.at am .non h
def dD(c:dS)(t u:aJ):aJ:=fun D τ M=>c τ M fun b M1=>if b=true then t D τ M1 else u D τ M1
theorem dP{c:Expr}{a b:List Stmt}{tc:dS}(hc:T3 X c tc)(ha:jV X a t)(hb:jV X b u):P3 X (.If c a b pos) (dD tc t u):=(MD hc ha hb).weak fun D σ H z0=>z0.el fun τ M D' as am h k=>
 ⟨τ,M,_,as,am,h,fun b H1 M1 k1 am1 h1=>by
  cases b with
  | true=>exact⟨τ,M1,D',as.kp am k1,am1,h1,k.kp k1⟩
  | false=>exact⟨τ,M1,D',as.kp am k1,am1,h1,k.kp k1⟩⟩
theorem wL:P3 X st (fun _ _ _=>False):=MF.weak fun D σ H z0=>z0.el fun τ M D' as am h k=>h.elim
def pQ(c:dS)(tb:aJ):aJ:=fun D τ M=>∃ Pv:Nat->S3->Mm->Prop,(∃ m,Pv m τ M)/\∀ m τ M,Pv m τ M->
 c τ M fun b M1=>if b=true then tb {D with nx:=fun τ' M'=>∃ m' M'',m' < m/\Sub M'' M'/\Pv m' τ' M'',ct:=fun τ' M'=>∃ m' M'',m' < m/\Sub M'' M'/\Pv m' τ' M'',bk:=D.nx} τ M1 else D.nx τ M1
theorem sH{c:Expr}{body:List Stmt}{tc:dS}{tb:aJ}(hp:PassesOwn (Bj X.prog X.w) X.A X.env X.xe)(hc:T3 X c tc)(hb:jV X body tb):P3 X (.While c body [] pos) (pQ tc tb):=
 (MT hp hc hb).weak fun D σ H ⟨τ,M,D',as,am,⟨Pv,⟨m,h0⟩,h⟩,k⟩=>by
  refine⟨fun m σ' H'=>∃ τ' M',Kp H M H' M'/\AM X.K H' M'/\AS X.K H' M' σ' τ'/\Pv m τ' M',⟨m,τ,M,Kp.refl am,am,as,h0⟩,?_⟩
  rintro m σ1 H1 ⟨τ1,M1,k1,am1,as1,p1⟩
  refine⟨τ1,M1,_,as1,am1,h m τ1 M1 p1,fun b H2 M2 k2 am2 h2=>?_⟩
  cases b with
  | false=>exact k.nx _ _ _ _ (k1.trans k2) am2 (as1.kp am1 k2) h2
  | true=>
   have h2:tb {D' with nx:=fun τ' M'=>∃ m' M'',m' < m/\Sub M'' M'/\Pv m' τ' M'',ct:=fun τ' M'=>∃ m' M'',m' < m/\Sub M'' M'/\Pv m' τ' M'',bk:=D'.nx} τ1 M2:=h2
   refine⟨fun σ' H'=>∃ m' τ' M',m' < m/\Kp H M H' M'/\AM X.K H' M'/\AS X.K H' M' σ' τ'/\Pv m' τ' M',fun σ' H' ⟨m',τ',M',q1,q2,q3,q4,q5⟩=>⟨m',q1,τ',M',q2,q3,q4,q5⟩,τ1,M2,_,as1.kp am1 k2,am2,h2,?_⟩
   have again:gY X.K H2 M2 (fun τ' M'=>∃ m' M'',m' < m/\Sub M'' M'/\Pv m' τ' M'') (fun σ' H'=>∃ m' τ' M',m' < m/\Kp H M H' M'/\AM X.K H' M'/\AS X.K H' M' σ' τ'/\Pv m' τ' M'):=
    fun σ' H' τ' M' k' am' as' ⟨m',M'',q1,q2,q3⟩=>⟨m',τ',M'',q1,((k1.trans k2).trans k').sub q2,am'.sub q2,as'.sub q2,q3⟩
   exact⟨again,(k.rt.kp k1).kp k2,(k.nx.kp k1).kp k2,again⟩
abbrev gS:=S3->Mm->(List W->(Mm->Prop)->Mm->Prop)->Prop
structure g9(K:Ac)(H0:Hp)(M0:Mm)(J:It)(ws:List W)(keep:Mm->Prop):Prop where
 go:∀ i H M,Kp H0 M0 H M->AM K H M->keep M->i < ws.length->J.go i H
 stop:∀ H M,Kp H0 M0 H M->AM K H M->keep M->J.stop ws.length H
 yld:∀ i H M x H',Kp H0 M0 H M->AM K H M->keep M->i < ws.length->J.yld i H x H'->∃ w,ws[i]? = some w/\Kp H M H' M/\AM K H' M/\AV K H' M x w
def gE(K:Ac)(wi:gS):TI:=fun σ H R'=>∃ (τ:S3) (M:Mm) (R:List W->(Mm->Prop)->Mm->Prop),AS K H M σ τ/\AM K H M/\wi τ M R/\∀ J H' ws keep M',Kp H M H' M'->AM K H' M'->g9 K H' M' J ws keep->R ws keep M'->R' J H'
theorem gE.el{K:Ac}{H:Hp}{σ:SV}{C:Prop}{t:gS}{Q:It->Hp->Prop}(h:gE K t σ H Q)(c:∀ τ M R,AS K H M σ τ->AM K H M->t τ M R->(∀ J H' ws keep M',Kp H M H' M'->AM K H' M'->g9 K H' M' J ws keep->R ws keep M'->Q J H')->C):C:=by obtain⟨τ,M,R,a,b,h,k⟩:=h;exact c τ M R a b h k
theorem _root_.L2.PI.weak{tg iter:Expr}{t t':TI}(h:PI X tg iter t)(k:∀ σ H R,t' σ H R->t σ H R):PI X tg iter t':=fun pins s σ H R I q=>h pins s σ H R I (k σ H R q)
def FU(ws:List W)(keep:Mm->Prop)(g:eS)(tb:aJ)(D:D3)(τ:S3)(M:Mm):Prop:=
 ∃ Pv:Nat->S3->Mm->Prop,Pv 0 τ M/\(∀ i τ M,i<=ws.length->Pv i τ M->keep M)/\
  (∀ i w τ M,ws[i]? = some w->Pv i τ M->g w τ M fun τ2 M2=>tb {D with nx:=fun τ' M'=>∃ M'',Sub M'' M'/\Pv (i + 1) τ' M'',ct:=fun τ' M'=>∃ M'',Sub M'' M'/\Pv (i + 1) τ' M'',bk:=D.nx} τ2 M2)/\
  ∀ τ M,Pv ws.length τ M->D.nx τ M
def eV(wi:gS)(g:eS)(tb:aJ):aJ:=fun D τ M=>wi τ M fun ws keep M1=>FU ws keep g tb D τ M1
theorem eZ{tg iter:Expr}{body:List Stmt}{wi:gS}{g:eS}{tb:aJ}{pos:Pos}(hp:PassesOwn (Bj X.prog X.w) X.A X.env X.xe)(hc:X.calm=true)(hi:PI X tg iter (gE X.K wi))(hg:PG X tg (gR X.K g))(hb:jV X body tb)
  (hs:∀ x,Gy iter X.env x=pure x:=by intro _;rfl):P3 X (.For tg iter body [] pos) (eV wi g tb):=
 (NB hp hc hi hg hb hs).weak fun D σ H z0=>z0.el fun τ M D' as am h k=>by
  refine⟨τ,M,_,as,am,h,fun J H1 ws keep M1 k1 am1 it ⟨Pv,h0,hk,hs,hd⟩=>?_⟩
  refine⟨fun i m σ' H'=>m=ws.length - i/\i<=ws.length/\∃ τ' M',Kp H1 M1 H' M'/\AM X.K H' M'/\AS X.K H' M' σ' τ'/\Pv i τ' M',⟨_,rfl,Ci _,τ,M1,Kp.refl am1,am1,as.kp am k1,h0⟩,?_⟩
  rintro i m σ2 H2 ⟨rfl,hi,τ2,M2,k2,am2,as2,p2⟩
  by_cases hlt:i < ws.length
  ·refine .inr ⟨it.go i H2 M2 k2 am2 (hk i τ2 M2 hi p2) hlt,fun σ' H'=>∃ τ' M',Kp H1 M1 H' M'/\AM X.K H' M'/\AS X.K H' M' σ' τ'/\Pv (i + 1) τ' M',fun σ' H' q=>⟨ws.length - (i + 1),by omega,rfl,hlt,q⟩,fun x H3 y=>?_⟩
   obtain⟨w,hw,k3,am3,ax⟩:=it.yld i H2 M2 x H3 k2 am2 (hk i τ2 M2 hi p2) hlt y
   refine⟨w,τ2,M2,_,ax,as2.kp am2 k3,am3,hs i w τ2 M2 hw p2,fun σ4 H4 τ4 M4 k4 am4 as4 h4=>⟨τ4,M4,_,as4,am4,h4,?_⟩⟩
   have kk:=((k2.trans k3).trans k4)
   have again:gY X.K H4 M4 (fun τ' M'=>∃ M'',Sub M'' M'/\Pv (i + 1) τ' M'') (fun σ' H'=>∃ τ' M',Kp H1 M1 H' M'/\AM X.K H' M'/\AS X.K H' M' σ' τ'/\Pv (i + 1) τ' M'):=
    fun σ' H' τ' M' k' am' as' ⟨M'',q2,q3⟩=>⟨τ',M'',(kk.trans k').sub q2,am'.sub q2,as'.sub q2,q3⟩
   exact⟨again,k.rt.kp (k1.trans kk),k.nx.kp (k1.trans kk),again⟩
  ·have e:i=ws.length:=by omega
   subst e
   exact .inl ⟨it.stop H2 M2 k2 am2 (hk _ τ2 M2 hi p2),k.nx _ _ _ _ (k1.trans k2) am2 as2 (hd τ2 M2 p2)⟩
theorem eN{ws:List W}{keep:Mm->Prop}{g:eS}{tb:aJ}{D:D3}{τ:S3}{M:Mm}(Pv:Nat->S3->Mm->Prop)(h0:Pv 0 τ M)(hk:∀ i τ M,i<=ws.length->Pv i τ M->keep M)
  (hs:∀ i w τ M,ws[i]? = some w->Pv i τ M->g w τ M fun τ2 M2=>tb {D with nx:=fun τ' M'=>∃ M'',Sub M'' M'/\Pv (i + 1) τ' M'',ct:=fun τ' M'=>∃ M'',Sub M'' M'/\Pv (i + 1) τ' M'',bk:=D.nx} τ2 M2)
  (hd:∀ τ M,Pv ws.length τ M->D.nx τ M):FU ws keep g tb D τ M:=⟨Pv,h0,hk,hs,hd⟩
variable {tg l a b:Expr}{tl ta tb':aX}
theorem UE{K:Ac}{H0:Hp}{M0:Mm}{p:Addr}{ws:List W}:g9 K H0 M0 (nD K p) ws fun M=>M p=some (.lst ws) where
 go:=fun i H M _ am e hi=>by
  obtain⟨vs,f,q⟩:=am.lst e
  exact⟨vs,vs[i]'(by rw[q.length];exact hi),bF.of f,by simp⟩
 stop:=fun H M _ am e=>by
  obtain⟨vs,f,q⟩:=am.lst e
  exact⟨vs,bF.of f,by rw[q.length];exact Aj _⟩
 yld:=fun i H M x H' _ am e hi y=>by
  obtain⟨rfl,y⟩:=y
  obtain⟨vs,f,q⟩:=am.lst e
  obtain⟨w,hw,av⟩:=q.getV (y vs (bF.of f))
  exact⟨w,hw,Kp.refl am,am,av⟩
theorem FV{K:Ac}{H0:Hp}{M0:Mm}{p:Addr}{vs:List V}{ws:List W}(am0:AM K H0 M0)(st:∀ H M,Kp H0 M0 H M->bF K H p vs)(q0:aM K H0 M0 vs ws):g9 K H0 M0 (nD K p) ws fun _=>True:=by
 refine⟨fun i H M k am _ hi=>⟨vs,vs[i]'(by rw[q0.length];exact hi),st H M k,by simp⟩,fun H M k am _=>⟨vs,st H M k,by rw[q0.length];exact Aj _⟩,fun i H M x H' k am _ hi y=>?_⟩
 obtain⟨rfl,y⟩:=y
 obtain⟨w,hw,av⟩:=(q0.kp am0 k).getV (y vs (st _ M k))
 exact⟨w,hw,Kp.refl am,am,av⟩
theorem UG{K:Ac}{H0:Hp}{M0:Mm}{p:Addr}{vs:List V}{ws:List W}(am0:AM K H0 M0)(e:kE K H0 p vs)(q0:aM K H0 M0 vs ws):g9 K H0 M0 (nD K p) ws fun _=>True:=
 FV am0 (fun H M k=>by
  refine kE.sq ?_
  rcases e with⟨o,e⟩ | e
  ·exact .inl ⟨o,(k.fr _ _ (am0.noFrz e) e).1⟩
  ·exact .inr e) q0
theorem UH{K:Ac}{H0:Hp}{M0:Mm}{p:Addr}{vs:List V}{ws:List W}(am0:AM K H0 M0)(e:H0 p=some (.lst vs))(n:M0 p=none)(q0:aM K H0 M0 vs ws):g9 K H0 M0 (nD K p) ws fun _=>True:=
 FV am0 (fun H M k=>bF.of (k.fr _ _ n e).1) q0
theorem UI{K:Ac}{H0:Hp}{M0:Mm}{p:Addr}{vs:List V}{ws:List W}(am0:AM K H0 M0)(e:H0 p=some (.tup vs))(q0:aM K H0 M0 vs ws):g9 K H0 M0 (uY K p) ws fun _=>True:=by
 have st:∀ H M,Kp H0 M0 H M->bN K H p vs:=fun H M k=>bN.of (k.fr _ _ (am0.noTup e) e).1
 refine⟨fun i H M k am _ hi=>⟨vs,vs[i]'(by rw[q0.length];exact hi),st H M k,by simp⟩,fun H M k am _=>⟨vs,st H M k,by rw[q0.length];exact Aj _⟩,fun i H M x H' k am _ hi y=>?_⟩
 obtain⟨rfl,y⟩:=y
 obtain⟨w,hw,av⟩:=(q0.kp am0 k).getV (y vs (st _ M k))
 exact⟨w,hw,Kp.refl am,am,av⟩
theorem FX{K:Ac}{H0:Hp}{M0:Mm}{lo:Int}{n:Nat}:g9 K H0 M0 (oR lo n) ((Bu n).map fun i=>W.int (lo + (i:Nat))) fun _=>True where
 go:=fun i H M _ am _ hi=>by show i < n;simpa using hi
 stop:=fun H M _ am _=>by show n<=_;simp
 yld:=fun i H M x H' _ am _ hi y=>by
  obtain⟨rfl,rfl⟩:=y
  have hi:i < n:=by simpa using hi
  exact⟨.int (lo + i),by simp[hi],Kp.refl am,am,.int _⟩
theorem UJ{K:Ac}{H0:Hp}{M0:Mm}{z:Str}:g9 K H0 M0 (vN z) (z.cps.toList.map fun c=>W.str ⟨#[c]⟩) fun _=>True where
 go:=fun i H M _ am _ hi=>by show i < z.cps.size;simpa using hi
 stop:=fun H M _ am _=>by show z.cps.size<=_;simp
 yld:=fun i H M x H' _ am _ hi y=>by
  obtain⟨rfl,c,hc,rfl⟩:=y
  exact⟨.str ⟨#[c]⟩,by rw[Av,hc];rfl,Kp.refl am,am,.str _⟩
def lO(X:Cx)(tg:Expr)(r:V->Hp->(It->Hp->Prop)->Prop):Prop:=
 ∀ (pins:List (Addr×Obj)) (s:Ah) (σ:SV) (H:Hp) (x:V) (u:Ae) (R:It->Hp->Prop),Inv X pins σ H s->RelV x u->r x H R->Ba (Bj X.prog X.w) X.A (Nh u) (oQ X pins σ tg R) X.xe s
theorem wM:lO X tg (fun x H R=>∃ a,x=.ref a/\(∃ xs,bF X.K H a xs)/\R (nD X.K a) H):=by
 rintro pins s1 σ H1 x u R I1 r1 ⟨a,rfl,⟨xs,hq⟩,q⟩
 cases r1
 obtain⟨its,rv,p,hz⟩:=I1.list hq
 refine Gx p.isList ?_
 refine⟨s1.heap.objs.size,[s1.heap.objs.size],_,_,H1,rfl,I1.kept (t':=s1.toks) fun b o e=>Af _ e,MU a _,⟨_,Au _ rfl,rfl,rfl⟩,fun b hb=>?_,q⟩
 have e:b=s1.heap.objs.size:=by simpa using hb
 subst e
 exact I1.fpOk (Aj _) (I1.hok.fresh (Aj _))
theorem UK:lO X tg (fun x H R=>∃ a,x=.ref a/\(∃ xs,bN X.K H a xs)/\R (uY X.K a) H):=by
 rintro pins s1 σ H1 x u R I1 r1 ⟨a,rfl,⟨xs,hq⟩,q⟩
 cases r1
 obtain⟨its,rv,p,hz⟩:=I1.tuple hq
 refine Hr (show s1.heap.IsTuple a its.toArray from p) ?_
 refine⟨s1.heap.objs.size,[s1.heap.objs.size],_,_,H1,rfl,I1.kept (t':=s1.toks) fun b o e=>Af _ e,MV a _,⟨_,Au _ rfl,rfl,rfl⟩,fun b hb=>?_,q⟩
 have e:b=s1.heap.objs.size:=by simpa using hb
 subst e
 exact I1.fpOk (Aj _) (I1.hok.fresh (Aj _))
theorem UL{x:Str}{px:Pos}:lO X (.Name x px) (fun x H R=>∃ z,x=.str z/\R (vN z) H):=by
 rintro pins s1 σ H1 x u R I1 r1 ⟨z,rfl,q⟩
 obtain⟨t,rfl⟩:=r1
 have fp:∀ b∈[s1.heap.objs.size],gM X pins H1 b:=fun b hb=>by
  have e:b=s1.heap.objs.size:=by simpa using hb
  subst e
  exact I1.fpOk (Aj _) (I1.hok.fresh (Aj _))
 cases ha:z.cps.all (· < 128)
 ·refine wpAny_pyIter_wide ha ?_
  exact⟨s1.heap.objs.size,[s1.heap.objs.size],_,_,H1,rfl,I1.kept (t':=s1.toks) fun b o e=>Af _ e,
   EE z _ "str_iterator" t (fun A s i c Q E a b d=>wpAny_pyNext_wide_item a b d) (fun A s i Q E a b c d=>wpAny_pyNext_wide_end a b c d) (fun A i s Q E a b=>wpAny_pyIter_striter_wide a b),⟨_,Au _ rfl,rfl,rfl⟩,fp,q⟩
 ·refine wpAny_pyIter_ascii ha ?_
  exact⟨s1.heap.objs.size,[s1.heap.objs.size],_,_,H1,rfl,I1.kept (t':=s1.toks) fun b o e=>Af _ e,
   EE z _ "str_ascii_iterator" t (fun A s i c Q E a b d=>wpAny_pyNext_ascii_item a b d) (fun A s i Q E a b c d=>wpAny_pyNext_ascii_end a b c d) (fun A i s Q E a b=>wpAny_pyIter_striter_ascii a b),⟨_,Au _ rfl,rfl,rfl⟩,fp,q⟩
theorem _root_.L2.PI.of{r:V->Hp->(It->Hp->Prop)->Prop}{tl:TE}(hl:PE X l tl)(hr:lO X tg r):PI X tg l (fun σ H R=>tl σ H fun x H1=>r x H1 R):=fun pins s σ H R I h=>
 a9 (hl pins s σ H _ I h) fun u s1 ⟨x,H1,I1,r1,q1⟩=>hr pins s1 σ H1 x u R I1 r1 q1
def sI(K:Ac)(r:W->Mm->(List W->(Mm->Prop)->Mm->Prop)->Prop):V->Hp->(It->Hp->Prop)->Prop:=fun x H R'=>∃ (wx:W) (M:Mm) (R:List W->(Mm->Prop)->Mm->Prop),AV K H M x wx/\AM K H M/\r wx M R/\
 ∀ J H' ws keep M',Kp H M H' M'->AM K H' M'->g9 K H' M' J ws keep->R ws keep M'->R' J H'
def mM:W->Mm->(List W->(Mm->Prop)->Mm->Prop)->Prop
 | .tup ws,M1,R=>R ws (fun _=>True) M1
 | .rl ws,M1,R=>R ws (fun _=>True) M1
 | .sc ws,M1,R=>R ws (fun _=>True) M1
 | .ref a,M1,R=>∃ ws,M1 a=some (.lst ws)/\R ws (fun M=>M a=some (.lst ws)) M1
 | _,_,_=>False
def e6:W->Mm->(List W->(Mm->Prop)->Mm->Prop)->Prop
 | .tup ws,M1,R=>R ws (fun _=>True) M1
 | .rl ws,M1,R=>R ws (fun _=>True) M1
 | .sc ws,M1,R=>R ws (fun _=>True) M1
 | .str z,M1,R=>R (z.cps.toList.map fun c=>W.str ⟨#[c]⟩) (fun _=>True) M1
 | .ref a,M1,R=>∃ ws,M1 a=some (.lst ws)/\R ws (fun M=>M a=some (.lst ws)) M1
 | _,_,_=>False
theorem FY:lO X tg (sI X.K mM):=by
 rintro pins s σ H x u R' I r1 ⟨wx,M,R,ax,am,h,k⟩
 have k:=fun J ws keep=>k J H ws keep M (Kp.refl am) am
 cases wx <;> first | exact(show False from h).elim | skip
 case tup ws=>exact ax.tupE fun a xs e f q=>UK pins s σ H _ u R' I r1 ⟨a,e,⟨xs,bN.of f⟩,k _ _ _ (UI am f q) h⟩
 case rl ws=>obtain⟨a,xs,e,f,n,q⟩:=ax.inv;exact wM pins s σ H _ u R' I r1 ⟨a,e,⟨xs,bF.of f⟩,k _ _ _ (UH am f n q) h⟩
 case sc ws=>exact ax.scE fun a xs e f q=>wM pins s σ H _ u R' I r1 ⟨a,e,⟨xs,f.sq⟩,k _ _ _ (UG am f q) h⟩
 case ref a=>exact h.elim fun ws h=>am.lstE h.1 fun vs f q=>wM pins s σ H _ u R' I r1 ⟨a,ax.inv,⟨vs,bF.of f⟩,k _ _ _ UE h.2⟩
theorem UM{y:Str}{py:Pos}:lO X (.Name y py) (sI X.K e6):=by
 rintro pins s σ H x u R' I r1 ⟨wx,M,R,ax,am,h,k⟩
 cases wx <;> first | exact(show False from h).elim | skip
 case str z=>exact UL pins s σ H _ u R' I r1 ⟨z,ax.inv,k _ _ _ _ _ (Kp.refl am) am UJ h⟩
 all_goals exact FY pins s σ H x u R' I r1 ⟨_,M,R,ax,am,h,k⟩
def d8(r:W->Mm->(List W->(Mm->Prop)->Mm->Prop)->Prop)(tl:aX):gS:=fun τ M R=>tl τ M fun w M1=>r w M1 R
theorem wN{r:W->Mm->(List W->(Mm->Prop)->Mm->Prop)->Prop}(hl:E3 X l tl)(hr:lO X tg (sI X.K r)):PI X tg l (gE X.K (d8 r tl)):=(PI.of hl hr).weak fun σ H R' z0=>z0.el fun τ M R as am h k=>
 ⟨τ,M,_,as,am,h,fun x H1 wx M1 k1 am1 ax h1=>⟨wx,M1,R,ax,am1,h1,fun J H' ws keep M' k' am' it r=>k J H' ws keep M' (k1.trans k') am' it r⟩⟩
theorem sJ(hl:E3 X l tl):PI X tg l (gE X.K (d8 mM tl)):=wN hl FY
theorem fX{y:Str}{py:Pos}(hl:E3 X l tl):PI X (.Name y py) l (gE X.K (d8 e6 tl)):=wN hl UM
def hJ(lo:Int)(n:Nat):List W:=(Bu n).map fun i=>W.int (lo + (i:Nat))
def mN(ta:cZ):gS:=fun τ M R=>ta τ M fun ws M1=>∃ j:Int,ws=[.int j]/\-(2 ^ 62)<=j/\j < 2 ^ 62/\R (hJ 0 j.toNat) (fun _=>True) M1
def wO(ta:cZ):gS:=fun τ M R=>ta τ M fun ws M1=>∃ i j:Int,ws=[.int i,.int j]/\(-(2 ^ 62)<=i/\i < 2 ^ 62/\-(2 ^ 62)<=j/\j < 2 ^ 62)/\R (hJ i (j - i).toNat) (fun _=>True) M1
theorem nR{tA:cZ}{p pos:Pos}(hg:Gl X "range")(hm:X.mg "range" = none)(ha:A3 X [a] tA)(hs:Bh [a] X.env=[(false,eval a X.env)]:=by rfl):PI X tg (.Call (.Name "range" p) [a] [] pos) (gE X.K (mN tA)):=
 (MZ hg hm ha hs).weak fun σ H R' z0=>z0.el fun τ M R as am h k=>⟨τ,M,_,as,am,h,fun vs H1 ws M1 k1 am1 ax ⟨j,e,h1,h2,r⟩=>by
  rw[e] at ax
  obtain⟨v,e,av⟩:=ax.one
  exact⟨j,gZ e av.inv,h1,h2,k _ _ _ _ _ k1 am1 FX r⟩⟩
theorem FZ{tA:cZ}{p pos:Pos}(hg:Gl X "range")(hm:X.mg "range" = none)(ha:A3 X [a,b] tA)(hs:Bh [a,b] X.env=[(false,eval a X.env),(false,eval b X.env)]:=by rfl)(hs2:Bh [b] X.env=[(false,eval b X.env)]:=by rfl) :
  PI X tg (.Call (.Name "range" p) [a,b] [] pos) (gE X.K (wO tA)):=
 (M8 hg hm ha hs hs2).weak fun σ H R' z0=>z0.el fun τ M R as am h k=>⟨τ,M,_,as,am,h,fun vs H1 ws M1 k1 am1 ax ⟨i,j,e,h1,r⟩=>by
  rw[e] at ax
  obtain⟨v,u,e,av,au⟩:=ax.two
  exact⟨i,j,by rw[e,show _=_ from av.inv,show _=_ from au.inv],h1,k _ _ _ _ _ k1 am1 FX r⟩⟩
def mO(ws:List W)(keep:Mm->Prop)(g:eS)(tt:dS)(te:aX)(τ₀:S3)(M1:Mm)(R:K3):Prop:=
 ∀ p,M1 p=none->∃ Pv:Nat->S3->List W->Mm->Prop,Pv 0 τ₀ [] M1/\(∀ vs i τ acc M,i<=ws.length->M p=none->Pv i τ acc M->keep (put M p (.fix vs)))/\
  (∀ vs i w τ acc M,ws[i]? = some w->M p=none->Pv i τ acc M->g w τ (put M p (.fix vs)) fun τ2 M2=>tt τ2 M2 fun b M3=>
   if b=true then te τ2 M3 fun y M4=>M4 p=some (.fix vs)/\acc.length < Am/\∃ M5,Sub M5 (del M4 p)/\Pv (i + 1) τ2 (acc ++ [y]) M5
   else M3 p=some (.fix vs)/\∃ M5,Sub M5 (del M3 p)/\Pv (i + 1) τ2 acc M5)/\
  ∀ τ acc M,M p=none->Pv ws.length τ acc M->R (.ref p) (put M p (.lst acc))
def wQ(js:List (Option Nat))(τ:S3):S3:=js.map fun o=>o.bind fun j=>(τ[j]?).join
theorem AS.cmap{K:Ac}{H:Hp}{M:Mm}{σ:SV}{τ:S3}(h:AS K H M σ τ):∀ js:List (Option Nat),AS K H M (cmap js σ) (wQ js τ)
 | []=>.nil
 | none :: r=>.cons (fun _ e=>nomatch e) (AS.cmap h r)
 | some j :: r=>.cons (fun w e=>by
   have e:(τ[j]?).join=some w:=e
   cases q:τ[j]? with
   | none=>rw[q] at e;cases e
   | some z=>
    rw[q] at e
    have e:z=some w:=e
    subst e
    obtain⟨v,h1,h2⟩:=h.get q
    exact⟨v,by show(σ[j]?).join=some v;rw[h1];rfl,h2⟩) (AS.cmap h r)
def fH(wi:gS)(g:eS)(tt:dS)(te:aX)(js:List (Option Nat)):aX:=fun τ M R=>wi τ M fun ws keep M1=>mO ws keep g tt te (wQ js τ) M1 R
theorem F1{wi:gS}{g:eS}{tt:dS}{te:aX}{js:List (Option Nat)}{σ:SV}{H:Hp}{Q:VK}(h:up X.K (fH wi g tt te js) σ H Q):vL (gE X.K wi) (fun _=>gR X.K g) (fun _=>jR X.K tt) (fun _=>up X.K te) js σ H Q:=by
 obtain⟨τ,M,R,as,am,h,k⟩:=h
 refine⟨τ,M,_,as,am,h,fun J H1 ws keep M1 k1 am1 it hall p hp B=>?_⟩
 obtain⟨Pv,h0,hk,hs,hd⟩:=hall p (am1.nonM hp)
 obtain⟨amp,kp⟩:=am1.laid (o:=.fix []) (u:=.lst []) hp cU
 have hMp:=am1.nonM hp
 refine RK ws.length (fun i σ' acc' H'=>∃ τ' acc M',M' p=none/\Kp H1 M1 H' (put M' p (.fix acc'))/\AM X.K H' (put M' p (.fix acc'))/\AS X.K H' (put M' p (.fix acc')) σ' τ'/\aM X.K H' (put M' p (.fix acc')) acc' acc/\Pv i τ' acc M') ?_ ?_ ?_
 ·exact⟨wQ js τ,[],M1,hMp,kp,amp,((as.kp am k1).kp am1 kp).cmap js,.nil,h0⟩
 ·rintro σ' acc' H' ⟨τ',acc,M',mp,k',am',as',av,pv⟩
  refine⟨it.stop H' _ k' am' (hk _ _ _ _ _ (Aj _) mp pv),?_⟩
  have hp':H' p=some (.lst acc'):=am' p _ bB
  refine k _ H' _ (put M' p (.lst acc)) (k1.trans ⟨fun a o n e=>?_,k'.dom⟩) (fun a o e=>?_) (.ref p) (hd τ' acc M' mp pv)
  ·obtain⟨x,y⟩:=k'.fr a o n e
   exact⟨x,by rw[aT (d7 e hp)] at y ⊢;exact y⟩
  ·by_cases ha:a=p
   ·subst ha;rw[bB] at e;cases e;exact⟨acc',hp',av.go EU⟩
   ·rw[aT ha] at e;exact(am' a o (by rw[aT ha];exact e)).go EU rfl
 ·rintro i σ' acc' H' hi ⟨τ',acc,M',mp,k',am',as',av,pv⟩
  have hkp:=hk acc' i τ' acc M' (Jr hi) mp pv
  refine⟨it.go i H' _ k' am' hkp hi,fun x H3 y=>?_⟩
  obtain⟨w,hw,k3,am3,ax⟩:=it.yld i H' _ x H3 k' am' hkp hi y
  refine⟨w,τ',_,_,ax,as'.kp am' k3,am3,hs acc' i w τ' acc M' hw mp pv,fun σ4 H4 τ4 M4 k4 am4 as4 h4=>⟨τ4,M4,_,as4,am4,h4,fun b H5 M5 k5 am5 h5=>?_⟩⟩
  have kk:Kp H' (put M' p (.fix acc')) H5 M5:=(k3.trans k4).trans k5
  cases b with
  | false=>
   obtain⟨m5,M6,sb,pv6⟩:M5 p=some (.fix acc')/\∃ M6,Sub M6 (del M5 p)/\Pv (i + 1) τ4 acc M6:=h5
   have sb':Sub (put M6 p (.fix acc')) M5:=by
    have:=(sb.trans Sub.del).put (a:=p) (o:=.fix acc')
    rwa [SI m5] at this
   exact RB ⟨τ4,acc,M6,sb.non nK,(k'.trans kk).sub sb',am5.sub sb',(as4.kp am4 k5).sub sb',(av.kp am' kk).sub sb',pv6⟩
  | true=>
   have h5:te τ4 M5 fun y M4=>M4 p=some (.fix acc')/\acc.length < Am/\∃ M5,Sub M5 (del M4 p)/\Pv (i + 1) τ4 (acc ++ [y]) M5:=h5
   refine RC ⟨τ4,M5,_,as4.kp am4 k5,am5,h5,fun y H6 wy M6 k6 am6 ay ⟨m6,hl,M7,sb,pv7⟩=>?_⟩
   have kk6:=kk.trans k6
   have hp6:H6 p=some (.lst acc'):=am6 p _ m6
   obtain⟨am8,k8⟩:=am6.write (o:=.fix (acc' ++ [y])) (u:=.lst (acc' ++ [y])) m6 cU
   have sb':Sub (put M7 p (.fix (acc' ++ [y]))) (put M6 p (.fix (acc' ++ [y]))):=(sb.trans Sub.del).put
   refine⟨hp6,by rw[av.length];exact hl,τ4,acc ++ [wy],M7,sb.non nK,((k'.trans kk6).trans k8).sub sb',am8.sub sb',(((as4.kp am4 k5).kp am5 k6).kp am6 k8).sub sb',?_,pv7⟩
   exact(((av.kp am' kk6).append (.cons ay .nil)).kp am6 k8).sub sb'
variable {sc:Jm}{N':List Str}{js:List (Option Nat)}{iter elt:Expr}{ifs:List Expr}{wi:gS}{g:eS}{tt:dS}
def iO:dS:=fun _ M Q=>Q true M
theorem lP:hZ X [] (jR X.K iO):=RG.weak fun σ H Q z0=>z0.el fun τ M R as am h k=>k true H M (Kp.refl am) am h
theorem mP{c:Expr}{t:dS}(h:T3 X c t):hZ X [c] (jR X.K t):=RH h
theorem i9(N':List Str)(js:List (Option Nat))(hi:PI X tg iter (gE X.K wi))
  (hg:∀ B,PG (dR X sc N' B) tg (gR X.K g)) (ht:∀ B,hZ (dR X sc N' B) ifs (jR X.K tt)) (he:∀ B,PE (dR X sc N' B) elt (up X.K te))
  (S0:mG N' sc X.env.scope=true:=by kernel_rfl) (hj:e9 N' X.N sc js N'=true:=by kernel_rfl) (hc:X.calm=true:=by rfl) (hs:∀ x,Gy iter X.env x=pure x:=by intro _;rfl) :
  E3 X (.ListComp elt [⟨tg,iter,ifs,0⟩] sc pos) (fH wi g tt te js):=(RI N' js hi hg ht he S0 hj hc hs).weak fun _ _ _ h=>F1 h
end
def bX(N:List Str)(ws:List W):S3:=ws.map some ++ Bs (N.length - ws.length) none
def bU(R:K3):D3:={nx:=fun _ M'=>∃ M'',Sub M'' M'/\R .non M'',rt:=fun w M'=>∃ M'',Sub M'' M'/\R w M''}
section
variable {P:Bo}{w:Ce}{K:Ac}{mg:Str->Option Ae}{base:Heap}
theorem wR{x qual:Str}{st:Stmt}{f:Addr}{fd:Bk}{N ps:List Str}{k:Nat}{sp:bK}(F:jO K x qual st f fd)(S:nG N ps (eQ st))(len:∀ ws M R,sp ws M R->ws.length=ps.length)
  (hbody:∀ (cdv:Ae) (A:Ck) (outer:List Env) (s:Ah) (H:Hp) (E:XK) (ws:List W) (M:Mm) (R:K3),cM k (A.deeper (Lz qual (eQ st) s.heap.objs.size f cdv))->sp ws M R->
   ∃ t,jV (k7 fD P w K mg base N qual (eQ st) f cdv A outer s H E).nox (gL st) t/\t (bU R) (bX N ws) M):eC P w K mg base fD (k + 1) f fd ps (fR K sp):=by
 refine F.ok S (fun vs H Q E ⟨ws,M,R,am,av,h,_⟩=>by rw[av.length];exact len ws M R h) fun cdv A outer s H vs Q E hr ⟨ws,M,R,am,av,h,kk⟩=>?_
 obtain⟨t,ht,h'⟩:=hbody cdv A outer s H E ws M R hr h
 refine⟨_,ht,bX N ws,M,bU R,?_,am,h',⟨fun σ' H' τ' M' k' am' as' ⟨M'',sb,r⟩=>kk _ H' _ M'' (k'.sub sb) (am'.sub sb) .non r,fun v H' w M' k' am' av' ⟨M'',sb,r⟩=>kk v H' w M'' (k'.sub sb) (am'.sub sb) (av'.sub sb) r,fun _ _ _ _ _ _ _ z=>z.elim,fun _ _ _ _ _ _ _ z=>z.elim⟩⟩
 unfold L2.start bX
 rw[av.length]
 exact AS.start av _
def pR:bK:=fun ws M R=>∃ ns:List Int,ws=[.sc (ns.map W.int)]/\ns.length<=63/\(M=fun _=>none)/\∀ M',R (.bl true) M'
theorem UN{H:Hp}{a:Addr}{ns:List Int}(hl:ns.length<=63)(ho:rM H)(hs:bF K H a (ns.map V.int)):fR K pR [.ref a] H (fun v _=>v=.bl true) fun _ _ _=>False:=by
 have hr:kE K H a (ns.map V.int):=by
  rcases hs with(e | ⟨o,e⟩) | e
  ·rcases ho a with z | ⟨o,xs,z⟩
   ·rw[z] at e;cases e
   ·rw[z] at e;cases e
  ·exact .inl ⟨o,e⟩
  ·exact .inr e
 exact⟨[.sc (ns.map W.int)],fun _=>none,fun w _=>w=.bl true,fun a o e=>(nomatch e),.cons (.sc hr (aM.int ns)) .nil,⟨ns,rfl,hl,rfl,fun _=>rfl⟩,fun v H' w M' _ _ av r=>by subst r;exact av.bl_inv⟩
end
section
variable {X:Cx}{a b c:Expr}{ta tb tc:aX}{pos:Pos}
def sL(r r':R3)(ta tb tc:aX):aX:=fun τ M R=>ta τ M fun x M1=>tb τ M1 fun y M2=>r x y M2 fun z M3=>∃ k,z=.bl k/\if k=true then tc τ M3 fun w M4=>r' y w M4 R else R (.bl false) M3
def wU:aJ:=fun _ _ _=>False
def UO(M:Mm):W->String->Prop
 | .non,T=>T = "NoneType"
 | .bl _,T=>T = "bool"
 | .int _,T=>T = "int"
 | .str _,T=>T = "str"
 | .tup _,T=>T = "tuple"
 | .rl _,T=>T = "list"
 | .dk _,T=>T = "dict"
 | .ref a,T=>(T = "list"/\∃ ws,M a=some (.lst ws))\/(T = "dict"/\((∃ kvs,M a=some (.dK kvs))\/∃ kvs,M a=some (.dT kvs)))
 | _,_=>False
def F5:List (String×String×Bool):=[("int","int",true),("int","bool",false),("int","str",false),("int","tuple",false),("int","list",false),("bool","bool",true),("bool","int",true),("bool","str",false),("bool","list",false),("bool","tuple",false),("str","str",true),("str","int",false),("str","tuple",false),("str","list",false),("str","bool",false),("tuple","tuple",true),("tuple","list",false),("tuple","str",false),("tuple","int",false),("tuple","bool",false),("list","list",true),("list","tuple",false),("list","str",false),("list","int",false),("list","bool",false),("NoneType","list",false),("NoneType","tuple",false),("NoneType","int",false),("NoneType","str",false),("NoneType","bool",false),("dict","dict",true),("dict","list",false)]
def F6(n T:String):Option Bool:=(F5.find? fun p=>p.1 == n && p.2.1 == T).map fun p=>p.2.2
def F7(K:Ac):List (String×String×Bool)->Prop
 | []=>True
 | p :: l=>Jf K (.type p.1) (.type p.2.1)=some p.2.2/\F7 K l
theorem F8{K:Ac}:∀ {l:List (String×String×Bool)},F7 K l->∀ p∈l,Jf K (.type p.1) (.type p.2.1)=some p.2.2
 | _ :: _,h,_,m=>by
  cases m with
  | head=>exact h.1
  | tail _ m=>exact F8 h.2 _ m
theorem UP(K:Ac):∀ p∈F5,Jf K (.type p.1) (.type p.2.1)=some p.2.2:=by
 refine F8 ?_
 refine⟨by kernel_rfl,by kernel_rfl,by kernel_rfl,by kernel_rfl,by kernel_rfl,by kernel_rfl,by kernel_rfl,by kernel_rfl,by kernel_rfl,by kernel_rfl,by kernel_rfl,by kernel_rfl,by kernel_rfl,by kernel_rfl,by kernel_rfl,by kernel_rfl,by kernel_rfl,by kernel_rfl,by kernel_rfl,by kernel_rfl,by kernel_rfl,by kernel_rfl,by kernel_rfl,by kernel_rfl,by kernel_rfl,by kernel_rfl,by kernel_rfl,by kernel_rfl,by kernel_rfl,by kernel_rfl,by kernel_rfl,by kernel_rfl,trivial⟩
theorem UQ(K:Ac){n T:String}{b:Bool}(h:F6 n T=some b):Jf K (.type n) (.type T)=some b:=by
 obtain⟨p,hp,e⟩:=Bg.mp h
 have h1:=List.find?_some hp
 have h2:=UP K p (List.mem_of_find?_eq_some hp)
 rw[Cj,beq_iff_eq,beq_iff_eq] at h1
 rw[<-h1.1,<-h1.2,h2,e]
def lQ:List W->Mm->K3->Prop
 | [w,.ty T],M,R=>∃ n b,UO M w n/\F6 n T=some b/\R (.bl b) M
 | _,_,_=>False
theorem pT:dA X (.builtin "isinstance") (gC X.K lQ):=by
 rintro pins s σ H xs us Q I rs ⟨ws,M,R,am,axs,h,k⟩
 match ws,h with
 | [w,.ty T],h=>
  obtain⟨v,u,rfl,av,au⟩:=axs.two
  cases au
  obtain⟨n,b,hn,hs,r⟩:=h
  have ty:gW X.K H v (.type n):=by
   cases w <;> first | exact(show False from hn).elim | skip
   case non=>rw[show n=_ from hn,show v=_ from av.inv];exact .non
   case bl b=>rw[show n=_ from hn,show v=_ from av.inv];exact .bl b
   case int i=>rw[show n=_ from hn,show v=_ from av.inv];exact .int i
   case str x=>rw[show n=_ from hn,show v=_ from av.inv];exact .str x
   case tup=>obtain⟨a,xs,ev,e,q⟩:=av.inv;rw[show n=_ from hn,ev];exact .tup e
   case rl=>obtain⟨a,xs,ev,e,_,q⟩:=av.inv;rw[show n=_ from hn,ev];exact .lst e
   case dk=>obtain⟨a,xs,ev,e,_,q⟩:=av.inv;rw[show n=_ from hn,ev];exact .dK e
   case ref a=>
    rw[show v=_ from av.inv]
    rcases hn with⟨e,ws,h⟩ | ⟨e,h⟩
    ·subst e
     obtain⟨vs,f,_⟩:=am.lst h
     exact .lst f
    ·subst e
     rcases h with⟨kvs,h⟩ | ⟨kvs,h⟩
     ·obtain⟨ks,f,_⟩:=am _ _ h;exact .dK f
     ·obtain⟨ks,f,_⟩:=am _ _ h;exact .dT f
  exact RO pins s σ H _ us Q I rs ⟨v,T,_,b,rfl,ty,UQ X.K hs,k.at am (.bl b) r⟩
def F9:W->List W->Mm->K3->Prop
 | .str z,[.str y],M,R=>(y.length == 0)=false/\z.length<=Am/\R (.tup [.str (Cm z y).1,.str (Cm z y).2.1,.str (Cm z y).2.2]) M
 | _,_,_,_=>False
theorem m_partition:iG X "str.partition" (kF X.K F9):=by
 rintro pins s σ H x xs v us Q I rx rs ⟨wx,ws,M,R,am,ax,axs,h,k⟩
 match wx,ws,h with
 | .str z,[.str y],h=>
  obtain⟨u,rfl,au⟩:=axs.one
  cases ax;cases au
  exact RN pins s σ H _ _ v us Q I rx rs ⟨z,y,rfl,rfl,h.1,h.2.1,fun p hp=>laidT am k hp (.cons (.str _) (.cons (.str _) (.cons (.str _) .nil))) h.2.2⟩
end
section
variable {X:Cx}{a b:Expr}{ta tb:aX}{pos:Pos}{es:List Expr}{t:cZ}
theorem GA{K:Ac}{H:Hp}{M:Mm}{R:K3}{Q:VK}{p:Addr}{xs:List V}{ws:List W}(am:AM K H M)(k:Up K H M R Q)(hp:H p=none)(ax:aM K H M xs ws)(r:R (.rl ws) M):Q (.ref p) (aQ H p (.lst xs)):=by
 obtain⟨am2,k2⟩:=am.tup (u:=.lst xs) hp
 exact k _ _ _ _ k2 am2 (.rl cU (am.nonM hp) (ax.newT hp)) r
def eW(t:cZ):aX:=fun τ M R=>t τ M fun ws M1=>ws.length<=Am/\R (.rl ws) M1
theorem e7(h:A3 X es t):E3 X (.List es pos) (eW t):=
 (DJ h).weak fun σ H Q z0=>z0.el fun τ M R as am h k=>⟨τ,M,_,as,am,h,fun xs H1 ws M1 k1 am1 axs ⟨hl,r⟩=>⟨by rw[axs.length];exact hl,fun p hp=>GA am1 (k.kp k1) hp axs r⟩⟩
theorem GB{f:Ae->Ae->Sem Ae}{r r':R3}(h:bG X f (cE X.K r))(k:∀ x y M R,r' x y M R->r x y M fun w M'=>frz w M' R):bG X f (cE X.K r'):=fun pins s σ H x y v u Q I rx ry ⟨wx,wy,M,R,am,ax,ay,h',kk⟩=>
 h pins s σ H x y v u Q I rx ry ⟨wx,wy,M,_,am,ax,ay,k _ _ _ _ h',kk.frz⟩
theorem UR{f:Ae}{r r':List W->Mm->K3->Prop}(h:dA X f (gC X.K r))(k:∀ x M R,r' x M R->r x M fun w M'=>frz w M' R):dA X f (gC X.K r'):=fun pins s σ H xs us Q I rs ⟨ws,M,R,am,ax,h',kk⟩=>
 h pins s σ H xs us Q I rs ⟨ws,M,_,am,ax,k _ _ _ h',kk.frz⟩
def cF:R3
 | .int i,.int j,M,R=>R (.int (i + j)) M
 | .tup xs,.tup ys,M,R=>xs≠[]/\xs.length + ys.length<=Am/\R (.tup (xs ++ ys)) M
 | .ref a,.ref b,M,R=>∃ xs ys,M a=some (.lst xs)/\M b=some (.lst ys)/\xs.length + ys.length<=Am/\R (.rl (xs ++ ys)) M
 | .rl xs,.ref b,M,R=>∃ ys,M b=some (.lst ys)/\xs.length + ys.length<=Am/\R (.rl (xs ++ ys)) M
 | .ref a,.rl ys,M,R=>∃ xs,M a=some (.lst xs)/\xs.length + ys.length<=Am/\R (.rl (xs ++ ys)) M
 | .rl xs,.rl ys,M,R=>xs.length + ys.length<=Am/\R (.rl (xs ++ ys)) M
 | _,_,_,_=>False
theorem cJ:bG X (Fg .Add) (cE X.K cF):=GB S5 fun x y M R h=>by
 cases x <;> first | exact(show False from h).elim | (cases y <;> first | exact(show False from h).elim | skip)
 case int.int i j=>exact h
 case tup.tup i j=>exact h
 case ref.ref i j=>obtain⟨xs,ys,h1,h2,h3,r⟩:=h;exact⟨xs,ys,h1,h2,h3,bA.frz r⟩
 case rl.ref i j=>obtain⟨ys,h2,h3,r⟩:=h;exact⟨ys,h2,h3,bA.frz r⟩
 case ref.rl i j=>obtain⟨ys,h2,h3,r⟩:=h;exact⟨ys,h2,h3,bA.frz r⟩
 case rl.rl i j=>exact⟨h.1,bA.frz h.2⟩
def jZ:R3
 | .int i,.int j,M,R=>(nE i j\/rO i j)/\R (.int (i * j)) M
 | .ref a,.int n,M,R=>∃ xs,M a=some (.lst xs)/\-(2 ^ 63)<=n/\n < 2 ^ 63/\xs.length * n.toNat<=Am/\R (.rl (Bs n.toNat xs).flatten) M
 | .rl xs,.int n,M,R=>-(2 ^ 63)<=n/\n < 2 ^ 63/\xs.length * n.toNat<=Am/\R (.rl (Bs n.toNat xs).flatten) M
 | _,_,_,_=>False
theorem lR:bG X (Fg .Mult) (cE X.K jZ):=GB S9 fun x y M R h=>by
 cases x <;> first | exact(show False from h).elim | (cases y <;> first | exact(show False from h).elim | skip)
 case int.int i j=>exact h
 case ref.int i j=>obtain⟨xs,h1,h2,h3,h4,r⟩:=h;exact⟨xs,h1,h2,h3,h4,bA.frz r⟩
 case rl.int i j=>obtain⟨h2,h3,h4,r⟩:=h;exact⟨h2,h3,h4,bA.frz r⟩
def sM:List W->Mm->K3->Prop
 | [.tup ws],M,R=>R (.rl ws) M
 | [.rl ws],M,R=>R (.rl ws) M
 | [.sc ws],M,R=>R (.rl ws) M
 | [.dk kvs],M,R=>R (.rl (kvs.map fun kv=>wK kv.1)) M
 | [.ref a],M,R=>(∃ ws,M a=some (.lst ws)/\R (.rl ws) M)\/∃ kvs,M a=some (.dK kvs)/\R (.rl (kvs.map fun kv=>wK kv.1)) M
 | _,_,_=>False
theorem wV(hc:X.calm=true):dA X (.type "list") (gC X.K sM):=UR (wH hc) fun x M R h=>by
 match x,h with
 | [.tup ws],h=>exact bA.frz h
 | [.rl ws],h=>exact bA.frz h
 | [.sc ws],h=>exact bA.frz h
 | [.dk kvs],h=>exact bA.frz h
 | [.ref a],h=>
  rcases h with⟨ws,e,r⟩ | ⟨kvs,e,r⟩
  ·exact .inl ⟨ws,e,bA.frz r⟩
  ·exact .inr ⟨kvs,e,bA.frz r⟩
def GC:W->Option Int->Option Int->Mm->K3->Prop
 | .rl ws,lo,hi,M,R=>R (.rl (dW ws lo hi)) M
 | .sc ws,lo,hi,M,R=>R (.rl (dW ws lo hi)) M
 | .ref a,lo,hi,M,R=>∃ ws,M a=some (.lst ws)/\R (.rl (dW ws lo hi)) M
 | .tup ws,lo,hi,M,R=>¬ (HT.sIx ws.length 0 lo=0/\HT.sIx ws.length ws.length hi=ws.length)/\R (.tup (dW ws lo hi)) M
 | _,_,_,_,_=>False
theorem US{x:W}{l u:Option Int}{M:Mm}{R:K3}(h:GC x l u M R):wC x l u M fun w M'=>frz w M' R:=by
 cases x <;> first | exact(show False from h).elim | skip
 case tup ws=>exact h
 case rl ws=>exact bA.frz h
 case sc ws=>exact bA.frz h
 case ref a=>obtain⟨ws,e,r⟩:=h;exact⟨ws,e,bA.frz r⟩
def nS(ta:aX)(tl th:lJ):aX:=fun τ M R=>ta τ M fun x M1=>tl τ M1 fun l M2=>th τ M2 fun u M3=>GC x l u M3 R
theorem pU{lo hi:Option Expr}{tl th:lJ}{p2:Pos}(he:E3 X a ta)(hl:PO X lo (lK X.K tl))(hu:PO X hi (lK X.K th)):E3 X (.Subscript a (.Slice lo hi none p2) pos) (nS ta tl th):=
 (DU FD he hl hu).weak fun σ H Q z0=>z0.el fun τ M R as am h k=>⟨τ,M,_,as,am,h,fun x H1 wx M1 k1 am1 ax h1=>⟨τ,M1,_,as.kp am k1,am1,h1,fun l H2 M2 k2 am2 h2=>⟨τ,M2,_,(as.kp am k1).kp am1 k2,am2,h2,fun u H3 M3 k3 am3 h3=>
  ⟨wx,M3,_,am3,(ax.kp am1 k2).kp am2 k3,US h3,(((k.kp k1).kp k2).kp k3).frz⟩⟩⟩⟩
variable {sc:Jm}{N':List Str}{js:List (Option Nat)}{tg iter elt:Expr}{ifs:List Expr}{wi:gS}{g:eS}{tt:dS}{te:aX}
theorem UT{i:Nat}{x:Str}{px spos:Pos}(hN:X.N.Nodup)(hi0:X.N[i]? = some x)(hx:Loc X.env.scope x)(N':List Str)(js:List (Option Nat))(hi:PI X tg iter (gE X.K wi))
  (hg:∀ B,PG (dR X sc N' B) tg (gR X.K g)) (ht:∀ B,hZ (dR X sc N' B) ifs (jR X.K tt)) (he:∀ B,PE (dR X sc N' B) elt (up X.K te))
  (S0:mG N' sc X.env.scope=true:=by kernel_rfl) (hj:e9 N' X.N sc js N'=true:=by kernel_rfl) (hc:X.calm=true:=by rfl) (hsw:Js (.ListComp elt [⟨tg,iter,ifs,0⟩] sc pos) (some (.Name x px)) spos.line X.env=pure true:=by rfl)
  (hf:X.fn x=true\/X.env.scope.names.lookup x=some .local:=by first | exact .inl rfl | exact .inr rfl | assumption)
  (hs:∀ x,Gy iter X.env x=pure x:=by intro _;rfl):P3 X (.Assign [.Name x px] (.ListComp elt [⟨tg,iter,ifs,0⟩] sc pos) spos) (bE i (dB (fH wi g tt te js))):=
 (RJ hN hi0 hx N' js hi hg ht he S0 hj hc hsw hf hs).weak fun D σ H z0=>z0.el fun τ M D' as am h k=>F1 ⟨τ,M,_,as,am,h,Up.frz fun y H1 wy M1 k1 am1 ay h1=>k.nx _ _ _ _ k1 am1 ((as.kp am k1).set ay i) h1⟩
end
def Pl:Nat->W->Prop
 | _,.non=>True
 | _,.int _=>True
 | _,.str x=>PyData.strOk x=true
 | n + 1,.tup ws=>∀ w∈ws,Pl n w
 | n + 1,.rl ws=>∀ w∈ws,Pl n w
 | _,_=>False
def der(M:Mm):W->W
 | .ref a=>match M a with
  | some (.lst ws)=>.rl ws
  | _=>.ref a
 | w=>w
section
variable {M:Mm}
theorem wW{n:Nat}(ih:∀ {w:W},Pl n w->∃ d,Snap M w d/\d.canLay0=true/\d.depth<=n):∀ {ws:List W},(∀ w∈ws,Pl n w)->∃ ds,h9 M ws ds/\PyData.canLayAll0 ds=true/\PyData.depthAll ds<=n
 | [],_=>⟨[],.nil,rfl,by simp[PyData.depthAll]⟩
 | w :: ws,h=>by
  obtain⟨d,s,c,e⟩:=ih (h w Bf)
  obtain⟨ds,ss,cc,ee⟩:=wW ih fun z hz=>h z (Bd _ hz)
  exact⟨d :: ds,.cons s ss,by simp[PyData.canLayAll0,c,cc],by simp only[PyData.depthAll];lia⟩
theorem wX:∀ {n:Nat} {w:W},Pl n w->∃ d,Snap M w d/\d.canLay0=true/\d.depth<=n:=by
 intro n
 induction n with
 | zero=>
  intro w h
  cases w <;> first | exact(show False from h).elim | skip
  case non=>exact⟨_,.non,rfl,by simp[Hz]⟩
  case int i=>exact⟨_,.int i,rfl,by simp[Hz]⟩
  case str x=>exact⟨_,.str x,h,by simp[Hz]⟩
 | succ n ih=>
  intro w h
  cases w <;> first | exact(show False from h).elim | skip
  case non=>exact⟨_,.non,rfl,by simp[Hz]⟩
  case int i=>exact⟨_,.int i,rfl,by simp[Hz]⟩
  case str x=>exact⟨_,.str x,h,by simp[Hz]⟩
  case tup ws=>
   obtain⟨ds,s,c,e⟩:=wW ih h
   exact⟨_,.tup s,by simpa [PyData.canLay0] using c,by simp only[Hz];lia⟩
  case rl ws=>
   obtain⟨ds,s,c,e⟩:=wW ih h
   exact⟨_,.rl s,by simpa [PyData.canLay0] using c,by simp only[Hz];lia⟩
theorem GD{n:Nat}{w:W}(h:Pl n (der M w)):∃ d,Snap M w d/\Snap M (der M w) d/\d.canLay0=true/\d.depth<=n:=by
 obtain⟨d,s,c,e⟩:=wX (M:=M) h
 refine⟨d,?_,s,c,e⟩
 cases w <;> first | exact s | skip
 case ref a=>
  cases q:M a with
  | none=>
   have e:der M (.ref a)=.ref a:=by simp[der,q]
   rw[e] at s;exact s
  | some o=>
   cases o with
   | lst ws=>
    have e:der M (.ref a)=.rl ws:=by simp[der,q]
    rw[e] at s
    cases s with
    | rl r=>exact .ref q r
   | dK _=>
    have e:der M (.ref a)=.ref a:=by simp[der,q]
    rw[e] at s;exact s
   | dT _=>
    have e:der M (.ref a)=.ref a:=by simp[der,q]
    rw[e] at s;exact s
   | fix _=>
    have e:der M (.ref a)=.ref a:=by simp[der,q]
    rw[e] at s;exact s
   | ins _ _ _=>
    have e:der M (.ref a)=.ref a:=by simp[der,q]
    rw[e] at s;exact s
theorem GF{n:Nat}(ih:∀ {x y:W} {dx dy:Lo},Pl n x->Pl n y->Snap M x dx->Snap M y dy->(Gf dx dy=true↔x=y)):∀ {xs ys:List W} {dx dy:List Lo},(∀ w∈xs,Pl n w)->(∀ w∈ys,Pl n w)->h9 M xs dx->h9 M ys dy->(Mx dx dy=true↔xs=ys):=by
 intro xs
 induction xs with
 | nil=>
  intro ys dx dy hx hy s1 s2
  cases s1
  cases s2 <;> simp[Mx]
 | cons x xs IH=>
  intro ys dx dy hx hy s1 s2
  cases s1 with
  | cons s1 r1=>
   cases s2 with
   | nil=>simp[Mx]
   | cons s2 r2=>
    rw[Mx,Cj,ih (hx x Bf) (hy _ Bf) s1 s2,IH (fun z hz=>hx z (Bd _ hz)) (fun z hz=>hy z (Bd _ hz)) r1 r2]
    simp
theorem GG:∀ {n:Nat} {x y:W} {dx dy:Lo},Pl n x->Pl n y->Snap M x dx->Snap M y dy->(Gf dx dy=true↔x=y):=by
 intro n
 induction n with
 | zero=>
  intro x y dx dy hx hy sx sy
  cases sx <;> first | exact(show False from hx).elim | skip
  all_goals cases sy <;> first | exact(show False from hy).elim | simp[Gf]
 | succ n ih=>
  intro x y dx dy hx hy sx sy
  cases sx <;> first | exact(show False from hx).elim | skip
  all_goals cases sy <;> first | exact(show False from hy).elim | skip
  all_goals first | (simp[Gf];done) | skip
  case tup.tup r1 _ _ r2=>rw[Gf,GF ih hx hy r1 r2];simp
  case rl.rl r1 _ _ r2=>rw[Gf,GF ih hx hy r1 r2];simp
theorem UU{neg:Bool}{x y:W}{R:K3}(n:Nat)(hn:n<=60)(hx:Pl n (der M x))(hy:Pl n (der M y))(h:∀ b:Bool,(b=true↔der M x=der M y)->R (.bl (if neg then !b else b)) M):pO neg x y M R:=by
 obtain⟨dx,s1,s1',c1,e1⟩:=GD hx
 obtain⟨dy,s2,s2',c2,e2⟩:=GD hy
 exact⟨dx,dy,s1,s2,⟨c1,by lia⟩,⟨c2,by lia⟩,h _ (GG hx hy s1' s2')⟩
theorem GH{neg:Bool}{x y:W}{R:K3}(n:Nat)(hn:n<=60)(hx:Pl n (der M x))(hy:Pl n (der M y))(h:∀ b:Bool,(b=true↔der M x=der M y)->R (.bl (if neg then !b else b)) M):rEq neg x y M R:=by
 have d:=UU n hn hx hy h
 cases x <;> first | exact d | skip
 case int i=>
  cases y <;> first | exact d | skip
  case int j=>exact h (decide (i=j)) (by simp[der])
 case str i=>
  cases y <;> first | exact d | skip
  case str j=>exact h (decide (i=j)) (by simp[der])
 case bl i=>
  cases y <;> first | exact d | skip
  case bl j=>exact(show False by cases n <;> exact hx).elim
end
theorem wY{M:Mm}{neg:Bool}{x y:W}{R:K3}(n:Nat)(hn:n<=60)(hx:Pl n (der M x))(e:der M y=der M x)(h:R (.bl (!neg)) M):rEq neg x y M R:=by
 refine GH n hn hx (by rw[e];exact hx) fun b hb=>?_
 have:b=true:=hb.mpr e.symm
 subst this
 cases neg <;> exact h
theorem Pl.up:∀ {n:Nat} {w:W},Pl n w->Pl (n + 1) w
 | 0,w,h=>by cases w <;> first | exact h | exact(show False from h).elim
 | n + 1,w,h=>by
  cases w <;> first | exact h | skip
  case tup ws=>exact fun w hw=>Pl.up (h w hw)
  case rl ws=>exact fun w hw=>Pl.up (h w hw)
theorem Pl.mono{w:W}{m:Nat}:∀ {n:Nat},Pl m w->m<=n->Pl n w
 | 0,h,e=>by cases Nat.le_zero.mp e;exact h
 | n + 1,h,e=>by
  rcases Nat.eq_or_lt_of_le e with rfl | e
  ·exact h
  ·exact(Pl.mono h (Nat.le_of_lt_succ e)).up
theorem sN{ws:List W}{keep:Mm->Prop}{g:eS}{tt:dS}{te:aX}{τ₀:S3}{M1:Mm}{R:K3}(St:S3->Prop)(tgt:W->S3)(Rel:W->Option W->Prop)(hl:ws.length<=Am)(hk:∀ M,Sub M1 M->keep M)
  (h0:St τ₀) (ht:∀ w∈ws,St (tgt w)) (hg:∀ w∈ws,∀ τ M (C:S3->Mm->Prop),St τ->C (tgt w) M->g w τ M C)
  (hs:∀ w∈ws,∀ M (C:K3) (D:Mm->Prop),Sub M1 M->(∀ y,Rel w (some y)->C y M)->(Rel w none->D M)->tt (tgt w) M fun b M3=>if b=true then te (tgt w) M3 C else D M3)
  (r:∀ os,Gr Rel ws os->bA (os.filterMap id) M1 R):mO ws keep g tt te τ₀ M1 R:=by
 intro p hp
 refine⟨fun i τ acc M=>St τ/\(∃ os,Gr Rel (ws.take i) os/\acc=os.filterMap id)/\M=M1,⟨h0,⟨[],by simp;exact .nil,rfl⟩,rfl⟩,?_,?_,?_⟩
 ·rintro vs i τ acc M _ mp ⟨_,_,rfl⟩;exact hk _ (Sub.new hp)
 ·rintro vs i w τ acc M hw mp ⟨st,⟨os,po,rfl⟩,rfl⟩
  have hm:w∈ws:=An hw
  have hi:i < ws.length:=(Ai.mp hw).1
  have htk:ws.take (i + 1)=ws.take i ++ [w]:=by rw[Du,hw];rfl
  have snoc:∀ o,Rel w o->Gr Rel (ws.take (i + 1)) (os ++ [o]):=fun o ro=>by
   rw[htk]
   clear hw mp st htk
   revert os
   generalize ws.take i=l
   intro os po
   induction po with
   | nil=>exact .cons ro .nil
   | cons a b ih=>exact .cons a ih
  have hlen:(os.filterMap id).length < Am:=by
   have h1:=List.length_filterMap_le id os
   have h2:=Ee po
   rw[Cb] at h2
   lia
  refine hg w hm τ _ _ st (hs w hm _ _ _ (Sub.new hp) (fun y hy=>⟨bB,hlen,M,?_,ht w hm,⟨_,snoc _ hy,?_⟩,rfl⟩) fun hn=>⟨bB,M,?_,ht w hm,⟨_,snoc _ hn,?_⟩,rfl⟩)
  ·rw[pC hp];exact Sub.refl _
  ·simp
  ·rw[pC hp];exact Sub.refl _
  ·simp
 ·rintro τ acc M mp ⟨_,⟨os,po,rfl⟩,rfl⟩
  rw[De] at po
  exact r os po p hp
def wZ(rest:S3):S3->Prop:=fun τ=>∃ o,τ=o :: rest
theorem sO{ws:List W}{keep:Mm->Prop}{te:aX}{o:Option W}{rest:S3}{M1:Mm}{R:K3}(f:W->W)(hl:ws.length<=Am)(hk:∀ M,Sub M1 M->keep M)
  (hs:∀ w∈ws,∀ M (C:K3),Sub M1 M->C (f w) M->te (some w :: rest) M C) (r:bA (ws.map f) M1 R):mO ws keep (bP 0) iO te (o :: rest) M1 R:=by
 refine sN (wZ rest) (fun w=>some w :: rest) (fun w o=>o=some (f w)) hl hk ⟨_,rfl⟩ (fun w _=>⟨_,rfl⟩) ?_ ?_ ?_
 ·rintro w _ τ M C ⟨o,rfl⟩ h;exact h
 ·intro w hw M C D sb h1 _
  show(if true=true then te (some w :: rest) M C else D M)
  rw[if_pos rfl]
  exact hs w hw M C sb (h1 _ rfl)
 ·intro os po
  have:os.filterMap id=ws.map f:=by
   clear r hs hl hk
   induction po with
   | nil=>rfl
   | cons a b ih=>subst a;simp[ih]
  rw[this];exact r
theorem nT{ws:List W}{keep:Mm->Prop}{tt:dS}{te:aX}{o:Option W}{rest:S3}{M1:Mm}{R:K3}(f:W->Option W)(hl:ws.length<=Am)(hk:∀ M,Sub M1 M->keep M)
  (hs:∀ w∈ws,∀ M (C:K3) (D:Mm->Prop),Sub M1 M->(∀ y,f w=some y->C y M)->(f w=none->D M)->tt (some w :: rest) M fun b M3=>if b=true then te (some w :: rest) M3 C else D M3)
  (r:bA (ws.filterMap f) M1 R):mO ws keep (bP 0) tt te (o :: rest) M1 R:=by
 refine sN (wZ rest) (fun w=>some w :: rest) (fun w o=>o=f w) hl hk ⟨_,rfl⟩ (fun w _=>⟨_,rfl⟩) ?_ ?_ ?_
 ·rintro w _ τ M C ⟨o,rfl⟩ h;exact h
 ·intro w hw M C D sb h1 h2
  exact hs w hw M C D sb (fun y e=>h1 y e.symm) fun e=>h2 e.symm
 ·intro os po
  have:os.filterMap id=ws.filterMap f:=by
   clear r hs hl hk
   induction po with
   | nil=>rfl
   | @cons a b c d e _ ih=>
    subst e
    cases q:f a <;> simp[q,ih]
  rw[this];exact r
theorem w5{ws:List W}{keep:Mm->Prop}{te:aX}{o:Option W}{rest:S3}{M1:Mm}{R:K3}(P:W->W->Prop)(hl:ws.length<=Am)(hk:∀ M,Sub M1 M->keep M)
  (hs:∀ w∈ws,∀ M (C:K3),Sub M1 M->(∀ y,P w y->C y M)->te (some w :: rest) M C) (r:∀ ys,Gr P ws ys->bA ys M1 R):mO ws keep (bP 0) iO te (o :: rest) M1 R:=by
 refine sN (wZ rest) (fun w=>some w :: rest) (fun w o=>∃ y,o=some y/\P w y) hl hk ⟨_,rfl⟩ (fun w _=>⟨_,rfl⟩) ?_ ?_ ?_
 ·rintro w _ τ M C ⟨o,rfl⟩ h;exact h
 ·intro w hw M C D sb h1 _
  show(if true=true then te (some w :: rest) M C else D M)
  rw[if_pos rfl]
  exact hs w hw M C sb fun y py=>h1 y ⟨y,rfl,py⟩
 ·intro os po
  have:∃ ys,os=ys.map some/\Gr P ws ys:=by
   clear r hs hl hk
   induction po with
   | nil=>exact⟨[],rfl,.nil⟩
   | cons a b ih=>
    obtain⟨y,rfl,py⟩:=a
    obtain⟨ys,rfl,h⟩:=ih
    exact⟨y :: ys,rfl,.cons py h⟩
  obtain⟨ys,rfl,py⟩:=this
  rw[Kv]
  have:(ys.filterMap (id ∘ some))=ys:=by simp
  rw[this]
  exact r ys py
def UW(rest:S3):S3->Prop:=fun τ=>∃ o1 o2,τ=o1 :: o2 :: rest
def UX(rest:S3):W->S3
 | .tup [a,b]=>some a :: some b :: rest
 | _=>none :: none :: rest
abbrev GJ:eS:=iN 2 (d9 (bP 0) (d9 (bP 1) iM))
theorem GK{ws:List W}{keep:Mm->Prop}{tt:dS}{te:aX}{o1 o2:Option W}{rest:S3}{M1:Mm}{R:K3}(P:W->Option W->Prop)(hw:∀ w∈ws,∃ a b,w=.tup [a,b])(hl:ws.length<=Am)(hk:∀ M,Sub M1 M->keep M)
  (hs:∀ a b,.tup [a,b]∈ws->∀ M (C:K3) (D:Mm->Prop),Sub M1 M->(∀ y,P (.tup [a,b]) (some y)->C y M)->(P (.tup [a,b]) none->D M)->tt (some a :: some b :: rest) M fun b' M3=>if b'=true then te (some a :: some b :: rest) M3 C else D M3)
  (r:∀ os,Gr P ws os->bA (os.filterMap id) M1 R):mO ws keep GJ tt te (o1 :: o2 :: rest) M1 R:=by
 refine sN (UW rest) (UX rest) P hl hk ⟨_,_,rfl⟩ (fun w hm=>?_) ?_ ?_ r
 ·obtain⟨a,b,rfl⟩:=hw w hm;exact⟨_,_,rfl⟩
 ·rintro w hm τ M C ⟨u1,u2,rfl⟩ h
  obtain⟨a,b,rfl⟩:=hw w hm
  exact⟨rfl,rfl,h⟩
 ·intro w hm M C D sb h1 h2
  obtain⟨a,b,rfl⟩:=hw w hm
  exact hs a b hm M C D sb h1 h2
theorem UY{ws:List W}{keep:Mm->Prop}{te:aX}{o1 o2:Option W}{rest:S3}{M1:Mm}{R:K3}(P:W->W->Prop)(hw:∀ w∈ws,∃ a b,w=.tup [a,b])(hl:ws.length<=Am)(hk:∀ M,Sub M1 M->keep M)
  (hs:∀ a b,.tup [a,b]∈ws->∀ M (C:K3),Sub M1 M->(∀ y,P (.tup [a,b]) y->C y M)->te (some a :: some b :: rest) M C)
  (r:∀ ys,Gr P ws ys->bA ys M1 R):mO ws keep GJ iO te (o1 :: o2 :: rest) M1 R:=by
 refine GK (fun w o=>∃ y,o=some y/\P w y) hw hl hk (fun a b hm M C D sb h1 _=>?_) fun os po=>?_
 ·show(if true=true then te (some a :: some b :: rest) M C else D M)
  rw[if_pos rfl]
  exact hs a b hm M C sb fun y py=>h1 y ⟨y,rfl,py⟩
 ·have:∃ ys,os=ys.map some/\Gr P ws ys:=by
   clear r hs hl hk hw
   induction po with
   | nil=>exact⟨[],rfl,.nil⟩
   | cons a b ih=>
    obtain⟨y,rfl,py⟩:=a
    obtain⟨ys,rfl,h⟩:=ih
    exact⟨y :: ys,rfl,.cons py h⟩
  obtain⟨ys,rfl,py⟩:=this
  rw[Kv]
  have:(ys.filterMap (id ∘ some))=ys:=by simp
  rw[this]
  exact r ys py
structure Df(K:Ac)(mg:Str->Option Ae)(x:Str)(st:Stmt)(ps:List Str)(f:Addr)(fd:Bk):Prop where
 fn:jO K x x st f fd
 at_:mg x=some (.ref f)
 bi:Binds K fd ps []
theorem dE:Co "len" = some (.builtin "len"):=PySem.boot_len
theorem pV:Co "list" = some (.type "list"):=by decide +kernel
theorem sP:Co "tuple" = some (.type "tuple"):=by decide +kernel
theorem UZ:Co "str" = some (.type "str"):=by decide +kernel
theorem GL:Co "int" = some (.type "int"):=by decide +kernel
theorem U0:Co "bool" = some (.type "bool"):=by decide +kernel
theorem GN:Co "dict" = some (.type "dict"):=by decide +kernel
theorem pW:Co "isinstance" = some (.builtin "isinstance"):=by decide +kernel
theorem U1:Co "all" = some (.builtin "all"):=by decide +kernel
theorem U2:Co "sum" = some (.builtin "sum"):=by decide +kernel
theorem U3{α:Type}(x:α)(xs:List α):cB (x :: xs) 0=some x:=by simp[cB,hX]
theorem nU{α:Type}{xs:List α}{i:Int}(h0:0<=i)(h1:i < xs.length):∃ x,cB xs i=some x/\xs[i.toNat]? = some x/\x∈xs:=by
 have hlt:i.toNat < xs.length:=by omega
 refine⟨xs[i.toNat],?_,Ak hlt,List.getElem_mem hlt⟩
 simp[cB,hX,h0,h1,hlt]
def mQ(x:Str):Prop:=PyData.strOk x=true
theorem dX{n:Nat}(h:n<=10000000):n<=Am:=Bc h (by decide)
theorem fS{n:Nat}(h:n < 10000000):n < Am:=Bq h (by decide)
theorem U4{M:Mm}{a:Addr}{k:Str}{v:W}{kvs:List (aE×W)}{Q:Mm->Prop}(h:M a=some (.dK kvs))(hl:kvs.length < Am)(q:Q (put M a (.dK (cC kvs (Sum.inr k) v)))):sG (.ref a) (.str k) v M Q:=.inr (.inl ⟨kvs,.inr k,rfl,h,hl,q⟩)
theorem nV{M:Mm}{a:Addr}{k:List aE}{v:W}{kvs:List (List aE×W)}{Q:Mm->Prop}(h:M a=some (.dT kvs))(hl:kvs.length < Am)(q:Q (put M a (.dT (cC kvs k v)))):sG (.ref a) (.tup (k.map wK)) v M Q:=.inr (.inr ⟨kvs,k,rfl,h,hl,q⟩)
section
variable {X:Cx}{a b c:Expr}{ta tb tc:aX}{pos:Pos}
theorem U5{K:Ac}{r r':R3}{σ:SV}{H:Hp}{Q:VK}(h:up K (sL r r' ta tb tc) σ H Q):DC (cE K r) (cE K r') (up K ta) (up K tb) (up K tc) σ H Q:=by
 obtain⟨τ,M,R,as,am,h,k⟩:=h
 refine⟨τ,M,_,as,am,h,fun x H1 wx M1 k1 am1 ax h1=>⟨τ,M1,_,as.kp am k1,am1,h1,fun y H2 wy M2 k2 am2 ay h2=>⟨wx,wy,M2,_,am2,ax.kp am1 k2,ay,h2,fun z H3 wz M3 k3 am3 az ⟨c,e,h3⟩=>?_⟩⟩⟩
 subst e
 refine⟨c,az.bl_inv,?_⟩
 cases c with
 | false=>exact((k.kp k1).kp k2).kp k3 |>.at am3 (.bl false) h3
 | true=>exact⟨τ,M3,_,((as.kp am k1).kp am1 k2).kp am2 k3,am3,h3,fun w H4 ww M4 k4 am4 aw h4=>⟨wy,ww,M4,R,am4,(ay.kp am2 k3).kp am3 k4,aw,h4,(((k.kp k1).kp k2).kp k3).kp k4⟩⟩
theorem GO{op op':CmpOp}{r r':R3}(ho:bG X (Bw op) (cE X.K r))(ho':bG X (Bw op') (cE X.K r'))(ha:E3 X a ta)(hb:E3 X b tb)(hc:E3 X c tc)
  (hm:lastMarks [op,op'] [b,c]=false:=by with_unfolding_all rfl):T3 X (.Compare a [op,op'] [b,c] pos) (cD (sL r r' ta tb tc)):=
 (N2 ho ho' ha hb hc hm).weak fun σ H Q z0=>z0.el fun τ M R as am h k=>U5 ⟨τ,M,_,as,am,h,fun v H' w M' k' am' av ⟨c,e,r⟩=>by
  subst e
  exact⟨c,av.bl_inv,k c H' M' k' am' r⟩⟩
end
def gF:Nat->List W->List W
 | _,[]=>[]
 | n,w :: r=>.tup [.int n,w] :: gF (n + 1) r
theorem kQ:∀ {ws:List W} {n:Nat},(gF n ws).length=ws.length
 | [],_=>rfl
 | _ :: r,n=>by simp[gF,kQ (ws:=r)]
theorem pX:∀ {ws:List W} {n i:Nat},(gF n ws)[i]? = (ws[i]?).map fun w=>W.tup [.int ((n + i:Nat):Int),w]
 | [],_,_=>by simp[gF]
 | w :: r,n,0=>by simp[gF]
 | w :: r,n,i + 1=>by
  rw[gF,Ft,Ft,pX]
  congr 2
  funext w
  congr 4
  lia
section
variable {X:Cx}{a b c:Expr}{ta tb tc:aX}{pos:Pos}
theorem GP{K:Ac}{H0:Hp}{M0:Mm}{p:Addr}{vs:List V}{ws:List W}{keep:Mm->Prop}(q0:aM K H0 M0 vs ws)(am0:AM K H0 M0)(st:∀ H M,Kp H0 M0 H M->AM K H M->keep M->bF K H p vs):g9 K H0 M0 (vQ K p vs) (gF 0 ws) keep:=by
 refine⟨fun i H M k am kp hi=>⟨st H M k am kp,by rw[kQ] at hi;rw[q0.length];exact hi⟩,fun H M k am kp=>⟨st H M k am kp,by rw[kQ,q0.length];exact Aj _⟩,fun i H M x H' k am kp hi y=>?_⟩
 obtain⟨pp,u,hu,hn,rfl,rfl⟩:=y
 obtain⟨w,hw,av⟩:=(q0.kp am0 k).getV hu
 obtain⟨am2,k2⟩:=am.tup (u:=.tup [.int (i:Nat),u]) hn
 refine⟨.tup [.int ((i:Nat):Int),w],by rw[pX,hw];simp,k2,am2,.tup cU (.cons (.int _) (.cons (av.go (go_same hn)) .nil))⟩
def w6(ta:cZ):gS:=fun τ M R=>ta τ M fun ws M1=>match ws with
 | [.rl zs]=>R (gF 0 zs) (fun _=>True) M1
 | [.sc zs]=>R (gF 0 zs) (fun _=>True) M1
 | [.ref p]=>∃ zs,M1 p=some (.lst zs)/\False
 | _=>False
theorem GQ{tA:cZ}{p pos:Pos}{es:List Expr}{kx:Nat}{px:Pos}(hg:Gl X "enumerate")(hm:X.mg "enumerate" = none)(ha:A3 X [a] tA)(hs:Bh [a] X.env=[(false,eval a X.env)]:=by rfl):PI X (.Tuple es kx px) (.Call (.Name "enumerate" p) [a] [] pos) (gE X.K (w6 tA)):=
 (R5 hg hm ha hs).weak fun σ H R' z0=>z0.el fun τ M R as am h k=>⟨τ,M,_,as,am,h,fun vs H1 ws M1 k1 am1 ax r=>by
  match ws,r with
  | [.rl zs],r=>
   obtain⟨v,rfl,av⟩:=ax.one
   cases av with
   | rl e n q=>exact⟨_,_,rfl,bF.of e,k _ _ _ _ _ k1 am1 (GP q am1 fun H M k _ _=>bF.of (k.fr _ _ n e).1) r⟩
  | [.sc zs],r=>
   obtain⟨v,rfl,av⟩:=ax.one
   cases av with
   | sc e q=>exact⟨_,_,rfl,e.sq,k _ _ _ _ _ k1 am1 (GP q am1 fun H M k _ _=>by
     refine kE.sq ?_
     rcases e with⟨o,e⟩ | e
     ·exact .inl ⟨o,(k.fr _ _ (am1.noFrz e) e).1⟩
     ·exact .inr e) r⟩
  | [.ref p],r=>obtain⟨_,_,f⟩:=r;exact f.elim⟩
def hU:List W->List W->List W
 | x :: xs,y :: ys=>.tup [x,y] :: hU xs ys
 | _,_=>[]
theorem kR:∀ {xs ys:List W},(hU xs ys).length=min xs.length ys.length
 | [],_=>by simp[hU]
 | _ :: _,[]=>by simp[hU]
 | _ :: xs,_ :: ys=>by simp[hU,kR (xs:=xs)]
theorem pY:∀ {xs ys:List W} {i:Nat} {x y:W},xs[i]? = some x->ys[i]? = some y->(hU xs ys)[i]? = some (.tup [x,y])
 | [],_,_,_,_,h,_=>by simp at h
 | _ :: _,[],_,_,_,_,h=>by simp at h
 | _ :: xs,_ :: ys,0,_,_,h,h'=>by simp at h h';simp[hU,h,h']
 | _ :: xs,_ :: ys,i + 1,_,_,h,h'=>by simpa [hU] using pY (xs:=xs) (ys:=ys) (i:=i) (by simpa using h) (by simpa using h')
end
section
variable {X:Cx}{a b c:Expr}{ta tb tc:aX}{pos:Pos}
theorem U6{K:Ac}{H0:Hp}{M0:Mm}{p q:Addr}{vs us:List V}{ws zs:List W}(am0:AM K H0 M0)(e1:H0 p=some (.tup vs))(e2:H0 q=some (.tup us))(r1:aM K H0 M0 vs ws)(r2:aM K H0 M0 us zs):g9 K H0 M0 (rS K p q vs us) (hU ws zs) fun _=>True:=by
 have s1:∀ H M,Kp H0 M0 H M->bN K H p vs:=fun H M k=>bN.of (k.fr _ _ (am0.noTup e1) e1).1
 have s2:∀ H M,Kp H0 M0 H M->bN K H q us:=fun H M k=>bN.of (k.fr _ _ (am0.noTup e2) e2).1
 refine⟨fun i H M k am _ hi=>⟨s1 H M k,s2 H M k,?_,?_⟩,fun H M k am _=>⟨s1 H M k,s2 H M k,?_⟩,fun i H M x H' k am _ hi y=>?_⟩
 ·rw[kR] at hi;rw[r1.length];lia
 ·rw[kR] at hi;rw[r2.length];lia
 ·rw[kR,r1.length,r2.length];lia
 ·obtain⟨pp,u,v,hu,hv,hn,rfl,rfl⟩:=y
  obtain⟨w,hw,av⟩:=(r1.kp am0 k).getV hu
  obtain⟨z,hz,az⟩:=(r2.kp am0 k).getV hv
  obtain⟨am2,k2⟩:=am.tup (u:=.tup [u,v]) hn
  exact⟨.tup [w,z],pY hw hz,k2,am2,.tup cU (.cons (av.go (go_same hn)) (.cons (az.go (go_same hn)) .nil))⟩
theorem U7{K:Ac}{H0:Hp}{M0:Mm}{p q:Addr}{vs us:List V}{ws zs:List W}(am0:AM K H0 M0)(e1:H0 p=some (.lst vs))(n1:M0 p=none)(e2:H0 q=some (.lst us))(n2:M0 q=none)(r1:aM K H0 M0 vs ws)(r2:aM K H0 M0 us zs):g9 K H0 M0 (rR K p q vs us) (hU ws zs) fun _=>True:=by
 have s1:∀ H M,Kp H0 M0 H M->bF K H p vs:=fun H M k=>bF.of (k.fr _ _ n1 e1).1
 have s2:∀ H M,Kp H0 M0 H M->bF K H q us:=fun H M k=>bF.of (k.fr _ _ n2 e2).1
 refine⟨fun i H M k am _ hi=>⟨s1 H M k,s2 H M k,?_,?_⟩,fun H M k am _=>⟨s1 H M k,s2 H M k,?_⟩,fun i H M x H' k am _ hi y=>?_⟩
 ·rw[kR] at hi;rw[r1.length];lia
 ·rw[kR] at hi;rw[r2.length];lia
 ·rw[kR,r1.length,r2.length];lia
 ·obtain⟨pp,u,v,hu,hv,hn,rfl,rfl⟩:=y
  obtain⟨w,hw,av⟩:=(r1.kp am0 k).getV hu
  obtain⟨z,hz,az⟩:=(r2.kp am0 k).getV hv
  obtain⟨am2,k2⟩:=am.tup (u:=.tup [u,v]) hn
  exact⟨.tup [w,z],pY hw hz,k2,am2,.tup cU (.cons (av.go (go_same hn)) (.cons (az.go (go_same hn)) .nil))⟩
def U8:List W->Mm->(List W->(Mm->Prop)->Mm->Prop)->Prop
 | [.tup xs,.tup ys],M,R=>R (hU xs ys) (fun _=>True) M
 | [.rl xs,.rl ys],M,R=>R (hU xs ys) (fun _=>True) M
 | _,_,_=>False
def w9(ta:cZ):gS:=fun τ M R=>ta τ M fun ws M1=>U8 ws M1 R
theorem GR{tA:cZ}{p pos:Pos}{es:List Expr}{kx:Nat}{px:Pos}(hg:Gl X "zip")(hm:X.mg "zip" = none)(ha:A3 X [a,b] tA)(hs:Bh [a,b] X.env=[(false,eval a X.env),(false,eval b X.env)]:=by rfl)(hs2:Bh [b] X.env=[(false,eval b X.env)]:=by rfl) :
  PI X (.Tuple es kx px) (.Call (.Name "zip" p) [a,b] [] pos) (gE X.K (w9 tA)):=
 (SG hg hm ha hs hs2).weak fun σ H R' z0=>z0.el fun τ M R as am h k=>⟨τ,M,_,as,am,h,fun vs H1 ws M1 k1 am1 ax r=>by
  match ws,r with
  | [.tup xs,.tup ys],r=>
   obtain⟨v,u,e,av,au⟩:=ax.two
   obtain⟨a1,x1,f1,e1,q1⟩:=av.inv
   obtain⟨a2,x2,f2,e2,q2⟩:=au.inv
   exact⟨a1,a2,_,_,by rw[e,f1,f2],.inl ⟨bN.of e1,bN.of e2,k _ _ _ _ _ k1 am1 (U6 am1 e1 e2 q1 q2) r⟩⟩
  | [.rl xs,.rl ys],r=>
   obtain⟨v,u,e,av,au⟩:=ax.two
   obtain⟨a1,x1,f1,e1,n1,q1⟩:=av.inv
   obtain⟨a2,x2,f2,e2,n2,q2⟩:=au.inv
   exact⟨a1,a2,_,_,by rw[e,f1,f2],.inr ⟨bF.of e1,bF.of e2,k _ _ _ _ _ k1 am1 (U7 am1 e1 n1 e2 n2 q1 q2) r⟩⟩⟩
end
section
variable {X:Cx}
theorem aM.intsL{K:Ac}{H:Hp}{M:Mm}{ns:List Int}{vs:List V}(h:aM K H M vs (ns.map W.int)):vs=ns.map V.int:=h.ints
def GS:List W->Mm->K3->Prop
 | [.rl ws],M,R=>∃ ns:List Int,ws=ns.map W.int/\R (.int ns.sum) M
 | _,_,_=>False
theorem U9(hc:X.calm=true):dA X (.builtin "sum") (gC X.K GS):=by
 rintro pins s σ H xs us Q I rs ⟨ws,M,R,am,axs,h,k⟩
 match ws,h with
 | [.rl ws],h=>
  obtain⟨v,rfl,av⟩:=axs.one
  obtain⟨ns,rfl,r⟩:=h
  cases av with
  | rl f _ q=>
   rw[q.intsL] at f
   exact SH hc pins s σ H _ us Q I rs ⟨_,ns,rfl,bF.of f,k.at am (.int _) r⟩
end
end L3
namespace PySem
namespace Dp
open PyProof.Rows L2 PySem.Spec
section
variable {prog:Bo}{w:Ce}{A:Ck}{E:Ae->Ah->Prop}{s:Ah}
theorem VA:typeLookup (.type "list") "keys" = pure none:=by rw[Kw,Ie];kernel_rfl
theorem keys_miss{a:Addr}{xs:Array Ae}{k:Nat}{Q:Option Ae->Ah->Prop}(hx:s.heap.get? a=some {cls:=.type "list",data:=.seq xs k})(hA:A.handled=none)
  (h:∀ h' tk,(∀ b o,s.heap.get? b=some o->h'.get? b=some o)->Q none {s with heap:=h',toks:=tk}):Ba (Bj prog w) A (getAttr? (.ref a) (Cs "keys")) Q E s:=by
 obtain⟨hp,g,d,tk,os⟩:=s
 have hT:∀ tk',(⟨hp,g,d,tk',os⟩:Ah).TypeIs (.ref a) "list":=fun _=>⟨_,hx,rfl⟩
 have f1:=sub_AttributeError
 have f3:=Lv.lookup
 have f4:=Lv.bind (.ref a)
 have f5:=am_list_getattr_none
 unfold getAttr? getAttrBy? getAttrBy
 repeat (any_goals (first | assumption | exact hT _ | ((with_reducible show Ba _ _ (call (Value.builtin "list.__getattribute__") _ _) _ _ _);refine Ll Lv (hT _) am_entry_list_getattribute (F.args_list_getattribute_2 _ _) (meets_getattribute_miss_list a xs k #[] (Cs "keys") _ VA (by decide +kernel) (by decide +kernel)) ⟨hx,hA,fun h' tk' e hx'=>?_⟩) | wp_step))
 obtain⟨t',u',he⟩:=hx'.there
 have hx2:=hx'.of.keeps
 show Ba _ _ (getattributeRaised _ _ _ _ _ _ _) _ _ _
 unfold getattributeRaised
 repeat (any_goals (first | assumption | wp_step))
 exact h _ _ hx2
theorem entry_loop:entryFor table "dict.update.loop" = some Ha.«dict.update.loop»:=entryFor_of_tree (by kernel_rfl)
theorem plain_loop:plainId "dict.update.loop" = true:=by decide +kernel
variable {K:Type}[DecidableEq K]{knd:KeyKind prog w K}
theorem VB(kvs:List (K×Ae))(k:K)(v:Ae):(stored kvs k v).length<=kvs.length + 1:=by
 unfold stored
 split
 ·rw[Ab];lia
 ·rw[Ao,Cd];exact Aj _
def all(kvs:List (K×Ae))(ps:List (K×Ae)):List (K×Ae):=ps.foldl (fun kvs p=>stored kvs p.1 p.2) kvs
theorem loop{d I l:Addr}{items:Array Ae}{ps:List (K×Ae)}{R:Result->Ah->Prop}(hh:A.handled=none)(hdI:d≠I)(hdl:d≠l)(hlI:l≠I)(hn:ps.length=items.size)(hz:items.size<=Am) :
  ∀ (k i:Nat) (s:Ah) (kvs:List (K×Ae)),items.size - i=k->i<=items.size->kvs.length<=i->s.heap.IsListIter I l i->s.heap.IsList l items->s.heap.DictOf knd d kvs->
  (∀ (j:Nat) (p:K×Ae),ps[j]? = some p->∃ (a:Addr) (key:Ae),items[j]? = some (.ref a)/\a≠d/\a≠I/\s.heap.IsTuple a #[key,p.2]/\knd.is p.1 key=true)->
  (∀ h' tk,(∀ b o,b≠d->b≠I->s.heap.get? b=some o->h'.get? b=some o)->h'.DictOf knd d (all kvs (ps.drop i))->R (.ok (.ret .none)) {s with heap:=h',toks:=tk})->
  Jb (Bj prog w) A (.builtin "dict.update.loop" ⟨[.ref d,.ref I,Fs (i:Int),.none],[]⟩) R s:=by
 intro k
 induction k with
 | zero=>
  intro i s kvs hk hi hl hit hls hd hp hR
  have hin:i=items.size:=by lia
  refine Fm entry_loop ?_
  rw[Ec plain_loop _]
  show Ba _ A.in1 (Hh (.ref I) >>= _) _ _ s
  have W:=Ks (prog:=prog) (w:=w) (A:=A.in1) hh I l hlI items
  refine Aa (W.done s _ _ (by rw[<-hin];exact⟨hit,hls⟩) fun h' tk hm=>?_)
  show Ba _ A.in1 (Builtin.Dict.addKeywords d [] >>= _) _ _ _
  have hd':h'.DictOf knd d kvs:=by
   obtain⟨o,es,ep,ho,rest⟩:=hd
   exact⟨o,es,ep,hm d o (by simp[hdI]) ho,rest⟩
  refine Aa (Ag (Ag (hR h' tk (fun b o _ hb e=>hm b o (by simp[hb]) e) ?_)))
  rw[List.drop_of_length_le (by lia)]
  exact hd'
 | succ k ih=>
  intro i s kvs hk hi hl hit hls hd hp hR
  have hlt:i < items.size:=by lia
  refine Fm entry_loop ?_
  rw[Ec plain_loop _]
  show Ba _ A.in1 (Hh (.ref I) >>= _) _ _ s
  have W:=Ks (prog:=prog) (w:=w) (A:=A.in1) hh I l hlI items
  refine Aa (W.item i s _ _ hlt ⟨hit,hls⟩ fun v h' tk hv hst hm=>?_)
  obtain⟨p,hpi⟩:∃ p,ps[i]? = some p:=⟨_,Ak (by lia)⟩
  obtain⟨a,key,ha,had,haI,hat,hkey⟩:=hp i p hpi
  rw[ha] at hv
  cases hv
  have hd':h'.DictOf knd d kvs:=by
   obtain⟨o,es,ep,ho,rest⟩:=hd
   exact⟨o,es,ep,hm d o (by simp[hdI]) ho,rest⟩
  have hat':h'.IsTuple a #[key,p.2]:=by
   obtain⟨o,ho,rest⟩:=hat
   exact⟨o,hm a o (by simp[haI]) ho,rest⟩
  show Ba _ A.in1 (Ht [Value.ref a] _ >>= _) _ _ _
  refine Aa (Cq (Aa (wpAny_tryCatch ?_)))
  unfold Builtin.Dict.pairItems
  obtain⟨o,ho,hc,n,hd2⟩:=hat'
  refine Aa (Jz (T:="tuple") ⟨o,ho,hc⟩ ?_)
  rw[if_pos (by decide)]
  refine Aa (Fv ho hd2 (Ag ?_))
  show Ba _ _ (Ht [key,p.2] (dictSet d key p.2)) _ _ _
  refine Cq (wpAny_dictSet_pairs hkey hd' (hsz:=by lia) fun h2 hd3 hs2=>?_)
  have e1:ps.drop i=p :: ps.drop (i + 1):=by rw[Gp (by lia)];congr 1;exact(Ai.mp hpi).2
  refine Ag ⟨He plain_loop _,?_⟩
  refine ih (i + 1) _ (stored kvs p.1 p.2) (by lia) hlt (by have:=VB kvs p.1 p.2;lia) (hst.1.at fun o e=>(hs2.2 I (Bp hdI)).trans e) (hst.2.at fun o e=>(hs2.2 l (Bp hdl)).trans e) hd3 (fun j q hq=>?_) fun h3 tk3 hk3 hd4=>?_
  ·obtain⟨a,key,g1,g2,g3,⟨o,g4,g5⟩,g6⟩:=hp j q hq
   exact⟨a,key,g1,g2,g3,⟨o,(hs2.2 a g2).trans (hm a o (by simp[g3]) g4),g5⟩,g6⟩
  ·refine hR h3 tk3 (fun b o h1 h2 e=>hk3 b o h1 h2 ((hs2.2 b h1).trans (hm b o (by simp[h2]) e))) ?_
   rw[e1];exact hd4
theorem call_pairs{l:Addr}{items:Array Ae}{c:Nat}{ps:List (K×Ae)}{Q:Ae->Ah->Prop}(hh:A.handled=none)(hx:s.heap.get? l=some {cls:=.type "list",data:=.seq items c})(hn:ps.length=items.size)(hz:items.size<=Am)
  (hp:∀ (j:Nat) (p:K×Ae),ps[j]? = some p->∃ (a:Addr) (key:Ae),items[j]? = some (.ref a)/\s.heap.IsTuple a #[key,p.2]/\knd.is p.1 key=true)
  (h:∀ h' tk,(∀ b o,s.heap.get? b=some o->h'.get? b=some o)->h'.DictOf knd s.heap.objs.size (all [] ps)->Q (.ref s.heap.objs.size) {s with heap:=h',toks:=tk}) :
  Ba (Bj prog w) A (call (.type "dict") [.ref l]) Q E s:=by
 refine callType_codes (Q₁:=fun obj s₁=>obj=.ref s.heap.objs.size/\s₁ = {s with heap:=s.heap.push {cls:=.type "dict",data:=.dict #[]}}) F.kt_called_dict (F.kt_typeCall_dict_1 _) F.entry_dict_init (kt_code_dict_new _ ⟨rfl,rfl⟩) ?_
 rintro obj s₁ ⟨rfl,rfl⟩
 have lt:l < s.heap.objs.size:=Ap hx
 have hnew:(s.heap.push {cls:=.type "dict",data:=.dict #[]}).DictOf knd s.heap.objs.size []:=Heap.DictOf.new s.heap
 have hx':(s.heap.push {cls:=.type "dict",data:=.dict #[]}).get? l=some {cls:=.type "list",data:=.seq items c}:=Af _ hx
 refine⟨hnew.typeIs,F.args_dict_init_2 _ _,?_⟩
 unfold Ha.«dict.__init__»
 refine Aa ?_
 unfold Builtin.Dict.selfAndRest
 refine Aa (Ic hnew.typeIs ?_)
 show Ba _ _ (pure (s.heap.objs.size,[Value.ref l])) _ _ _
 refine Ag ?_
 show Ba _ _ (Ig "dict.__init__" s.heap.objs.size (.ref l) [] .none) _ _ _
 unfold Ig
 refine Aa (Jz (T:="list") ⟨_,hx',rfl⟩ ?_)
 rw[if_pos (by decide)]
 refine Aa (keys_miss hx' hh fun h1 tk1 hk1=>?_)
 rw[if_pos (by decide)]
 have hx1:=hk1 _ _ hx'
 have hd1:h1.DictOf knd s.heap.objs.size []:=by
  obtain⟨o,es,ep,ho,rest⟩:=hnew
  exact⟨o,es,ep,hk1 _ o ho,rest⟩
 refine Aa (Ga (Aa (Gx (items:=items) ⟨_,hx1,rfl,c,rfl⟩ ?_)))
 have gI:(h1.push {cls:=.type "list_iterator",data:=.fields #[.ref l,.int 0 0]}).IsListIter h1.objs.size l 0:=⟨_,Au _ rfl,rfl,rfl⟩
 have up:∀ b o,s.heap.get? b=some o->(h1.push {cls:=.type "list_iterator",data:=.fields #[.ref l,.int 0 0]}).get? b=some o:=fun b o e=>Af _ (hk1 b o (Af _ e))
 have l1:s.heap.objs.size < h1.objs.size:=by
  obtain⟨o,es,ep,ho,rest⟩:=hd1
  exact Ap ho
 refine Ag ⟨He plain_loop _,?_⟩
 refine loop (A:=A.in1) (knd:=knd) (d:=s.heap.objs.size) (I:=h1.objs.size) (l:=l) (items:=items) (ps:=ps) hh (Be l1) (Ct lt) (Be (Gd lt l1)) hn hz items.size 0 _ [] rfl (Ci _) (Aj _) gI ⟨_,Af _ hx1,rfl,c,rfl⟩ (by
  obtain⟨o,es,ep,ho,rest⟩:=hd1
  exact⟨o,es,ep,Af _ ho,rest⟩) (fun j p hj=>?_) fun h2 tk2 hk2 hd2=>?_
 ·obtain⟨a,key,g1,⟨o,g2,g3⟩,g4⟩:=hp j p hj
  have la:=Ap g2
  exact⟨a,key,g1,Be la,Be (Gd la l1),⟨o,up a o g2,g3⟩,g4⟩
 ·exact⟨rfl,h h2 tk2 (fun b o e=>hk2 b o (Be (Ap e)) (Be (Gd (Ap e) l1)) (up b o e)) hd2⟩
end
end Dp
end PySem
namespace L3
open PySem PySem.Spec PyProof.Rows L2
section
variable {X:Cx}
def sQ(kvs:List (aE×W))(ps:List (aE×W)):List (aE×W):=ps.foldl (fun kvs p=>cC kvs p.1 p.2) kvs
def sR(ps:List (aE×W)):List W:=ps.map fun p=>.tup [wK p.1,p.2]
theorem GU{pins:List (Addr×Obj)}{σ:L2.St}{H:Hp}{M:Mm}{s:Ah}(I:L2.Inv X pins σ H s):∀ {ps:List (aE×W)} {vs:List V} {its:List Ae},aM X.K H M vs (sR ps)->aZ vs its->
  ∃ (ks:List (aE×V)) (rs:List (aE×Ae)),bS X.K H M aE ks ps/\KV ks rs/\rs.length=its.length/\
   ∀ (j:Nat) (p:aE×Ae),rs[j]? = some p->∃ (a:Addr) (key:Ae),its[j]? = some (.ref a)/\s.heap.IsTuple a #[key,p.2]/\(dO X.prog X.w).is p.1 key=true
 | [],_,_,.nil,.nil=>⟨[],[],.nil,.nil,rfl,fun j p h=>by simp at h⟩
 | (k,w) :: ps,_,_,.cons av avs,.cons rv rvs=>by
  obtain⟨ks,rs,h1,h2,h3,h4⟩:=GU I avs rvs
  obtain⟨a,xs,ev,e,q⟩:=av.inv
  rw[ev] at rv
  obtain⟨u1,u2,ex,a1,a2⟩:=q.two
  obtain⟨its2,r2,pl,_⟩:=I.tuple (bN.of e)
  rw[ex,a1.key] at r2
  obtain⟨y1,y2,ey,x1,x2⟩:=vals2 r2
  rw[ey] at pl
  refine⟨(k,u2) :: ks,(k,y2) :: rs,.cons ⟨rfl,a2⟩ h1,.cons ⟨rfl,x2⟩ h2,congrArg (· + 1) h3,fun j p hj=>?_⟩
  cases j with
  | zero=>rw[<-Cr hj];exact⟨a,y1,congrArg some rv,pl,lA x1⟩
  | succ j=>exact h4 j p hj
theorem GV{H:Hp}{M:Mm}:∀ {ps:List (aE×W)} {ks:List (aE×V)} {rs:List (aE×Ae)} {kvs:List (aE×W)} {ls:List (aE×V)} {us:List (aE×Ae)},bS X.K H M aE ks ps->KV ks rs->bS X.K H M aE ls kvs->KV ls us->
  ∃ ls':List (aE×V),bS X.K H M aE ls' (sQ kvs ps)/\KV ls' (Dp.all us rs)/\ls'.length<=ls.length + ps.length
 | [],_,_,_,ls,_,.nil,.nil,h1,h2=>⟨ls,h1,h2,Aj _⟩
 | p :: ps,_,_,_,ls,_,.cons (a:=a) x r,.cons (b:=b) y t,h1,h2=>by
  obtain⟨k,w⟩:=p
  obtain⟨k1,v⟩:=a
  obtain⟨k2,u⟩:=b
  obtain⟨x1,x2⟩:=x
  obtain⟨y1,y2⟩:=y
  cases x1;cases y1
  obtain⟨ls',g1,g2,g3⟩:=GV (kvs:=cC _ k w) r t (r9 h1 k x2) (h2.put k y2)
  have:=oY ls k v
  exact⟨ls',g1,g2,by simp at g3 ⊢;lia⟩
def GW:List W->Mm->K3->Prop
 | [.rl ws],M,R=>∃ ps:List (aE×W),ws=sR ps/\ws.length<=Am/\R (.dk (sQ [] ps)) M
 | _,_,_=>False
theorem VC(hc:X.calm=true):dA X (.type "dict") (gC X.K GW):=by
 rintro pins s σ H xs us Q I rs ⟨ws,M,R,am,axs,h,k⟩
 match ws,h with
 | [.rl ws],h=>
  obtain⟨v,rfl,av⟩:=axs.one
  obtain⟨ps,rfl,hz,r⟩:=h
  obtain⟨u,rfl,ru⟩:=vals1 rs
  cases av with
  | rl f n q=>
   cases ru
   obtain⟨z,its,c,rv,hl,e⟩:=I.lstM f
   obtain⟨ks,rs',h1,h2,h3,h4⟩:=GU I q rv
   obtain⟨ls,g1,g2,g3⟩:=GV h1 h2 .nil .nil
   refine Dp.call_pairs (knd:=dO X.prog X.w) (items:=its.toArray) (ps:=rs') (I.ok.hd hc) e (by simpa using h3) (by rw[Bb];lia) (fun j p hj=>by simpa using h4 j p hj) fun h' tk hk hd=>?_
   have hz2:ps.length<=Am:=by simpa [sR] using hz
   have hfr:=I.hok.fresh (Aj _)
   refine⟨.ref s.heap.objs.size,aQ H s.heap.objs.size (.dK ls),I.laid (o:=.dK ls) (t':=tk) hk (Aj _) ⟨by simp at g3;lia,beq_eq_false_iff_ne.mpr (Bp (Be I.big)),_,g2,hd⟩,rfl,?_⟩
   obtain⟨am2,k2⟩:=am.tup (u:=.dK ls) hfr
   exact k _ _ _ _ k2 am2 (.dk cU (am.nonM hfr) g1.keys (g1.vals.newT hfr)) r
end
def bY(f:Str)(w:W):List (Str×W)->List (Str×W)
 | []=>[(f,w)]
 | (k,x) :: r=>if k=f then(k,w) :: r else(k,x) :: bY f w r
section
variable {K:Ac}{H:Hp}{M:Mm}
theorem bS.look{f:Str}{w:W}:∀ {gs:List (Str×V)} {fs:List (Str×W)},bS K H M Str gs fs->fs.lookup f=some w->∃ v,gs.lookup f=some v/\AV K H M v w
 | _,_,.nil,h=>by cases h
 | _,_,.cons (a:=(k,v)) (b:=(k',w')) r t,h=>by
  obtain⟨rfl,av⟩:=r
  by_cases hk:(f == k)=true
  ·simp only[Cg,hk] at h ⊢
   cases h
   exact⟨v,rfl,av⟩
  ·have hk':(f == k)=false:=by simpa using hk
   simp only[Cg,hk'] at h ⊢
   exact bS.look t h
theorem bS.lookN{f:Str}:∀ {gs:List (Str×V)} {fs:List (Str×W)},bS K H M Str gs fs->fs.lookup f=none->gs.lookup f=none
 | _,_,.nil,_=>rfl
 | _,_,.cons (a:=(k,v)) (b:=(k',w')) r t,h=>by
  obtain⟨rfl,av⟩:=r
  by_cases hk:(f == k)=true
  ·simp only[Cg,hk] at h
   cases h
  ·have hk':(f == k)=false:=by simpa using hk
   simp only[Cg,hk'] at h ⊢
   exact bS.lookN t h
theorem bS.putF{f:Str}{v:V}{w:W}(av:AV K H M v w):∀ {gs:List (Str×V)} {fs:List (Str×W)},bS K H M Str gs fs->bS K H M Str (L2.putF f v gs) (bY f w fs)
 | _,_,.nil=>.cons ⟨rfl,av⟩ .nil
 | _,_,.cons (a:=(k,v')) (b:=(k',w')) r t=>by
  obtain⟨rfl,av'⟩:=r
  show bS K H M Str (if k=f then(k,v) :: _ else(k,v') :: L2.putF f v _) (if k=f then(k,w) :: _ else(k,w') :: bY f w _)
  by_cases hk:k=f
  ·rw[if_pos hk,if_pos hk];exact .cons ⟨rfl,av⟩ t
  ·rw[if_neg hk,if_neg hk];exact .cons ⟨rfl,av'⟩ (bS.putF av t)
theorem bS.len{κ:Type}{gs:List (κ×V)}{fs:List (κ×W)}(h:bS K H M κ gs fs):gs.length=fs.length:=by
 have:=congrArg Ds h.keys
 simpa using this
end
section
variable {X:Cx}{C:Addr}{f m:Str}{pos apos cpos:Pos}{ta tv:aX}{o e value:Expr}{es:List Expr}{t:cZ}{sp:bK}
def cT(C:Addr)(ta:aX)(f:Str):aX:=fun τ M R=>ta τ M fun x M1=>∃ a dx fs w,x=.ref a/\M1 a=some (.ins C dx fs)/\fs.lookup f=some w/\R w M1
theorem dU(c:gB X.K C)(n:fN X.K C f)(he:E3 X o ta)(hb:Jl o f X.env (eval o X.env)=eval o X.env:=by rfl):E3 X (.Attribute o f pos) (cT C ta f):=
 (OH he hb).weak fun σ H Q z0=>z0.el fun τ M R as am h k=>⟨τ,M,_,as,am,h,fun x H1 wx M1 k1 am1 ax ⟨a,dx,fs,w,e1,e2,e3,r⟩=>by
  subst e1
  obtain rfl:=ax.inv
  obtain⟨gs,e4,q⟩:=am1 a _ e2
  obtain⟨v,e5,av⟩:=q.look e3
  exact⟨a,C,dx,gs,v,rfl,e4,c,n,e5,k _ _ _ _ k1 am1 av r⟩⟩
def jA(C:Addr)(ta:aX)(f:Str)(tv:aX):aJ:=fun D τ M=>tv τ M fun y M1=>ta τ M1 fun x M2=>∃ a dx fs,x=.ref a/\M2 a=some (.ins C dx fs)/\fs.length < 1000/\D.nx τ (put M2 a (.ins C dx (bY f y fs)))
theorem j0(c:gB X.K C)(n:fN X.K C f)(ha:E3 X o ta)(hv:E3 X value tv)(hs:Js value (some (.Attribute o f apos)) pos.line X.env=pure false:=by rfl):P3 X (.Assign [.Attribute o f apos] value pos) (jA C ta f tv):=
 (OI ha hv hs).weak fun D σ H z0=>z0.el fun τ M D' as am h k=>⟨τ,M,_,as,am,h,fun y H1 wy M1 k1 am1 ay h1=>⟨τ,M1,_,as.kp am k1,am1,h1,fun x H2 wx M2 k2 am2 ax ⟨a,dx,fs,e1,e2,hl,r⟩=>by
  subst e1
  obtain rfl:=ax.inv
  obtain⟨gs,e4,q⟩:=am2 a _ e2
  refine⟨a,C,dx,gs,rfl,e4,c,n,by rw[q.len];exact hl,?_⟩
  obtain⟨am3,k3⟩:=am2.write (o:=.ins C dx (bY f wy fs)) (u:=.ins C dx (L2.putF f y gs)) e2 ⟨_,cU,((q.putF (ay.kp am1 k2))).go (nL am2 e2)⟩
  exact k.nx _ _ _ _ ((k1.trans k2).trans k3) am3 (((as.kp am k1).kp am1 k2).kp am2 k3) r⟩⟩
variable {k:Nat}{g:Addr}{fd:Bk}{ps:List Str}
def gT(C:Addr)(m:Str)(sp:bK)(ta:aX)(t:cZ):aX:=fun τ M R=>ta τ M fun x M1=>∃ a dx fs,x=.ref a/\M1 a=some (.ins C dx fs)/\fs.lookup m=none/\t τ M1 fun ws M2=>sp (.ref a :: ws) M2 R
theorem VD{σ:SV}{H:Hp}{Q:VK}(h:up X.K (gT C m sp ta t) σ H Q):u5 C m (fR X.K sp) [] E0 (up X.K ta) (nM X.K t) σ H Q:=by
 obtain⟨τ,M,R,as,am,h,k⟩:=h
 refine⟨τ,M,_,as,am,h,fun x H1 wx M1 k1 am1 ax ⟨a,dx,fs,e1,e2,e3,h1⟩=>?_⟩
 subst e1
 obtain rfl:=ax.inv
 obtain⟨gs,e4,q⟩:=am1 a _ e2
 refine⟨a,dx,gs,rfl,e4,q.lookN e3,τ,M1,_,as.kp am k1,am1,h1,fun vs H2 ws M2 k2 am2 avs h2=>⟨.ref a :: ws,M2,R,am2,?_,h2,k.kp (k1.trans k2)⟩⟩
 rw[Jc]
 exact .cons (.ref a) avs
theorem lS{pl:Sem Bool}(c:gB X.K C)(hm:nF X.K C m g)(F:eC X.prog X.w X.K X.mg X.base fD k g fd ps (fR X.K sp))(hr:cM k X.A)(hb:Binds X.K fd ps [])(he:E3 X o ta)(ha:A3 X (e :: es) t)
  (hst:Bh (e :: es) X.env=(false,eval e X.env) :: Bh es X.env:=by rfl) (hpl:(Hf pos (Bh es X.env)).any (·.1)=false:=by rfl)
  (ht:eval (.Call (.Attribute o m apos) (e :: es) [] pos) X.env=(do
   let ov <-eval o X.env
   Nj apos.atName
   let (f,first) <-Ht [ov] (Nl ov m pl)
   callWith pos f first (Hf pos (Bh (e :: es) X.env)) (backToKw pos (Lx [] X.env))):=by rfl) :
  E3 X (.Call (.Attribute o m apos) (e :: es) [] pos) (gT C m sp ta t):=(OT (pl:=pl) he c hm F hr hb .nil nH ha hst hpl ht).weak fun _ _ _ h=>VD h
theorem xA{pl:Sem Bool}(c:gB X.K C)(hm:nF X.K C m g)(F:eC X.prog X.w X.K X.mg X.base fD k g fd ps (fR X.K sp))(hr:cM k X.A)(hb:Binds X.K fd ps [])(he:E3 X o ta)
  (ht:eval (.Call (.Attribute o m apos) [] [] pos) X.env=(do
   let ov <-eval o X.env
   Nj apos.atName
   let (f,first) <-Ht [ov] (Nl ov m pl)
   callWith pos f first (Hf pos (Bh [] X.env)) (backToKw pos (Lx [] X.env))):=by rfl) :
  E3 X (.Call (.Attribute o m apos) [] [] pos) (gT C m sp ta aF):=(OU (pl:=pl) he c hm F hr hb .nil nH ht).weak fun σ H Q h=>by
 obtain⟨τ,M,R,as,am,h,k⟩:=h
 refine⟨τ,M,_,as,am,h,fun x H1 wx M1 k1 am1 ax ⟨a,dx,fs,e1,e2,e3,h1⟩=>?_⟩
 subst e1
 obtain rfl:=ax.inv
 obtain⟨gs,e4,q⟩:=am1 a _ e2
 exact⟨a,dx,gs,rfl,e4,q.lookN e3,[.ref a],M1,R,am1,.cons (.ref a) .nil,h1,k.kp k1⟩
def sS(C:Addr)(sp:bK)(t:cZ):aX:=fun τ M R=>t τ M fun ws M1=>∀ a dx,M1 a=none->M1 dx=none->dx≠a->sp (.ref a :: ws) (put M1 a (.ins C dx [])) fun w M2=>w=.non/\R (.ref a) M2
theorem AM.made{K:Ac}{H:Hp}{M:Mm}{x dx:Addr}(am:AM K H M)(hx:H x=none)(hd:H dx=none)(ne:dx≠x):AM K (aQ (aQ H dx (.own x)) x (.ins C dx [])) (put M x (.ins C dx []))/\Kp H M (aQ (aQ H dx (.own x)) x (.ins C dx [])) (put M x (.ins C dx [])):=by
 obtain⟨am1,k1⟩:=am.tup (u:=.own x) hd
 have hx1:aQ H dx (.own x) x=none:=by rw[bH (Bp ne)];exact hx
 obtain⟨am2,k2⟩:=am1.laid (o:=.ins C dx []) (u:=.ins C dx []) hx1 ⟨[],cU,.nil⟩
 exact⟨am2,k1.trans k2⟩
theorem GX{H:Hp}{M:Mm}{R:K3}{Q:VK}{vs:List V}{ws:List W}(am:AM X.K H M)(avs:aM X.K H M vs ws)(h:∀ a dx,M a=none->M dx=none->dx≠a->sp (.ref a :: ws) (put M a (.ins C dx [])) fun w M2=>w=.non/\R (.ref a) M2)(k:Up X.K H M R Q) :
  ∀ x dx,H x=none->H dx=none->dx≠x->fR X.K sp (.ref x :: (vs ++ [])) (aQ (aQ H dx (.own x)) x (.ins C dx [])) (fun v H2=>v=.non/\Q (.ref x) H2) E0:=by
 intro x dx hx hd ne
 obtain⟨am1,k1⟩:=am.made (C:=C) hx hd ne
 refine⟨.ref x :: ws,_,_,am1,?_,h x dx (am.nonM hx) (am.nonM hd) ne,fun v H2 w M2 k2 am2 av r=>?_⟩
 ·rw[Jc];exact .cons (.ref x) (avs.kp am k1)
 ·obtain⟨rfl,r⟩:=r
  obtain rfl:=av.inv
  exact⟨rfl,k _ _ _ _ (k1.trans k2) am2 (.ref x) r⟩
theorem VE{x:Str}{p:Pos}(M:Mk X.K C g)(F:eC X.prog X.w X.K X.mg X.base fD k g fd ps (fR X.K sp))(hr:cM (k + 1) X.A)(hg:Gl X x)(hm:X.mg x=some (.ref C))(hb:Binds X.K fd ps [])(ha:A3 X (e :: es) t)
  (hdb:(x == ("__debug__" : Str))=false:=by decide) (he:Bh (e :: es) X.env=(false,eval e X.env) :: Bh es X.env:=by rfl) (hpl:(Hf pos (Bh es X.env)).any (·.1)=false:=by rfl) :
  E3 X (.Call (.Name x p) (e :: es) [] pos) (sS C sp t):=(OV M F hr hg hm hb .nil nH ha hdb he hpl).weak fun σ H Q z0=>z0.el fun τ M R as am h k=>⟨τ,M,_,as,am,h,fun vs H1 ws M1 k1 am1 avs h1=>GX am1 avs h1 (k.kp k1)⟩
theorem VF{x:Str}{p:Pos}(M:Mk X.K C g)(F:eC X.prog X.w X.K X.mg X.base fD k g fd ps (fR X.K sp))(hr:cM (k + 1) X.A)(hg:Gl X x)(hm:X.mg x=some (.ref C))(hb:Binds X.K fd ps [])
  (hdb:(x == ("__debug__" : Str))=false:=by decide):E3 X (.Call (.Name x p) [] [] pos) (sS C sp aF):=(OW M F hr hg hm hb .nil nH hdb).weak fun σ H Q z0=>z0.el fun τ M R as am h k=>GX am .nil h k
end
end L3
namespace L2
open PySem PySem.Spec PyProof.Rows
section
variable {prog:Bo}{w:Ce}{K:Type}[DecidableEq K]{knd:HeapKind prog w K}{A:Ck}{E:Ae->Ah->Prop}{s:Ah}{d a:Addr}{k:K}{xs:List (K×Addr×Ae)}
theorem VG{y:Ae}{Q:Ae->Ah->Prop}(hu:knd.room A)(hkey:knd.is s.heap k a)(hm:s.heap.DictOfH knd d xs)(hsz:xs.length<=Am)
  (h1:∀ p,Mh xs k=some p->Q p.2 {s with toks:=s.toks + knd.draws k})
  (h2:Mh xs k=none->∀ h',h'.DictOfH knd d (Mw xs k a y)->Dn d s.heap h'->Q y {s with heap:=h',toks:=s.toks + knd.draws k}) :
  Ba (Bj prog w) A (dictSetDefault d (.ref a) y) Q E s:=by
 obtain⟨o,es,ep,ho,hc,hd,he,his,hn⟩:=hm
 unfold dictSetDefault
 refine Cq (Aa (knd.pyHash hu hkey (Aa (wpAny_dictFind_heap (s:={s with toks:=s.toks + knd.draws k}) hu hkey ho hd he his hn (fun hno=>?_) fun j p hj=>?_))))
 ·have hk:=atKey_none_of_get hno
  have hnot:k∉xs.map (·.1):=not_mem_keys_of_get hno
  refine Aa (Ga (Aa (wpAny_updateDictKeys (hz:=by have e:=Nb he;lia) (s:={s with toks:=s.toks + knd.draws k}) ho hd (Ag (h2 hk _ ⟨_,_,ep + 1,Er _ ho (Obj.isFreed_of_dict (Ki hd _)),
   hc.mapDictKeys _,Ki hd _,?_,fun x hx=>?_,?_⟩ (Bt ..))))))
  ·rw[storedH_new hk]
   simp[he,entryOfKey]
  ·rw[storedH_new hk] at hx
   rcases Bl.mp hx with q | q
   ·exact knd.keeps (his x q) ho hd (Bt ..)
   ·obtain rfl:=Aw.mp q
    exact knd.keeps hkey ho hd (Bt ..)
  ·rw[storedH_new hk,Bi,Ea]
   refine⟨hn,by simp,fun x hx y hy=>?_⟩
   simp only[Ay,Jo,Aw] at hy
   subst hy
   exact fun e=>hnot (e ▸ hx)
 ·refine Aa (Ii (s:={s with toks:=s.toks + knd.draws k}) ho hd ?_)
  rw[entry_at he j,hj]
  exact Aa (Ga (Ag (h1 p (atKey_of_get hn hj))))
theorem GY:∀ {xs:List (K×Addr×Ae)} {j:Nat} {p:Addr×Ae},(xs.map (·.1)).Nodup->xs[j]? = some (k,p)->xs.eraseIdx j=xs.filter fun x=>decide (x.1≠k)
 | [],j,p,_,h=>by simp at h
 | x :: r,0,p,hn,h=>by
  have e:x=(k,p):=by simpa using h
  subst e
  rw[Ay,Dg] at hn
  rw[List.eraseIdx_zero,List.tail_cons,List.filter_cons_of_neg (by simp)]
  refine(List.filter_eq_self.mpr fun y hy=>?_).symm
  rw[decide_eq_true_eq]
  exact fun e=>hn.1 (Az.mpr ⟨y,hy,e⟩)
 | x :: r,j + 1,p,hn,h=>by
  rw[Ay,Dg] at hn
  have hj:r[j]? = some (k,p):=by simpa using h
  have hx:x.1≠k:=fun e=>hn.1 (Az.mpr ⟨(k,p),An hj,e.symm⟩)
  rw[List.eraseIdx_cons_succ,GY hn.2 hj,List.filter_cons_of_pos (by simpa using hx)]
theorem VH{v:Ae}{b:Addr}{Q:Option Ib->Ah->Prop}(hu:knd.room A)(hkey:knd.is s.heap k a)(hm:s.heap.DictOfH knd d xs)(hsz:xs.length<=Am)(hv:Mh xs k=some (b,v))
  (h:∀ h',h'.DictOfH knd d (xs.filter fun x=>decide (x.1≠k))->Dn d s.heap h'->Q (some ⟨knd.hash k,.ref b,v⟩) {s with heap:=h',toks:=s.toks + knd.draws k}) :
  Ba (Bj prog w) A (Builtin.Dict.takeOut d (.ref a)) Q E s:=by
 obtain⟨o,es,ep,ho,hc,hd,he,his,hn⟩:=hm
 unfold Builtin.Dict.takeOut
 refine Cq (Aa (knd.pyHash hu hkey (Aa (wpAny_dictFind_heap (s:={s with toks:=s.toks + knd.draws k}) hu hkey ho hd he his hn (fun hno=>?_) fun j p hj=>?_))))
 ·rw[atKey_none_of_get hno] at hv;cases hv
 ·rw[atKey_of_get hn hj] at hv
  cases hv
  have hej:=GY hn hj
  refine Aa (Ii (s:={s with toks:=s.toks + knd.draws k}) ho hd ?_)
  rw[entry_at he j,hj]
  refine Aa (wpAny_updateDictKeys (hz:=by have e:=Nb he;lia) (s:={s with toks:=s.toks + knd.draws k}) ho hd (Ag (h _ ⟨_,_,ep + 1,Er _ ho (Obj.isFreed_of_dict (Ki hd _)),
   hc.mapDictKeys _,Ki hd _,?_,fun x hx=>knd.keeps (his x (Cv.mp hx).1) ho hd (Bt ..),?_⟩ (Bt ..))))
  ·rw[<-hej]
   have e2:(xs.eraseIdx j).map (entryOfKey knd)=(xs.map (entryOfKey knd)).eraseIdx j:=by simp[List.eraseIdx_eq_take_drop_succ,Lg,Nd]
   rw[e2,<-he]
   obtain⟨l⟩:=es
   simp
  ·exact hn.sublist (List.filter_sublist.map _)
end
section
variable {X:Cx}{pins:List (Addr×Obj)}{σ:St}{H:Hp}{s:Ah}{a b:Addr}{v:V}{r:Ae}{A:Ck}{E:Ae->Ah->Prop}{kvs:List (List aE×V)}{k:List aE}
theorem KT.drop{xs:List (List aE×Addr×Ae)}(rel:KT H kvs xs)(k:List aE):KT H (mD kvs k) (xs.filter fun x=>decide (x.1≠k)):=by
 induction rel with
 | nil=>exact .nil
 | @cons p q ps qs h t ih=>
  unfold mD at ih ⊢
  rw[Dk,Dk,<-h.1]
  split
  ·exact .cons h ih
  ·exact ih
theorem VI{Q:Ae->Ah->Prop}(hu:A.units + 1 < Fn)(I:Inv X pins σ H s)(e:H a=some (.dT kvs))(eb:H b=some (.tup (k.map kV)))(rv:RelV v r)(hl:kvs.length < Am)
  (h1:∀ v0 w' s',fP kvs k=some v0->Inv X pins σ H s'->RelV v0 w'->Q w' s') (h2:fP kvs k=none->∀ s',Inv X pins σ (aQ H a (.dT (eJ kvs k v))) s'->Q r s') :
  Ba (Bj X.prog X.w) A (call (.builtin "dict.setdefault") [.ref a,.ref b,r]) Q E s:=by
 obtain⟨z,hd,xs,rel,dd⟩:=rL I.hok e
 have hz:xs.length<=Am:=by rw[<-Ee rel];exact z
 have hv:=rel.val k
 refine Lb PySem.F.slot_dict_setdefault dd.typeIs PySem.F.entry_dict_setdefault (PySem.F.args_dict_setdefault_3 _ _ _)
  (S:=fun A R s1=>(Fy (dO X.prog X.w)).room A.in1/\(Fy (dO X.prog X.w)).is s1.heap k b/\s1.heap.DictOfH (Fy (dO X.prog X.w)) a xs/\
   (∀ p,Mh xs k=some p->R (.ok (.ret p.2)) {s1 with toks:=s1.toks + (k.length + 1)})/\
   (Mh xs k=none->∀ h',h'.DictOfH (Fy (dO X.prog X.w)) a (Mw xs k b r)->Dn a s1.heap h'->R (.ok (.ret r)) {s1 with heap:=h',toks:=s1.toks + (k.length + 1)}))
  (.of_wp fun A R s1 ⟨q0,q1,q2,q3,q4⟩=>?_) ⟨Ew hu,iY I.hok eb,dd,fun p hp=>?_,fun hn h' dd' hs=>?_⟩
 ·unfold Ha.«dict.setdefault»
  refine Aa ?_
  unfold Builtin.Dict.keyAndDefault
  refine Aa (Ic q2.typeIs ?_)
  refine Ag ?_
  dsimp only
  rw[if_neg (by rw[hd];exact Ar)]
  exact Aa (VG q0 q1 q2 hz (fun p hp=>Ag ⟨_,rfl,q3 p hp⟩) fun hn h' hm' hs'=>Ag ⟨_,rfl,q4 hn h' hm' hs'⟩)
 ·rw[hp] at hv
  cases q:fP kvs k with
  | none=>rw[q] at hv;exact(show False from hv).elim
  | some v0=>rw[q] at hv;exact h1 v0 _ _ q (I.tok _) hv
 ·rw[hn] at hv
  have q:fP kvs k=none:=by
   cases q:fP kvs k with
   | none=>rfl
   | some v0=>rw[q] at hv;exact(show False from hv).elim
  have hl':(eJ kvs k v).length<=Am:=by have:=oY kvs k v;lia
  obtain⟨q1,es,ep,hq,g2,g3,g4,_,g5⟩:=dd'
  refine h2 q _ (oZ (t':=s.toks + (k.length + 1)) I (by rw[e];exact True.intro) hs ⟨q1,hq⟩ ⟨hl',hd,_,(rel.put k eb rv).keeps fun c ys ec=>?_,q1,es,ep,hq,g2,g3,g4,g5⟩)
  rw[bH (qT ec e (fun z=>nomatch z))]
  exact ec
theorem VJ{Q:Ae->Ah->Prop}(hu:A.units + 1 < Fn)(I:Inv X pins σ H s)(e:H a=some (.dT kvs))(eb:H b=some (.tup (k.map kV)))(l:fP kvs k=some v)
  (h:∀ w' s',Inv X pins σ (aQ H a (.dT (mD kvs k))) s'->RelV v w'->Q w' s'):Ba (Bj X.prog X.w) A (call (.builtin "dict.pop") [.ref a,.ref b]) Q E s:=by
 obtain⟨z,hd,xs,rel,dd⟩:=rL I.hok e
 have hz:xs.length<=Am:=by rw[<-Ee rel];exact z
 obtain⟨w',hw,rw'⟩:=fB.some_of (v:=v) (o:=(Mh xs k).map (·.2)) (by rw[<-l];exact rel.val k)
 obtain⟨⟨c,w2⟩,hc,rfl⟩:=Bg.mp hw
 refine Lb PySem.F.slot_dict_pop dd.typeIs PySem.F.entry_dict_pop (PySem.F.args_dict_pop_2 _ _)
  (S:=fun A R s1=>(Fy (dO X.prog X.w)).room A.in1/\(Fy (dO X.prog X.w)).is s1.heap k b/\s1.heap.DictOfH (Fy (dO X.prog X.w)) a xs/\
   ∀ h',h'.DictOfH (Fy (dO X.prog X.w)) a (xs.filter fun x=>decide (x.1≠k))->Dn a s1.heap h'->R (.ok (.ret w2)) {s1 with heap:=h',toks:=s1.toks + (k.length + 1)})
  (.of_wp fun A R s1 ⟨q0,q1,q2,q3⟩=>?_) ⟨Ew hu,iY I.hok eb,dd,fun h' dd' hs=>?_⟩
 ·unfold Ha.«dict.pop»
  refine Aa ?_
  unfold Builtin.Dict.keyAndDefault
  refine Aa (Ic q2.typeIs ?_)
  refine Ag ?_
  dsimp only
  rw[if_neg (show ¬ ((keyPart (Value.ref b)).isSome=true) from Ar)]
  obtain⟨o,es,ep,ho,hc',hd',he,his,hn⟩:=id q2
  have hne:es.isEmpty=false:=by
   have h1:=Nb he
   cases xs with
   | nil=>cases hc
   | cons x r=>rw[Array.isEmpty_eq_false_iff];intro z;rw[z] at h1;simp at h1
  refine Aa (Ii ho hd' ?_)
  refine Aa (Ag ?_)
  rw[hne,if_neg Ar]
  refine Aa (VH q0 q1 q2 hz hc fun h' hm' hs'=>?_)
  rw[if_neg (by simp)]
  exact Aa (wpAny_letGo (Ag ⟨_,rfl,q3 h' hm' hs'⟩))
 ·obtain⟨q1,es,ep,hq,g2,g3,g4,_,g5⟩:=dd'
  refine h w2 _ (oZ (t':=s.toks + (k.length + 1)) I (by rw[e];exact True.intro) hs ⟨q1,hq⟩ ⟨Bc (QN kvs k) z,hd,_,(rel.drop k).keeps fun c ys ec=>?_,q1,es,ep,hq,g2,g3,g4,g5⟩) rw'
  rw[bH (qT ec e (fun z=>nomatch z))]
  exact ec
end
end L2
namespace L3
open PySem PySem.Spec PyProof.Rows L2
section
variable {X:Cx}
def sU:W->List W->Mm->K3->Prop
 | d,[y],M,R=>∃ o,eR M d y o/\R (o.getD .non) M
 | d,[y,v],M,R=>∃ o,eR M d y o/\R (o.getD v) M
 | _,_,_,_=>False
theorem xB(hu:X.A.units + 1 < Fn):iG X "dict.get" (kF X.K sU):=by
 rintro pins s σ H x xs v us Q I rx rs ⟨wx,ws,M,R,am,ax,axs,h,k⟩
 match ws,h with
 | [y],h=>
  obtain⟨z,rfl,az⟩:=axs.one
  obtain⟨o,g,r⟩:=h
  obtain⟨a,rfl,g2⟩:=sA am ax az g
  cases rx
  obtain⟨u,rfl,ru⟩:=rs.one
  rcases g2 with⟨rfl,g3⟩ | ⟨v0,w0,rfl,g3,av⟩
  ·exact D7 hu I g3 ru fun w' s' I' rw'=>⟨_,H,I',rw',k.at am .non r⟩
  ·exact D7 hu I g3 ru fun w' s' I' rw'=>⟨_,H,I',rw',k.at am av r⟩
 | [y,v1],h=>
  obtain⟨z,z1,rfl,az,az1⟩:=axs.two
  obtain⟨o,g,r⟩:=h
  obtain⟨a,rfl,g2⟩:=sA am ax az g
  cases rx
  obtain⟨u,u1,rfl,ru,ru1⟩:=vals2 rs
  rcases g2 with⟨rfl,g3⟩ | ⟨v0,w0,rfl,g3,av⟩
  ·exact D8 hu I g3 ru ru1 fun w' s' I' rw'=>⟨_,H,I',rw',k.at am az1 r⟩
  ·exact D8 hu I g3 ru ru1 fun w' s' I' rw'=>⟨_,H,I',rw',k.at am av r⟩
def pZ:W->List W->Mm->K3->Prop
 | .ref a,[.tup ks,v],M,R=>∃ kvs k,M a=some (.dT kvs)/\ks=k.map wK/\kvs.length < Am/\(∀ w,bD kvs k=some w->R w M)/\(bD kvs k=none->R v (put M a (.dT (cC kvs k v))))
 | _,_,_,_=>False
theorem GZ(hu:X.A.units + 1 < Fn):iG X "dict.setdefault" (kF X.K pZ):=by
 rintro pins s σ H x xs v us Q I rx rs ⟨wx,ws,M,R,am,ax,axs,h,k⟩
 match wx,ws,h with
 | .ref a,[.tup ks,v1],h=>
  obtain⟨z,z1,rfl,az,az1⟩:=axs.two
  obtain⟨kvs,kk,e,rfl,hl,h1,h2⟩:=h
  obtain rfl:=ax.inv
  cases rx
  obtain⟨u,u1,rfl,ru,ru1⟩:=vals2 rs
  obtain⟨gs,e1,q⟩:=am _ _ e
  cases az with
  | @tup b vs _ eb qb=>
   cases (show u=Value.ref b from ru)
   rw[qb.keys] at eb
   have lk:=r6 q kk
   refine VI hu I e1 eb ru1 (by rw[q.len];exact hl) (fun v0 w' s' e2 I' rw'=>?_) fun e2 s' I'=>?_
   ·rcases lk with⟨_,l2⟩ | ⟨v2,w2,l1,l2,av⟩
    ·rw[l2] at e2;cases e2
    ·rw[l2] at e2;cases e2
     exact⟨_,H,I',rw',k.at am av (h1 w2 l1)⟩
   ·rcases lk with⟨l1,l2⟩ | ⟨v2,w2,l1,l2,av⟩
    ·obtain⟨am3,k3⟩:=am.write (o:=.dT (cC kvs kk v1)) (u:=.dT (eJ gs kk z1)) e ⟨_,cU,(r9 q kk az1).go (nL am e)⟩
     exact⟨_,_,I',ru1,k _ _ _ _ k3 am3 (az1.wr am e) (h2 l1)⟩
    ·rw[l2] at e2;cases e2
def iP{κ:Type}[DecidableEq κ](kvs:List (κ×W))(k:κ):List (κ×W):=kvs.filter fun kv=>decide (kv.1≠k)
theorem VL{κ:Type}[DecidableEq κ]{K:Ac}{H:Hp}{M:Mm}{gs:List (κ×V)}{kvs:List (κ×W)}(h:bS K H M κ gs kvs)(k:κ):bS K H M κ (mD gs k) (iP kvs k):=by
 induction h with
 | nil=>exact .nil
 | @cons p q ps qs r t ih=>
  unfold mD iP at ih ⊢
  rw[Dk,Dk,<-r.1]
  split
  ·exact .cons r ih
  ·exact ih
def G0:W->List W->Mm->K3->Prop
 | .ref a,[.tup ks],M,R=>∃ kvs k w,M a=some (.dT kvs)/\ks=k.map wK/\bD kvs k=some w/\R w (put M a (.dT (iP kvs k)))
 | _,_,_,_=>False
theorem VM(hu:X.A.units + 1 < Fn):iG X "dict.pop" (kF X.K G0):=by
 rintro pins s σ H x xs v us Q I rx rs ⟨wx,ws,M,R,am,ax,axs,h,k⟩
 match wx,ws,h with
 | .ref a,[.tup ks],h=>
  obtain⟨z,rfl,az⟩:=axs.one
  obtain⟨kvs,kk,w,e,rfl,l,r⟩:=h
  obtain rfl:=ax.inv
  cases rx
  obtain⟨u,rfl,ru⟩:=rs.one
  obtain⟨gs,e1,q⟩:=am _ _ e
  cases az with
  | @tup b vs _ eb qb=>
   cases (show u=Value.ref b from ru)
   rw[qb.keys] at eb
   rcases r6 q kk with⟨l1,l2⟩ | ⟨v2,w2,l1,l2,av⟩
   ·rw[l1] at l;cases l
   ·rw[l1] at l;cases l
    obtain⟨am3,k3⟩:=am.write (o:=.dT (iP kvs kk)) (u:=.dT (mD gs kk)) e ⟨_,cU,(VL q kk).go (nL am e)⟩
    exact VJ hu I e1 eb l2 fun w' s' I' rw'=>⟨_,_,I',rw',k _ _ _ _ k3 am3 (av.wr am e) r⟩
end
section
variable {K:Ac}{H:Hp}{M:Mm}
theorem VN(k:aE):AV K H M (kV k) (wK k):=by cases k <;> first | exact .int _ | exact .str _
theorem G1:∀ ks:List aE,aM K H M (ks.map kV) (ks.map wK)
 | []=>.nil
 | k :: r=>.cons (VN k) (G1 r)
end
end L3
namespace PySem
namespace Zd
open PyProof.Rows L2 PySem.Spec Zt
section
variable {prog:Bo}{w:Ce}{A:Ck}{E:Ae->Ah->Prop}{s:Ah}
variable {z TI TO i1 i2 l1 l2:Addr}{xs ys:Array Ae}{S1 S2:Nat->Heap->Prop}
abbrev TK(prog:Bo)(w:Ce):=Fy (dO prog w)
def allH(es:List (List aE×Addr×Ae))(ps:List (List aE×Addr×Ae)):List (List aE×Addr×Ae):=ps.foldl (fun es p=>Mw es p.1 p.2.1 p.2.2) es
theorem G2(es:List (List aE×Addr×Ae))(k:List aE)(a:Addr)(v:Ae):(Mw es k a v).length<=es.length + 1:=by
 unfold Mw
 split
 ·rw[Ab];omega
 ·rw[Ao,Cd];exact Aj _
theorem p5{h h':Heap}{k:List aE}{a:Addr}(x:(TK prog w).is h k a)(e:∀ o,h.get? a=some o->h'.get? a=some o):(TK prog w).is h' k a:=by
 obtain⟨o,items,n,ho,r⟩:=x
 exact⟨o,items,n,e o ho,r⟩
end
end Zd
end PySem
namespace L2
open PySem PySem.Spec PyProof.Rows
def mR(ks:List (List aE×V))(ps:List (List aE×V)):List (List aE×V):=ps.foldl (fun k p=>eJ k p.1 p.2) ks
theorem VO{H:Hp}{qs:List (List aE×Addr×V)}{ps:List (List aE×Addr×Ae)}(h:Gr (fun(q:List aE×Addr×V) (p:List aE×Addr×Ae)=>q.1=p.1/\q.2.1=p.2.1/\RelV q.2.2 p.2.2) qs ps) :
  ∀ {kvs:List (List aE×V)} {es:List (List aE×Addr×Ae)},(∀ q∈qs,H q.2.1=some (.tup (q.1.map kV)))->KT H kvs es->KT H (mR kvs (qs.map fun q=>(q.1,q.2.2))) (Zd.allH es ps):=by
 induction h with
 | nil=>intro kvs es _ k;exact k
 | @cons q p qs ps r t ih=>
  intro kvs es hq k
  obtain⟨q1,q2,q3⟩:=q
  obtain⟨p1,p2,p3⟩:=p
  obtain⟨rfl,rfl,r3⟩:=r
  exact ih (fun z hz=>hq z (Bd _ hz)) (k.put q1 (hq _ Bf) r3)
theorem G3:∀ (ps:List (List aE×V)) (ks:List (List aE×V)),(mR ks ps).length<=ks.length + ps.length
 | [],ks=>Aj _
 | p :: ps,ks=>by
  have h1:=G3 ps (eJ ks p.1 p.2)
  have h2:=oY ks p.1 p.2
  show(mR (eJ ks p.1 p.2) ps).length<=ks.length + (ps.length + 1)
  omega
end L2
namespace L3
open PySem PySem.Spec PyProof.Rows L2
def nW(kvs:List (List aE×W))(ps:List (List aE×W)):List (List aE×W):=ps.foldl (fun kvs p=>cC kvs p.1 p.2) kvs
structure Dm(K:Ac)(C:Addr)(x qual:Str)(st:Stmt)(ps:List Str)(f:Addr)(fd:Bk):Prop where
 fn:jO K x qual st f fd
 me:nF K C x f
 bi:Binds K fd ps []
structure Di(K:Ac)(C:Addr)(x qual:Str)(st:Stmt)(ps:List Str)(f:Addr)(fd:Bk):Prop where
 fn:jO K x qual st f fd
 mak:Mk K C f
 bi:Binds K fd ps []
theorem VP{A:Ck}{k:Nat}(hr:cM k A):A.units + 2 < Fn:=by have:=hr.un;omega
end L3
namespace L2
open PySem PySem.Spec PyProof.Rows
def gH(a b:Int×Int):Bool:=decide (a.1 < b.1) || (decide (a.1=b.1) && decide (a.2 < b.2))
section
variable {prog:Bo}{w:Ce}{A:Ck}{E:Ae->Ah->Prop}{s:Ah}
theorem VQ{a b:Addr}{oa ob:Obj}{xs ys:Array Ae}{na nb:Nat}{x1 x2 y1 y2:Int}{t1 t2 u1 u2:Tok}{Q:Ae->Ah->Prop}(hu:A.units + 1 < Fn)(hoa:s.heap.get? a=some oa)(hca:oa.cls=.type "tuple")(hda:oa.data=.seq xs na)(hob:s.heap.get? b=some ob)(hcb:ob.cls=.type "tuple")(hdb:ob.data=.seq ys nb)
  (ex:xs.toList=[.int x1 t1,.int x2 t2]) (ey:ys.toList=[.int y1 u1,.int y2 u2]) (h:Q (.bool (gH (x1,x2) (y1,y2))) s):Ba (Bj prog w) A (Bw .Lt (.ref a) (.ref b)) Q E s:=by
 have hTa:s.TypeIs (.ref a) "tuple":=⟨oa,hoa,hca⟩
 have hTb:s.TypeIs (.ref b) "tuple":=⟨ob,hob,hcb⟩
 show Ba _ _ (richCompare .Lt (.ref a) (.ref b)) Q E s
 refine wpAny_richCompare_same_room (op:=.Lt) hTa hTb PySem.F.slot_tuple_lt (Dh PySem.F.slot_tuple_lt hTa PySem.F.entry_tuple_lt ?_ (PySem.F.args_tuple_lt_2 _ _)) (Nat.lt_of_succ_lt hu)
 show Ba _ _ (isInstance (.ref b) (.type "tuple") >>= _) _ _ s
 refine Aa (Ja hTb isSubtype_tuple_tuple ?_)
 simp only[Ke,Eg,if_false]
 refine Aa (Li hoa hda ?_)
 refine Aa (Li hob hdb ?_)
 refine Aa ?_
 rw[ex,ey]
 show Ba _ _ (forIn [(Value.int x1 t1,Value.int y1 u1),(Value.int x2 t2,Value.int y2 u2)] _ _) _ _ s
 have hsz:xs.size=2/\ys.size=2:=by
  have h1:=congrArg Ds ex
  have h2:=congrArg Ds ey
  simp at h1 h2
  exact⟨h1,h2⟩
 refine wpAny_forIn_list _
  (fun rest q s'=>q.1=none/\s'=s/\(rest=[(Value.int x1 t1,Value.int y1 u1),(Value.int x2 t2,Value.int y2 u2)]\/(rest=[(Value.int x2 t2,Value.int y2 u2)]/\x1=y1)\/(rest=[]/\x1=y1/\x2=y2)))
  _ ?_ ?_ _ _ ⟨rfl,rfl,.inl rfl⟩
 ·rintro⟨u,v⟩ rest q s' ⟨hq,rfl,hc⟩
  rcases hc with z | ⟨z,e1⟩ | ⟨z,_⟩
  ·simp only[Dw,Dd] at z
   obtain⟨⟨rfl,rfl⟩,rfl⟩:=z
   refine Aa (Km ?_)
   by_cases e1:x1=y1
   ·rw[show(x1 == y1)=true by simpa using e1]
    simp only[Ke,Eg,if_false]
    exact Ag ⟨rfl,rfl,by simp[e1]⟩
   ·rw[show(x1 == y1)=false by simpa using e1]
    simp only[Mv,if_true]
    have e:gH (x1,x2) (y1,y2)=decide (x1 < y1):=by simp[gH,e1]
    rw[e] at h
    refine Aa (Ga (Aa (PyProof.Rows.lt_int ?_)))
    exact Aa (Ag (Ag (Ag ⟨_,rfl,(fun e=>nomatch e),h⟩)))
  ·simp only[Dw,Dd] at z
   obtain⟨⟨rfl,rfl⟩,rfl⟩:=z
   refine Aa (Km ?_)
   by_cases e2:x2=y2
   ·rw[show(x2 == y2)=true by simpa using e2]
    simp only[Ke,Eg,if_false]
    exact Ag ⟨rfl,rfl,by simp[e1,e2]⟩
   ·rw[show(x2 == y2)=false by simpa using e2]
    simp only[Mv,if_true]
    have e:gH (x1,x2) (y1,y2)=decide (x2 < y2):=by simp[gH,e1]
    rw[e] at h
    refine Aa (Ga (Aa (PyProof.Rows.lt_int ?_)))
    exact Aa (Ag (Ag (Ag ⟨_,rfl,(fun e=>nomatch e),h⟩)))
  ·cases z
 ·rintro⟨q1,q2⟩ s' ⟨hq,rfl,hc⟩
  simp only at hq
  subst hq
  rcases hc with z | ⟨z,_⟩ | ⟨_,e1,e2⟩
  ·cases z
  ·cases z
  ·refine Ag ⟨_,rfl,(fun e=>nomatch e),?_⟩
   subst e1;subst e2
   have e:gH (x1,x2) (x1,x2)=decide (xs.size < ys.size):=by rw[hsz.1,hsz.2];simp[gH]
   rw[e] at h
   exact h
theorem VR{a b:Addr}{oa ob:Obj}{xs ys:Array Ae}{na nb:Nat}{x1 x2 y1 y2:Int}{t1 t2 u1 u2:Tok}{Q:Ae->Ah->Prop}(hu:A.units + 1 < Fn)(hoa:s.heap.get? a=some oa)(hca:oa.cls=.type "tuple")(hda:oa.data=.seq xs na)(hob:s.heap.get? b=some ob)(hcb:ob.cls=.type "tuple")(hdb:ob.data=.seq ys nb)
  (ex:xs.toList=[.int x1 t1,.int x2 t2]) (ey:ys.toList=[.int y1 u1,.int y2 u2]) (h:Q (.bool (gH (y1,y2) (x1,x2))) s):Ba (Bj prog w) A (Bw .Gt (.ref a) (.ref b)) Q E s:=by
 have hTa:s.TypeIs (.ref a) "tuple":=⟨oa,hoa,hca⟩
 have hTb:s.TypeIs (.ref b) "tuple":=⟨ob,hob,hcb⟩
 show Ba _ _ (richCompare .Gt (.ref a) (.ref b)) Q E s
 refine wpAny_richCompare_same_room (op:=.Gt) hTa hTb PySem.F.slot_tuple_gt (Dh PySem.F.slot_tuple_gt hTa PySem.F.entry_tuple_gt ?_ (PySem.F.args_tuple_gt_2 _ _)) (Nat.lt_of_succ_lt hu)
 show Ba _ _ (isInstance (.ref b) (.type "tuple") >>= _) _ _ s
 refine Aa (Ja hTb isSubtype_tuple_tuple ?_)
 simp only[Ke,Eg,if_false]
 refine Aa (Li hoa hda ?_)
 refine Aa (Li hob hdb ?_)
 refine Aa ?_
 rw[ex,ey]
 show Ba _ _ (forIn [(Value.int x1 t1,Value.int y1 u1),(Value.int x2 t2,Value.int y2 u2)] _ _) _ _ s
 have hsz:xs.size=2/\ys.size=2:=by
  have h1:=congrArg Ds ex
  have h2:=congrArg Ds ey
  simp at h1 h2
  exact⟨h1,h2⟩
 refine wpAny_forIn_list _
  (fun rest q s'=>q.1=none/\s'=s/\(rest=[(Value.int x1 t1,Value.int y1 u1),(Value.int x2 t2,Value.int y2 u2)]\/(rest=[(Value.int x2 t2,Value.int y2 u2)]/\x1=y1)\/(rest=[]/\x1=y1/\x2=y2)))
  _ ?_ ?_ _ _ ⟨rfl,rfl,.inl rfl⟩
 ·rintro⟨u,v⟩ rest q s' ⟨hq,rfl,hc⟩
  rcases hc with z | ⟨z,e1⟩ | ⟨z,_⟩
  ·simp only[Dw,Dd] at z
   obtain⟨⟨rfl,rfl⟩,rfl⟩:=z
   refine Aa (Km ?_)
   by_cases e1:x1=y1
   ·rw[show(x1 == y1)=true by simpa using e1]
    simp only[Ke,Eg,if_false]
    exact Ag ⟨rfl,rfl,by simp[e1]⟩
   ·rw[show(x1 == y1)=false by simpa using e1]
    simp only[Mv,if_true]
    have e:gH (y1,y2) (x1,x2)=decide (y1 < x1):=by simp[gH,Bp e1]
    rw[e] at h
    refine Aa (Ga (Aa (PyProof.Rows.gt_int ?_)))
    exact Aa (Ag (Ag (Ag ⟨_,rfl,(fun e=>nomatch e),h⟩)))
  ·simp only[Dw,Dd] at z
   obtain⟨⟨rfl,rfl⟩,rfl⟩:=z
   refine Aa (Km ?_)
   by_cases e2:x2=y2
   ·rw[show(x2 == y2)=true by simpa using e2]
    simp only[Ke,Eg,if_false]
    exact Ag ⟨rfl,rfl,by simp[e1,e2]⟩
   ·rw[show(x2 == y2)=false by simpa using e2]
    simp only[Mv,if_true]
    have e:gH (y1,y2) (x1,x2)=decide (y2 < x2):=by simp[gH,e1]
    rw[e] at h
    refine Aa (Ga (Aa (PyProof.Rows.gt_int ?_)))
    exact Aa (Ag (Ag (Ag ⟨_,rfl,(fun e=>nomatch e),h⟩)))
  ·cases z
 ·rintro⟨q1,q2⟩ s' ⟨hq,rfl,hc⟩
  simp only at hq
  subst hq
  rcases hc with z | ⟨z,_⟩ | ⟨_,e1,e2⟩
  ·cases z
  ·cases z
  ·refine Ag ⟨_,rfl,(fun e=>nomatch e),?_⟩
   subst e1;subst e2
   have e:gH (x1,x2) (x1,x2)=decide (xs.size > ys.size):=by rw[hsz.1,hsz.2];simp[gH]
   rw[e] at h
   exact h
end
section
variable {X:Cx}
def rInsert:V->List V->Hp->VK->Prop:=fun x vs H Q=>∃ l xs y i,x=.ref l/\vs=[.int (i:Nat),y]/\H l=some (.lst xs)/\xs.length < Am/\i<=xs.length/\Q .non (aQ H l (.lst (xs.take i ++ y :: xs.drop i)))
theorem aZ.splitAt:∀ {xs:List V} {us:List Ae} (i:Nat),aZ xs us->aZ (xs.take i) (us.take i)/\aZ (xs.drop i) (us.drop i)
 | _,_,0,h=>⟨.nil,h⟩
 | _,_,i + 1,.nil=>⟨.nil,.nil⟩
 | _,_,i + 1,.cons r t=>by
  obtain⟨h1,h2⟩:=aZ.splitAt i t
  exact⟨.cons r h1,h2⟩
theorem VS:vA X "list.insert" rInsert:=by
 intro pins s σ H x vs v us Q I rx rv h
 obtain⟨l,xs,y,i,rfl,rfl,hH,hz,hi,q⟩:=h
 cases rx
 obtain⟨u1,u2,rfl,r1,r2⟩:=vals2 rv
 obtain⟨tk,rfl⟩:=r1
 obtain⟨z,its,n,r,hl,e⟩:=I.lstM hH
 have hlen:its.length=xs.length:=r.length.symm
 have hs:Am=16777216:=Ir
 have hc0:¬ (!Builtin.List.listFitsIndex ((i:Nat):Int))=true:=by
  have h1:Builtin.List.listFitsIndex ((i:Nat):Int)=true:=by
   unfold Builtin.List.listFitsIndex
   rw[Cj,decide_eq_true_eq,decide_eq_true_eq]
   lia
  rw[h1];decide
 have hs1:its.toArray.size<=Am:=by rw[Bb];lia
 generalize hj:((i:Nat):Int)=j at hc0 e ⊢
 have hm:=PySem.AutoSeq1.list_insert_list_int_val_1 l its.toArray n j tk u2 hc0 hs1
 refine Ll F.slot_list_insert ⟨_,e,rfl⟩ F.entry_list_insert (F.args_list_insert_3 _ _ _) hm ⟨e,?_⟩
 obtain⟨h1,h2⟩:=aZ.splitAt i r
 refine⟨.non,_,I.lset (its':=its.take i ++ u2 :: its.drop i) hH e ?_ (h1.append (.cons r2 h2)) ?_,rfl,q⟩
 ·have hk:(if j < 0 then(j + (its.toArray.size:Int)).toNat else min j.toNat its.toArray.size)=i:=by
   rw[<-hj,if_neg (by lia),Bz,Bb];lia
  show(its.toArray.extract 0 (if j < 0 then(j + (its.toArray.size:Int)).toNat else min j.toNat its.toArray.size)).push u2 ++ its.toArray.extract (if j < 0 then(j + (its.toArray.size:Int)).toNat else min j.toNat its.toArray.size)=_
  rw[hk]
  apply Array.toList_inj.mp
  simp[Array.toList_append,Array.toList_push]
  rw[Fc (by rw[Gg];lia)]
 ·rw[Ao,Bn,Cb,Gg]
  lia
end
end L2
namespace L3
open PySem PySem.Spec PyProof.Rows L2
section
variable {X:Cx}
def xC:R3:=fun x y M R=>∃ a b c d:Int,x=.tup [.int a,.int b]/\y=.tup [.int c,.int d]/\R (.bl (gH (a,b) (c,d))) M
def G4:R3:=fun x y M R=>∃ a b c d:Int,x=.tup [.int a,.int b]/\y=.tup [.int c,.int d]/\R (.bl (gH (c,d) (a,b))) M
theorem sW{pins:List (Addr×Obj)}{σ:SV}{H:Hp}{M:Mm}{s:Ah}{x:V}{v:Ae}{a b:Int}(I:Inv X pins σ H s)(rx:RelV x v)(ax:AV X.K H M x (.tup [.int a,.int b])):∃ p o its n t u,v=.ref p/\s.heap.get? p=some o/\o.cls=.type "tuple"/\o.data=.seq its n/\its.toList=[.int a t,.int b u]:=by
 cases ax with
 | @tup p xs _ e q=>
  cases (show v=Value.ref p from rx)
  obtain⟨y,z,rfl,ay,az⟩:=q.two
  obtain rfl:=ay.inv
  obtain rfl:=az.inv
  obtain⟨_,its,r,o,h1,h2,m,h3⟩:=(show cN X.prog X.w H s.heap p (.tup [.int a,.int b]) from I.hok p _ e)
  obtain⟨u1,u2,rfl,r1,r2⟩:=vals2 r
  obtain⟨t1,rfl⟩:=r1
  obtain⟨t2,rfl⟩:=r2
  exact⟨p,o,_,m,t1,t2,rfl,h1,h2,h3,by simp⟩
theorem G5(hu:X.A.units + 1 < Fn):bG X (Bw .Lt) (cE X.K xC):=by
 rintro pins s σ H x y v u Q I rx ry ⟨wx,wy,M,R,am,ax,ay,⟨a,b,c,d,rfl,rfl,r⟩,k⟩
 obtain⟨p,o,its,n,t1,t2,rfl,h1,h2,h3,h4⟩:=sW I rx ax
 obtain⟨p',o',its',n',t1',t2',rfl,g1,g2,g3,g4⟩:=sW I ry ay
 exact VQ hu h1 h2 h3 g1 g2 g3 h4 g4 ⟨.bl _,H,I,rfl,k.at am (.bl _) r⟩
theorem VT(hu:X.A.units + 1 < Fn):bG X (Bw .Gt) (cE X.K G4):=by
 rintro pins s σ H x y v u Q I rx ry ⟨wx,wy,M,R,am,ax,ay,⟨a,b,c,d,rfl,rfl,r⟩,k⟩
 obtain⟨p,o,its,n,t1,t2,rfl,h1,h2,h3,h4⟩:=sW I rx ax
 obtain⟨p',o',its',n',t1',t2',rfl,g1,g2,g3,g4⟩:=sW I ry ay
 exact VR hu h1 h2 h3 g1 g2 g3 h4 g4 ⟨.bl _,H,I,rfl,k.at am (.bl _) r⟩
def G6:W->List W->Mm->K3->Prop
 | .ref l,[.int i,y],M,R=>∃ ws,M l=some (.lst ws)/\ws.length < Am/\0<=i/\i<=ws.length/\R .non (put M l (.lst (ws.take i.toNat ++ y :: ws.drop i.toNat)))
 | _,_,_,_=>False
theorem G7{K:Ac}{H:Hp}{M:Mm}:∀ {vs:List V} {ws:List W} (i:Nat),aM K H M vs ws->aM K H M (vs.take i) (ws.take i)/\aM K H M (vs.drop i) (ws.drop i)
 | _,_,0,h=>⟨.nil,h⟩
 | _,_,i + 1,.nil=>⟨.nil,.nil⟩
 | _,_,i + 1,.cons r t=>by
  obtain⟨h1,h2⟩:=G7 i t
  exact⟨.cons r h1,h2⟩
theorem VU:iG X "list.insert" (kF X.K G6):=by
 rintro pins s σ H x xs v us Q I rx rs ⟨wx,ws,M,R,am,ax,axs,h,k⟩
 match wx,ws,h with
 | .ref l,[.int i,y],h=>
  obtain⟨u,z,rfl,au,az⟩:=axs.two
  obtain rfl:=ax.inv
  obtain rfl:=au.inv
  obtain⟨ws,e,hl,h0,h1,r⟩:=h
  obtain⟨i,rfl⟩:=Int.eq_ofNat_of_zero_le h0
  obtain⟨vs,f,q⟩:=am.lst e
  obtain⟨q1,q2⟩:=G7 i q
  rw[Bz] at r
  exact VS pins s σ H _ _ v us Q I rx rs ⟨l,vs,z,i,rfl,rfl,f,by rw[q.length];exact hl,by rw[q.length];lia,vW am k e (q1.append (.cons az q2)) .non r⟩
end
end L3
namespace Rg
open PySem PySem.Spec PyProof.Rows L2 L3
structure aW where
 name:Str
 parts:List Str
 cost:Int
def VW(t:Str):Prop:=∀ c∈cs t,c < 128
structure VX(t:Str):Prop where
 len:t.length<=20
 nm:jQ t=true
 hd:∃ c r,cs t=c :: r/\c∈cs lD
 asc:VW t
structure xD(t:Str):Prop where
 len:t.length<=20
 ne:cs t≠[]
 sm:∀ c∈cs t,c∈cs pA
theorem xD.nm{t:Str}(h:xD t):jQ t=false:=RX h.ne h.sm
structure VY(hs ws:List Str)(r:aW):Prop where
 name:r.name∈hs
 parts:∀ t∈r.parts,t∈ws\/t∈hs
 few:r.parts.length<=4
 lo:0<=r.cost
 hi:r.cost < 10 ^ 60
structure xE(rs:List aW):Prop where
 ne:rs≠[]
 few:rs.length<=60
 ex:∃ hs ws:List Str,hs.length<=12/\(∀ t∈hs,VX t)/\(∀ t∈ws,xD t)/\(∀ r∈rs,VY hs ws r)/\∀ t∈hs,∃ r∈rs,r.name=t
def hV(acc:List Str)(t:Str):List Str:=if t∈acc then acc else acc ++ [t]
def p6(acc:List Str)(rs:List aW):List Str:=(rs.map aW.name).foldl hV acc
def namesOf(rs:List aW):List Str:=p6 [] rs
theorem VZ{acc:List Str}{t u:Str}:u∈hV acc t↔u∈acc\/u=t:=by
 unfold hV
 split
 ·rename_i h
  constructor
  ·exact .inl
  ·rintro(q | q)
   ·exact q
   ·rw[q];exact h
 ·rw[Bl,Aw]
theorem V0{acc:List Str}{t:Str}:(hV acc t).length<=acc.length + 1:=by
 unfold hV
 split
 ·lia
 ·rw[Ao];exact Aj _
theorem xF:∀ {ts acc:List Str} {u:Str},u∈ts.foldl hV acc↔u∈acc\/u∈ts
 | [],acc,u=>by simp
 | t :: r,acc,u=>by
  rw[Fd,xF,VZ,Ax]
  constructor
  ·rintro((h | h) | h)
   ·exact .inl h
   ·exact .inr (.inl h)
   ·exact .inr (.inr h)
  ·rintro(h | h | h)
   ·exact .inl (.inl h)
   ·exact .inl (.inr h)
   ·exact .inr h
theorem G8{rs:List aW}{u:Str}:u∈namesOf rs↔∃ r∈rs,r.name=u:=by
 unfold namesOf p6
 rw[xF]
 simp
theorem sX:∀ (ts acc:List Str),(ts.foldl hV acc).length<=acc.length + ts.length
 | [],acc=>by simp
 | t :: r,acc=>by
  rw[Fd,Bn]
  have:=sX r (hV acc t)
  have:=V0 (acc:=acc) (t:=t)
  lia
theorem V1{rs:List aW}(g:xE rs){r:aW}(hr:r∈rs):0<=r.cost/\∀ t∈r.parts,t.length<=1000/\(jQ t=true->t∈namesOf rs):=by
 obtain⟨hs,ws,_,hh,hw,hrs,hall⟩:=g.ex
 refine⟨(hrs r hr).lo,fun t ht=>?_⟩
 rcases(hrs r hr).parts t ht with q | q
 ·have:=hw t q
  exact⟨by have:=this.len;lia,fun n=>by rw[this.nm] at n;cases n⟩
 ·have:=hh t q
  exact⟨by have:=this.len;lia,fun _=>G8.mpr (hall t q)⟩
def cY(r:aW):W:=.tup [.str r.name,.tup (r.parts.map W.str),.int r.cost]
def cP(rs:List aW):W:=.rl (rs.map cY)
abbrev aK:=Int×Int
def cI(a b:aK):Bool:=decide (a.1 < b.1) || (decide (a.1=b.1) && decide (a.2 < b.2))
theorem nX{a b:aK}:cI a b=true↔a.1 < b.1\/a.1=b.1/\a.2 < b.2:=by simp[cI]
def Le(a b:aK):Prop:=a.1 < b.1\/a.1=b.1/\a.2<=b.2
theorem xG{a b:aK}:Le a b↔¬ cI b a=true:=by
 rw[nX];unfold Le;lia
theorem Le.refl(a:aK):Le a a:=.inr ⟨rfl,Lh _⟩
theorem Le.trans{a b c:aK}(h:Le a b)(h':Le b c):Le a c:=by unfold Le at *;lia
theorem Le.of_lt{a b:aK}(h:cI a b=true):Le a b:=by rw[nX] at h;unfold Le;lia
theorem Le.antisymm{a b:aK}(h:Le a b)(h':Le b a):a=b:=by
 unfold Le at *
 exact Mp (by lia) (by lia)
theorem p7{a:aK}:¬ cI a a=true:=by rw[nX];lia
theorem p8{a b c:aK}(h:cI a b=true)(h':Le b c):cI a c=true:=by rw[nX] at *;unfold Le at h';lia
def dY(a b:aK):aK:=(a.1 + b.1,a.2 + b.2)
theorem V2{a b c d:aK}(h:Le a b)(h':Le c d):Le (dY a c) (dY b d):=by unfold Le dY at *;simp only;lia
section
variable {κ β:Type}[DecidableEq κ]
def aH(t:List (κ×β))(k:κ):Option β:=(t.find? fun e=>decide (e.1=k)).map (·.2)
def c8(t:List (κ×β))(k:κ)(v:β):List (κ×β):=if (t.any fun e=>decide (e.1=k))=true then t.map (fun e=>if e.1=k then(e.1,v) else e) else t ++ [(k,v)]
theorem dG(e:κ×β)(t:List (κ×β))(k:κ):aH (e :: t) k=if e.1=k then some e.2 else aH t k:=by
 unfold aH
 rw[Fe]
 by_cases h:e.1=k
 ·rw[decide_eq_true h,if_pos h];rfl
 ·rw[decide_eq_false h,if_neg h]
theorem lT(t:List (κ×β))(k:κ):(t.any fun e=>decide (e.1=k))=(aH t k).isSome:=by
 induction t with
 | nil=>rfl
 | cons e t ih=>
  rw[Ge,dG,ih]
  by_cases h:e.1=k
  ·rw[decide_eq_true h,if_pos h];rfl
  ·rw[decide_eq_false h,if_neg h];rfl
theorem xH(t:List (κ×β))(k j:κ)(v:β):aH (t ++ [(k,v)]) j=(aH t j).or (if k=j then some v else none):=by
 induction t with
 | nil=>rw[Kk,dG];rfl
 | cons e t ih=>
  rw[List.cons_append,dG,dG,ih]
  split <;> rfl
theorem V3(t:List (κ×β))(k j:κ)(v:β)(h:(aH t k).isSome=true):aH (t.map (fun e=>if e.1=k then(e.1,v) else e)) j=if k=j then some v else aH t j:=by
 induction t with
 | nil=>cases h
 | cons e t ih=>
  rw[Ay,dG,dG]
  rw[dG] at h
  by_cases hk:e.1=k
  ·rw[if_pos hk]
   by_cases hj:k=j
   ·rw[if_pos (by rw[hk,hj]:(e.1,v).1=j),if_pos hj]
   ·rw[if_neg (by rw[hk];exact hj),if_neg hj,if_neg (by rw[hk];exact hj)]
    by_cases ht:(aH t k).isSome=true
    ·rw[ih ht,if_neg hj]
    ·have:∀ {t:List (κ×β)},¬ (aH t k).isSome=true->t.map (fun e=>if e.1=k then(e.1,v) else e)=t:=by
      intro t
      induction t with
      | nil=>intro _;rfl
      | cons a t ih=>
       intro h
       rw[dG] at h
       by_cases ha:a.1=k
       ·rw[if_pos ha] at h;exact absurd rfl h
       ·rw[if_neg ha] at h
        rw[Ay,if_neg ha,ih h]
     rw[this ht]
  ·rw[if_neg hk] at h ⊢
   by_cases hj:e.1=j
   ·rw[if_pos hj,if_pos hj,if_neg (fun z=>hk (by rw[hj,z]))]
   ·rw[if_neg hj,if_neg hj]
    exact ih h
theorem kS(t:List (κ×β))(k j:κ)(v:β):aH (c8 t k v) j=if k=j then some v else aH t j:=by
 unfold c8
 rw[lT]
 split
 ·rename_i h
  exact V3 t k j v h
 ·rename_i h
  rw[xH]
  by_cases hj:k=j
  ·subst hj
   rw[if_pos rfl,if_pos rfl]
   cases e:aH t k with
   | none=>rfl
   | some z=>rw[e] at h;exact absurd rfl h
  ·rw[if_neg hj,if_neg hj,Option.or_none]
theorem sY(t:List (κ×β))(k:κ)(v:β):(c8 t k v).length<=t.length + 1:=by
 unfold c8
 split
 ·rw[Ab];lia
 ·simp
def eO{γ:Type}(t:List (κ×List γ))(k:κ)(v:γ):List (κ×List γ):=c8 t k ((aH t k).getD [] ++ [v])
theorem p9{γ:Type}(t:List (κ×List γ))(k j:κ)(v:γ):(aH (eO t k v) j).getD []=if k=j then(aH t j).getD [] ++ [v] else(aH t j).getD []:=by
 unfold eO
 rw[kS]
 by_cases h:k=j
 ·subst h;rw[if_pos rfl,if_pos rfl];rfl
 ·rw[if_neg h,if_neg h]
end
section
variable {α:Type}
def dQ(c:aK)(x:α):List (aK×List α)->List (aK×List α)
 | []=>[(c,[x])]
 | (d,xs) :: r=>if cI c d=true then(d,xs) :: dQ c x r else if d=c then(d,xs ++ [x]) :: r else(c,[x]) :: (d,xs) :: r
def bC:List (aK×List α)->List (aK×α)
 | []=>[]
 | (d,xs) :: r=>xs.map (fun x=>(d,x)) ++ bC r
theorem sZ(c:aK)(x:α):∀ q:List (aK×List α),(bC (dQ c x q)).length=(bC q).length + 1
 | []=>rfl
 | (d,xs) :: r=>by
  rw[dQ]
  split
  ·rw[bC,bC,Ao,Ao,sZ c x r];lia
  ·split
   ·rw[bC,bC,Ao,Ao,Bi,Ao];simp;lia
   ·simp[bC]
def gJ:List (aK×List α)->Prop
 | []=>True
 | (d,xs) :: r=>xs≠[]/\(∀ e∈r,cI e.1 d=true)/\gJ r
theorem G9(c:aK)(x:α):∀ q:List (aK×List α),∀ e∈dQ c x q,e.1=c\/∃ e'∈q,e'.1=e.1
 | [],e,h=>by simp[dQ] at h;exact .inl (by rw[h])
 | (d,xs) :: r,e,h=>by
  rw[dQ] at h
  split at h
  ·rcases Ax.mp h with z | z
   ·exact .inr ⟨(d,xs),by simp,by rw[z]⟩
   ·rcases G9 c x r e z with q | ⟨e',q1,q2⟩
    ·exact .inl q
    ·exact .inr ⟨e',Bd _ q1,q2⟩
  ·split at h
   ·rcases Ax.mp h with z | z
    ·exact .inr ⟨(d,xs),by simp,by rw[z]⟩
    ·exact .inr ⟨e,Bd _ z,rfl⟩
   ·rcases Ax.mp h with z | z
    ·exact .inl (by rw[z])
    ·exact .inr ⟨e,z,rfl⟩
theorem xI(c:aK)(x:α):∀ {q:List (aK×List α)},gJ q->gJ (dQ c x q)
 | [],_=>⟨by simp,by simp,trivial⟩
 | (d,xs) :: r,h=>by
  obtain⟨h1,h2,h3⟩:=h
  rw[dQ]
  split
  ·rename_i hlt
   refine⟨h1,fun e he=>?_,xI c x h3⟩
   rcases G9 c x r e he with z | ⟨e',z1,z2⟩
   ·rw[z];exact hlt
   ·rw[<-z2];exact h2 e' z1
  ·rename_i hlt
   split
   ·rename_i hd
    subst hd
    exact⟨by simp,h2,h3⟩
   ·rename_i hd
    have hdc:cI d c=true:=by
     have hlt':¬ (c.1 < d.1\/c.1=d.1/\c.2 < d.2):=by rw[<-nX];exact hlt
     rw[nX]
     by_cases h1:d.1=c.1
     ·refine .inr ⟨h1,?_⟩
      have:d.2≠c.2:=fun h2=>hd (Mp h1 h2)
      lia
     ·left;lia
    refine⟨by simp,fun e he=>?_,h1,h2,h3⟩
    rcases Ax.mp he with z | z
    ·rw[z];exact hdc
    ·exact p8 (h2 e z) (Le.of_lt hdc)
def gU:List (aK×List α)->Option (aK×α×List (aK×List α))
 | []=>none
 | [(d,xs)]=>match xs.getLast? with
  | none=>none
  | some x=>some (d,x,if xs.dropLast.isEmpty then [] else [(d,xs.dropLast)])
 | e :: e2 :: r=>match gU (e2 :: r) with
  | none=>none
  | some (d,x,q)=>some (d,x,e :: q)
theorem mS:∀ {q:List (aK×List α)},gJ q->q≠[]->∃ d x q',gU q=some (d,x,q')/\gJ q'/\(∀ e,e∈bC q↔e=(d,x)\/e∈bC q')/\(bC q).length=(bC q').length + 1/\(∀ e∈q,Le d e.1)/\∀ e∈q',∃ e'∈q,e'.1=e.1
 | [],_,h=>absurd rfl h
 | [(d,xs)],h,_=>by
  obtain⟨h1,_,_⟩:=h
  rcases Fi xs with z | ⟨ys,y,z⟩
  ·exact absurd z h1
  ·rw[Fj] at z
   subst z
   refine⟨d,y,if ys.isEmpty then [] else [(d,ys)],by simp[gU],?_,fun e=>?_,?_,fun e he=>?_,fun e he=>?_⟩
   ·cases ys with
    | nil=>trivial
    | cons a b=>exact⟨by simp,by simp,trivial⟩
   ·cases ys with
    | nil=>simp[bC]
    | cons a b=>simp[bC];constructor <;> (intro h;rcases h with h | h | h <;> simp[h])
   ·cases ys with
    | nil=>simp[bC]
    | cons a b=>simp[bC]
   ·rw[Aw.mp he];exact Le.refl _
   ·cases ys with
    | nil=>cases he
    | cons a b=>simp at he;exact⟨(d,a :: b ++ [y]),by simp,by rw[he]⟩
 | e :: e2 :: r,h,_=>by
  obtain⟨h1,h2,h3⟩:=h
  obtain⟨d,x,q',e1,f1,m1,l1,c1,k1⟩:=mS h3 (by simp)
  refine⟨d,x,e :: q',by rw[gU,e1],⟨h1,fun z hz=>?_,f1⟩,fun z=>?_,?_,fun z hz=>?_,fun z hz=>?_⟩
  ·obtain⟨z',hz',ez⟩:=k1 z hz
   rw[<-ez];exact h2 z' hz'
  ·rw[bC,Bl,m1,bC,Bl]
   constructor
   ·rintro(h | h | h)
    ·exact .inr (.inl h)
    ·exact .inl h
    ·exact .inr (.inr h)
   ·rintro(h | h | h)
    ·exact .inr (.inl h)
    ·exact .inl h
    ·exact .inr (.inr h)
  ·rw[bC,Ao,l1,bC,Ao];lia
  ·rcases Ax.mp hz with q | q
   ·rw[q]
    have:=c1 e2 Bf
    exact this.trans (Le.of_lt (h2 e2 Bf))
   ·exact c1 z q
  ·rcases Ax.mp hz with q | q
   ·exact⟨e,Bf,by rw[q]⟩
   ·obtain⟨z',hz',ez⟩:=k1 z q
    exact⟨z',Bd _ hz',ez⟩
theorem HA{q:List (aK×List α)}{e:aK×α}(h:e∈bC q):∃ b∈q,b.1=e.1:=by
 induction q with
 | nil=>cases h
 | cons b r ih=>
  obtain⟨d,xs⟩:=b
  rw[bC] at h
  rcases Bl.mp h with z | z
  ·obtain⟨x,_,rfl⟩:=Az.mp z
   exact⟨(d,xs),Bf,rfl⟩
  ·obtain⟨b,hb,e1⟩:=ih z
   exact⟨b,Bd _ hb,e1⟩
end
section
variable {α:Type}
theorem HB(c:aK)(x:α):∀ q:List (aK×List α),(bC (dQ c x q)).Perm ((c,x) :: bC q)
 | []=>.refl _
 | (d,xs) :: r=>by
  rw[dQ]
  split
  ·rw[bC,bC]
   exact(Lp _ (HB c x r)).trans List.perm_middle
  ·split
   ·rename_i hd
    subst hd
    rw[bC,bC,Bi,Fu]
    exact List.perm_middle
   ·exact .refl _
theorem xJ:∀ {q q':List (aK×List α)} {d:aK} {x:α},gJ q->gU q=some (d,x,q')->(bC q).Perm ((d,x) :: bC q')
 | [],q',d,x,_,h=>by cases h
 | [(d0,xs)],q',d,x,hf,h=>by
  obtain⟨h1,_,_⟩:=hf
  rcases Fi xs with z | ⟨ys,y,z⟩
  ·exact absurd z h1
  ·rw[Fj] at z
   subst z
   simp[gU] at h
   obtain⟨rfl,rfl,rfl⟩:=h
   cases ys with
   | nil=>exact .refl _
   | cons a b=>
    rw[if_neg (by simp)]
    simp only[bC,Jc,Bi,Ay,Jo]
    exact List.perm_append_singleton _ _
 | e :: e2 :: r,q',d,x,hf,h=>by
  obtain⟨_,_,h3⟩:=hf
  rw[gU] at h
  split at h
  ·cases h
  ·rename_i d1 x1 q1 e1
   simp only[Eh,Dd] at h
   obtain⟨rfl,rfl,rfl⟩:=h
   have ih:=xJ h3 e1
   obtain⟨d0,xs⟩:=e
   rw[bC,bC]
   exact(Lp _ ih).trans List.perm_middle
end
structure Sr where
 rs:List aW
 own:Str->Bool
 places:List Int
 steps:Str->Int->List (Int×Int)
 wt:Nat->Int
structure qA(G:Sr):Prop where
 wt:∀ n,0<=G.wt n
 pr:∀ t p e c,(e,c)∈G.steps t p->0<=c
abbrev K4:=Nat×Nat×Int×Int
abbrev aY:=Str×Int×Int
abbrev bZ:=Nat×List Int×aK
def bM(n:Nat)(cut:List Int):K4:=(n,cut.length,cut.headD 0,cut.getLastD 0)
def kT(y:bZ):K4:=bM y.1 y.2.1
abbrev bR:=List (aY×aK×Nat×List Int)
structure SS where
 q:List (aK×List (Nat×List Int))
 reached:List (K4×aK)
 best:bR
 ends:List ((Str×Int)×List (Int×aK))
 begun:List ((Str×Int)×List bZ)
def reach(st:SS)(n:Nat)(cut:List Int)(c:aK):SS:=match aH st.reached (bM n cut) with
 | some d=>if cI c d=true then {st with reached:=c8 st.reached (bM n cut) c,q:=dQ c (n,cut) st.q} else st
 | none=>{st with reached:=c8 st.reached (bM n cut) c,q:=dQ c (n,cut) st.q}
inductive GI(G:Sr)(B:bR):Nat->List Int->aK->Prop
 | start {n:Nat} {r:aW} {p:Int}:G.rs[n]? = some r->p∈G.places->GI G B n [p] (G.wt n,1)
 | word {n:Nat} {r:aW} {cut:List Int} {c:aK} {part:Str} {e pr:Int}:GI G B n cut c->G.rs[n]? = some r->r.parts[cut.length - 1]? = some part->G.own part=false->(e,pr)∈G.steps part (cut.getLastD 0)->GI G B n (cut ++ [e]) (c.1 + pr,c.2)
 | name {n:Nat} {r:aW} {cut:List Int} {c m:aK} {part:Str} {e:Int} {k:Nat×List Int}:GI G B n cut c->G.rs[n]? = some r->r.parts[cut.length - 1]? = some part->G.own part=true->aH B (part,cut.getLastD 0,e)=some (m,k)->GI G B n (cut ++ [e]) (dY c m)
theorem GI.mono{G:Sr}{B B':bR}(h:∀ f v,aH B f=some v->aH B' f=some v){n:Nat}{cut:List Int}{c:aK}(g:GI G B n cut c):GI G B' n cut c:=by
 induction g with
 | start a b=>exact .start a b
 | word _ a b c d ih=>exact .word ih a b c d
 | name _ a b c d ih=>exact .name ih a b c (h _ _ d)
theorem GI.ne{G:Sr}{B:bR}{n:Nat}{cut:List Int}{c:aK}(g:GI G B n cut c):cut≠[]:=by cases g <;> simp
def qk(e:aK×(Nat×List Int)):aK×K4:=(e.1,bM e.2.1 e.2.2)
def eX(st:SS)(k:K4)(c:aK):Prop:=∃ d,aH st.reached k=some d/\Le d c
structure eY(G:Sr)(st:SS)(P:List bZ)(cur:aK):Prop where
 fall:gJ st.q
 item:∀ e∈bC st.q,GI G st.best e.2.1 e.2.2 e.1
 ge:∀ e∈bC st.q,∃ d,aH st.reached (bM e.2.1 e.2.2)=some d/\Le d e.1
 nd:((bC st.q).map qk).Nodup
 once:(P.map kT).Nodup
 pr:∀ y∈P,aH st.reached (kT y)=some y.2.2/\Le y.2.2 cur/\GI G st.best y.1 y.2.1 y.2.2
 fresh:∀ e∈bC st.q,∀ y∈P,kT y=bM e.2.1 e.2.2->cI y.2.2 e.1=true
 curq:∀ e∈bC st.q,Le cur e.1
 hit:∀ k d,aH st.reached k=some d->(∃ e∈bC st.q,e.1=d/\bM e.2.1 e.2.2=k)\/∃ y∈P,kT y=k/\y.2.2=d
structure jB(st st':SS):Prop where
 best:st'.best=st.best
 ends:st'.ends=st.ends
 begun:st'.begun=st.begun
 le:∀ k c,eX st k c->eX st' k c
theorem jB.refl(st:SS):jB st st:=⟨rfl,rfl,rfl,fun _ _ h=>h⟩
theorem jB.trans{a b c:SS}(x:jB a b)(y:jB b c):jB a c:=⟨y.best.trans x.best,y.ends.trans x.ends,y.begun.trans x.begun,fun k c h=>y.le k c (x.le k c h)⟩
theorem V4{G:Sr}{st:SS}{P:List bZ}{cur:aK}{n:Nat}{cut:List Int}{c:aK}(I:eY G st P cur)(g:GI G st.best n cut c)(hc:Le cur c) :
  eY G (reach st n cut c) P cur/\jB st (reach st n cut c)/\eX (reach st n cut c) (bM n cut) c:=by
 have push:(∀ d,aH st.reached (bM n cut)=some d->cI c d=true)->eY G {st with reached:=c8 st.reached (bM n cut) c,q:=dQ c (n,cut) st.q} P cur/\jB st {st with reached:=c8 st.reached (bM n cut) c,q:=dQ c (n,cut) st.q}/\eX {st with reached:=c8 st.reached (bM n cut) c,q:=dQ c (n,cut) st.q} (bM n cut) c:=by
  intro hlt
  have hp:=HB c (n,cut) st.q
  have hm:∀ e,e∈bC (dQ c (n,cut) st.q)↔e=(c,(n,cut))\/e∈bC st.q:=fun e=>by rw[hp.mem_iff,Ax]
  have noP:∀ y∈P,kT y≠bM n cut:=fun y hy e=>by
   obtain⟨h1,h2,_⟩:=I.pr y hy
   rw[e] at h1
   have:=p8 (hlt _ h1) (h2.trans hc)
   exact p7 this
  have le:∀ k d,eX st k d->eX {st with reached:=c8 st.reached (bM n cut) c,q:=dQ c (n,cut) st.q} k d:=fun k d h=>by
   obtain⟨z,h1,h2⟩:=h
   by_cases e:bM n cut=k
   ·subst e
    exact⟨c,by show aH (c8 _ _ _) _=_;rw[kS,if_pos rfl],(Le.of_lt (hlt z h1)).trans h2⟩
   ·exact⟨z,by show aH (c8 _ _ _) _=_;rw[kS,if_neg e];exact h1,h2⟩
  refine⟨⟨xI _ _ I.fall,fun e he=>?_,fun e he=>?_,?_,I.once,fun y hy=>?_,fun e he y hy ek=>?_,fun e he=>?_,fun k d hd=>?_⟩,⟨rfl,rfl,rfl,le⟩,c,by show aH (c8 _ _ _) _=_;rw[kS,if_pos rfl],Le.refl c⟩
  ·rcases(hm e).mp he with z | z
   ·rw[z];exact g
   ·exact I.item e z
  ·show ∃ d,aH (c8 _ _ _) _=_/\_
   rw[kS]
   rcases(hm e).mp he with z | z
   ·rw[z,if_pos rfl];exact⟨c,rfl,Le.refl _⟩
   ·obtain⟨d,h1,h2⟩:=I.ge e z
    by_cases ek:bM n cut=bM e.2.1 e.2.2
    ·rw[if_pos ek]
     rw[<-ek] at h1
     exact⟨c,rfl,(Le.of_lt (hlt d h1)).trans h2⟩
    ·rw[if_neg ek];exact⟨d,h1,h2⟩
  ·rw[(hp.map qk).nodup_iff,Ay,Dg]
   refine⟨fun z=>?_,I.nd⟩
   obtain⟨e,he,eq⟩:=Az.mp z
   obtain⟨d,h1,h2⟩:=I.ge e he
   unfold qk at eq
   rw[Dd] at eq
   rw[eq.2] at h1
   rw[eq.1] at h2
   exact p7 (p8 (hlt d h1) h2)
  ·obtain⟨h1,h2,h3⟩:=I.pr y hy
   refine⟨?_,h2,h3⟩
   show aH (c8 _ _ _) _=_
   rw[kS,if_neg (Bp (noP y hy))];exact h1
  ·rcases(hm e).mp he with z | z
   ·rw[z] at ek;exact absurd ek (noP y hy)
   ·exact I.fresh e z y hy ek
  ·rcases(hm e).mp he with z | z
   ·rw[z];exact hc
   ·exact I.curq e z
  ·have hd:aH (c8 st.reached (bM n cut) c) k=some d:=hd
   rw[kS] at hd
   by_cases e:bM n cut=k
   ·rw[if_pos e] at hd
    cases hd
    exact .inl ⟨(c,(n,cut)),(hm _).mpr (.inl rfl),rfl,e⟩
   ·rw[if_neg e] at hd
    rcases I.hit k d hd with⟨x,h1,h2,h3⟩ | h
    ·exact .inl ⟨x,(hm _).mpr (.inr h1),h2,h3⟩
    ·exact .inr h
 unfold reach
 cases h:aH st.reached (bM n cut) with
 | none=>exact push fun d e=>by rw[h] at e;cases e
 | some d=>
  simp only
  split
  ·rename_i hl
   exact push fun d' e=>by rw[h] at e;cases e;exact hl
  ·rename_i hl
   exact⟨I,jB.refl st,d,h,xG.mpr hl⟩
theorem qB{G:Sr}{P:List bZ}{cur:aK}{α:Type}(f:α->Nat×List Int×aK):∀ (xs:List α) {st:SS},eY G st P cur->(∀ x∈xs,GI G st.best (f x).1 (f x).2.1 (f x).2.2/\Le cur (f x).2.2)->
  eY G (xs.foldl (fun st x=>reach st (f x).1 (f x).2.1 (f x).2.2) st) P cur/\jB st (xs.foldl (fun st x=>reach st (f x).1 (f x).2.1 (f x).2.2) st)/\∀ x∈xs,eX (xs.foldl (fun st x=>reach st (f x).1 (f x).2.1 (f x).2.2) st) (bM (f x).1 (f x).2.1) (f x).2.2
 | [],st,I,_=>⟨I,jB.refl st,fun x hx=>nomatch hx⟩
 | x :: xs,st,I,h=>by
  obtain⟨h1,h2⟩:=h x Bf
  obtain⟨I1,g1,r1⟩:=V4 I h1 h2
  obtain⟨I2,g2,r2⟩:=qB f xs I1 fun y hy=>by
   have:=h y (Bd _ hy)
   rw[g1.best];exact this
  refine⟨I2,g1.trans g2,fun y hy=>?_⟩
  rcases Ax.mp hy with z | z
  ·rw[z];exact g2.le _ _ r1
  ·exact r2 y z
def cG(G:Sr)(n:Nat):Str:=match G.rs[n]? with
 | some r=>r.name
 | none=>""
def dH(G:Sr)(n:Nat)(cut:List Int):Option Str:=match G.rs[n]? with
 | some r=>r.parts[cut.length - 1]?
 | none=>none
def cL(G:Sr)(n:Nat)(cut:List Int):aY:=(cG G n,cut.headD 0,cut.getLastD 0)
def settle(G:Sr)(st:SS)(n:Nat)(cut:List Int)(c:aK):SS:=match aH st.best (cL G n cut) with
 | some _=>st
 | none=>((aH st.begun (cG G n,cut.headD 0)).getD []).foldl (fun st y=>reach st y.1 (y.2.1 ++ [cut.getLastD 0]) (dY y.2.2 c)) {st with best:=st.best ++ [(cL G n cut,c,n,cut)],ends:=eO st.ends (cG G n,cut.headD 0) (cut.getLastD 0,c)}
def fA(st:SS)(n:Nat)(cut:List Int)(c:aK)(part:Str):SS:=((aH st.ends (part,cut.getLastD 0)).getD []).foldl (fun st z=>reach st n (cut ++ [z.1]) (dY c z.2)) {st with begun:=eO st.begun (part,cut.getLastD 0) (n,cut,c)}
def fI(G:Sr)(st:SS)(n:Nat)(cut:List Int)(c:aK)(part:Str):SS:=(G.steps part (cut.getLastD 0)).foldl (fun st z=>reach st n (cut ++ [z.1]) (c.1 + z.2,c.2)) st
def process(G:Sr)(st:SS)(n:Nat)(cut:List Int)(c:aK):SS:=match dH G n cut with
 | none=>settle G st n cut c
 | some part=>if G.own part=true then fA st n cut c part else fI G st n cut c part
structure Ob(G:Sr)(st:SS)(P:List bZ)(cur:aK):Prop where
 zero:Le (0,0) cur
 fin:∀ y∈P,dH G y.1 y.2.1=none->∃ m k,aH st.best (cL G y.1 y.2.1)=some (m,k)/\Le m y.2.2
 wrd:∀ y∈P,∀ part,dH G y.1 y.2.1=some part->G.own part=false->∀ z∈G.steps part (y.2.1.getLastD 0),eX st (bM y.1 (y.2.1 ++ [z.1])) (y.2.2.1 + z.2,y.2.2.2)
 nam:∀ y∈P,∀ part,dH G y.1 y.2.1=some part->G.own part=true->y∈(aH st.begun (part,y.2.1.getLastD 0)).getD []
 pair:∀ key,∀ y∈(aH st.begun key).getD [],∀ z∈(aH st.ends key).getD [],eX st (bM y.1 (y.2.1 ++ [z.1])) (dY y.2.2 z.2)
 bgn:∀ key,∀ y∈(aH st.begun key).getD [],y∈P/\dH G y.1 y.2.1=some key.1/\G.own key.1=true/\y.2.1.getLastD 0=key.2/\Le (0,0) y.2.2
 ends:∀ nm b e m,(e,m)∈(aH st.ends (nm,b)).getD []↔∃ k,aH st.best (nm,b,e)=some (m,k)
 bst:∀ f m n cut,aH st.best f=some (m,n,cut)->dH G n cut=none/\f=cL G n cut/\Le (0,0) m/\Le m cur
 ord:∀ pre e post,st.best=pre ++ e :: post->GI G pre e.2.2.1 e.2.2.2 e.2.1/\aH pre e.1=none
theorem V5{a b:aK}(h:Le (0,0) b):Le a (dY a b):=by unfold Le dY at *;simp only at *;lia
theorem V6{a b:aK}(h:Le (0,0) b):Le a (dY b a):=by unfold Le dY at *;simp only at *;lia
theorem V7{G:Sr}{st:SS}{P:List bZ}{cur c:aK}{n:Nat}{cut:List Int}{q':List (aK×List (Nat×List Int))}(I:eY G st P cur)(ht:gU st.q=some (c,(n,cut),q'))(hr:aH st.reached (bM n cut)=some c):eY G {st with q:=q'} (P ++ [(n,cut,c)]) c/\Le cur c/\GI G st.best n cut c:=by
 have hne:st.q≠[]:=fun e=>by rw[e] at ht;cases ht
 obtain⟨d,x,q1,e1,f1,m1,l1,c1,_⟩:=mS I.fall hne
 rw[ht] at e1
 simp only[Eh,Dd] at e1
 obtain⟨rfl,rfl,rfl⟩:=e1
 have hp:=xJ I.fall ht
 have hin:(c,(n,cut))∈bC st.q:=(m1 _).mpr (.inl rfl)
 have sub:∀ e∈bC q',e∈bC st.q:=fun e he=>(m1 e).mpr (.inr he)
 have hcur:=I.curq _ hin
 have hnd:=I.nd
 rw[(hp.map qk).nodup_iff,Ay,Dg] at hnd
 have hmin:∀ e∈bC q',Le c e.1:=fun e he=>by
  obtain⟨b,hb,eb⟩:=HA (sub e he)
  rw[<-eb];exact c1 b hb
 have noP:∀ y∈P,kT y≠bM n cut:=fun y hy e=>by
  have h1:=I.fresh _ hin y hy e
  obtain⟨h2,_,_⟩:=I.pr y hy
  rw[e,hr] at h2
  cases h2
  exact p7 h1
 refine⟨⟨f1,fun e he=>I.item e (sub e he),fun e he=>I.ge e (sub e he),hnd.2,?_,fun y hy=>?_,fun e he y hy ek=>?_,hmin,fun k d hd=>?_⟩,hcur,I.item _ hin⟩
 ·rw[Bi,Ea]
  refine⟨I.once,by simp,fun a ha b hb e=>?_⟩
  obtain⟨y,hy,rfl⟩:=Az.mp ha
  rw[List.map_singleton,Aw] at hb
  exact noP y hy (by rw[e,hb];rfl)
 ·rcases Bl.mp hy with z | z
  ·obtain⟨h1,h2,h3⟩:=I.pr y z
   exact⟨h1,h2.trans hcur,h3⟩
  ·rw[Aw.mp z]
   exact⟨hr,Le.refl _,I.item _ hin⟩
 ·rcases Bl.mp hy with z | z
  ·exact I.fresh e (sub e he) y z ek
  ·have hy':=Aw.mp z
   subst hy'
   have h1:=hmin e he
   have hne:e.1≠c:=fun e1=>hnd.1 (Az.mpr ⟨e,he,by
    have ek':bM n cut=bM e.2.1 e.2.2:=ek
    show(e.1,bM e.2.1 e.2.2)=(c,bM n cut)
    rw[e1,ek']⟩)
   show cI c e.1=true
   cases hh:cI c e.1 with
   | true=>rfl
   | false=>exact absurd (Le.antisymm (xG.mpr (by rw[hh];decide)) h1) hne
 ·rcases I.hit k d hd with⟨e,h1,h2,h3⟩ | ⟨y,h1,h2⟩
  ·rcases(m1 e).mp h1 with z | z
   ·subst z
    exact .inr ⟨(n,cut,c),Ca _ (Aw.mpr rfl),h3,h2⟩
   ·exact .inl ⟨e,z,h2,h3⟩
  ·exact .inr ⟨y,Bv _ h1,h2⟩
theorem V8{G:Sr}{st:SS}{P:List bZ}{cur c d:aK}{n:Nat}{cut:List Int}{q':List (aK×List (Nat×List Int))}(I:eY G st P cur)(ht:gU st.q=some (c,(n,cut),q'))(hr:aH st.reached (bM n cut)=some d)(hd:cI d c=true):eY G {st with q:=q'} P c/\Le cur c:=by
 have hne:st.q≠[]:=fun e=>by rw[e] at ht;cases ht
 obtain⟨d1,x,q1,e1,f1,m1,l1,c1,_⟩:=mS I.fall hne
 rw[ht] at e1
 simp only[Eh,Dd] at e1
 obtain⟨rfl,rfl,rfl⟩:=e1
 have hp:=xJ I.fall ht
 have hin:(c,(n,cut))∈bC st.q:=(m1 _).mpr (.inl rfl)
 have sub:∀ e∈bC q',e∈bC st.q:=fun e he=>(m1 e).mpr (.inr he)
 have hcur:=I.curq _ hin
 have hnd:=I.nd
 rw[(hp.map qk).nodup_iff,Ay,Dg] at hnd
 refine⟨⟨f1,fun e he=>I.item e (sub e he),fun e he=>I.ge e (sub e he),hnd.2,I.once,fun y hy=>?_,fun e he y hy ek=>I.fresh e (sub e he) y hy ek,fun e he=>?_,fun k d2 hd2=>?_⟩,hcur⟩
 ·obtain⟨h1,h2,h3⟩:=I.pr y hy
  exact⟨h1,h2.trans hcur,h3⟩
 ·obtain⟨b,hb,eb⟩:=HA (sub e he)
  rw[<-eb];exact c1 b hb
 ·rcases I.hit k d2 hd2 with⟨e,h1,h2,h3⟩ | h
  ·rcases(m1 e).mp h1 with z | z
   ·subst z
    have h3:bM n cut=k:=h3
    have h2:c=d2:=h2
    have hd2':aH st.reached k=some d2:=hd2
    rw[<-h3,hr] at hd2'
    cases hd2'
    rw[<-h2] at hd
    exact absurd hd p7
   ·exact .inl ⟨e,z,h2,h3⟩
  ·exact .inr h
theorem Ob.later{G:Sr}{st:SS}{P:List bZ}{cur c:aK}(o:Ob G st P cur)(h:Le cur c)(q':List (aK×List (Nat×List Int))):Ob G {st with q:=q'} P c:=
 ⟨o.zero.trans h,o.fin,o.wrd,o.nam,o.pair,o.bgn,o.ends,fun f m n cut e=>let ⟨h1,h2,h3,h4⟩:=o.bst f m n cut e;⟨h1,h2,h3,h4.trans h⟩,o.ord⟩
theorem GI.rule{G:Sr}{B:bR}{n:Nat}{cut:List Int}{c:aK}(g:GI G B n cut c):∃ r,G.rs[n]? = some r:=by
 cases g with
 | start a _=>exact⟨_,a⟩
 | word _ a _ _ _=>exact⟨_,a⟩
 | name _ a _ _ _=>exact⟨_,a⟩
theorem part_of{G:Sr}{n:Nat}{cut:List Int}{r:aW}(h:G.rs[n]? = some r):dH G n cut=r.parts[cut.length - 1]?:=by unfold dH;rw[h]
theorem iQ{α:Type}{P:List α}{x y:α}(h:y∈P ++ [x]):y∈P\/y=x:=by
 rcases Bl.mp h with z | z
 ·exact .inl z
 ·exact .inr (Aw.mp z)
theorem V9{G:Sr}(ok:qA G){st:SS}{P:List bZ}{c:aK}{n:Nat}{cut:List Int}{part:Str}(I:eY G st (P ++ [(n,cut,c)]) c)(o:Ob G st P c)(g:GI G st.best n cut c)(hp:dH G n cut=some part)(ho:G.own part=false) :
  eY G (fI G st n cut c part) (P ++ [(n,cut,c)]) c/\Ob G (fI G st n cut c part) (P ++ [(n,cut,c)]) c/\∀ k d,eX st k d->eX (fI G st n cut c part) k d:=by
 obtain⟨r,hr⟩:=g.rule
 rw[part_of hr] at hp
 obtain⟨I1,g1,r1⟩:=qB (fun z:Int×Int=>(n,cut ++ [z.1],(c.1 + z.2,c.2))) (G.steps part (cut.getLastD 0)) I fun z hz=>⟨.word g hr hp ho hz,by
  have:=ok.pr _ _ _ _ hz
  show Le c (c.1 + z.2,c.2)
  unfold Le;simp only;lia⟩
 refine⟨I1,⟨o.zero,fun y hy hn=>?_,fun y hy pt h1 h2 z hz=>?_,fun y hy pt h1 h2=>?_,fun key y hy z hz=>?_,fun key y hy=>?_,fun nm b e m=>?_,fun f m n' cut' e=>?_,fun pre e post h=>?_⟩,g1.le⟩
 ·rcases iQ hy with z | z
  ·obtain⟨m,k,h1,h2⟩:=o.fin y z hn
   exact⟨m,k,by rw[show(fI G st n cut c part).best=st.best from g1.best];exact h1,h2⟩
  ·subst z
   rw[part_of hr,hp] at hn;cases hn
 ·rcases iQ hy with q | q
  ·exact g1.le _ _ (o.wrd y q pt h1 h2 z hz)
  ·subst q
   rw[part_of hr,hp] at h1
   cases h1
   exact r1 z hz
 ·rcases iQ hy with q | q
  ·rw[show(fI G st n cut c part).begun=st.begun from g1.begun]
   exact o.nam y q pt h1 h2
  ·subst q
   rw[part_of hr,hp] at h1
   cases h1
   rw[ho] at h2;cases h2
 ·rw[show(fI G st n cut c part).begun=st.begun from g1.begun] at hy
  rw[show(fI G st n cut c part).ends=st.ends from g1.ends] at hz
  exact g1.le _ _ (o.pair key y hy z hz)
 ·rw[show(fI G st n cut c part).begun=st.begun from g1.begun] at hy
  obtain⟨h1,h2⟩:=o.bgn key y hy
  exact⟨Bv _ h1,h2⟩
 ·rw[show(fI G st n cut c part).ends=st.ends from g1.ends,show(fI G st n cut c part).best=st.best from g1.best]
  exact o.ends nm b e m
 ·rw[show(fI G st n cut c part).best=st.best from g1.best] at e
  exact o.bst f m n' cut' e
 ·rw[show(fI G st n cut c part).best=st.best from g1.best] at h
  exact o.ord pre e post h
theorem WA{G:Sr}{st:SS}{P:List bZ}{c:aK}{n:Nat}{cut:List Int}{part:Str}(I:eY G st (P ++ [(n,cut,c)]) c)(o:Ob G st P c)(g:GI G st.best n cut c)(hp:dH G n cut=some part)(ho:G.own part=true) :
  eY G (fA st n cut c part) (P ++ [(n,cut,c)]) c/\Ob G (fA st n cut c part) (P ++ [(n,cut,c)]) c/\∀ k d,eX st k d->eX (fA st n cut c part) k d:=by
 obtain⟨r,hr⟩:=g.rule
 have hp0:=hp
 rw[part_of hr] at hp
 obtain⟨I1,g1,r1⟩:=qB (G:=G) (P:=P ++ [(n,cut,c)]) (cur:=c) (st:={st with begun:=eO st.begun (part,cut.getLastD 0) (n,cut,c)}) (fun z:Int×aK=>(n,cut ++ [z.1],dY c z.2)) ((aH st.ends (part,cut.getLastD 0)).getD []) ⟨I.fall,I.item,I.ge,I.nd,I.once,I.pr,I.fresh,I.curq,I.hit⟩ fun z hz=>by
  obtain⟨k,hk⟩:=(o.ends part (cut.getLastD 0) z.1 z.2).mp hz
  exact⟨.name g hr hp ho hk,V5 (o.bst _ _ _ _ hk).2.2.1⟩
 have hb:(fA st n cut c part).best=st.best:=g1.best
 have he:(fA st n cut c part).ends=st.ends:=g1.ends
 have hg:(fA st n cut c part).begun=eO st.begun (part,cut.getLastD 0) (n,cut,c):=g1.begun
 have hbeg:∀ key y,y∈(aH (fA st n cut c part).begun key).getD []↔y∈(aH st.begun key).getD []\/(part,cut.getLastD 0)=key/\y=(n,cut,c):=fun key y=>by
  rw[hg,p9]
  by_cases h:(part,cut.getLastD 0)=key
  ·rw[if_pos h,Bl,Aw]
   exact⟨fun z=>z.imp id fun q=>⟨h,q⟩,fun z=>z.imp id fun q=>q.2⟩
  ·rw[if_neg h]
   exact⟨.inl,fun z=>z.elim id fun q=>absurd q.1 h⟩
 refine⟨I1,⟨o.zero,fun y hy hn=>?_,fun y hy pt h1 h2 z hz=>?_,fun y hy pt h1 h2=>?_,fun key y hy z hz=>?_,fun key y hy=>?_,fun nm b e m=>?_,fun f m n' cut' e=>?_,fun pre e post h=>?_⟩,g1.le⟩
 ·rcases iQ hy with z | z
  ·rw[hb];exact o.fin y z hn
  ·subst z
   rw[hp0] at hn;cases hn
 ·rcases iQ hy with q | q
  ·exact g1.le _ _ (o.wrd y q pt h1 h2 z hz)
  ·subst q
   rw[hp0] at h1
   cases h1
   rw[ho] at h2;cases h2
 ·rw[hbeg]
  rcases iQ hy with q | q
  ·exact .inl (o.nam y q pt h1 h2)
  ·subst q
   rw[hp0] at h1
   cases h1
   exact .inr ⟨rfl,rfl⟩
 ·rw[he] at hz
  rcases(hbeg key y).mp hy with q | ⟨q1,q2⟩
  ·exact g1.le _ _ (o.pair key y q z hz)
  ·subst q2
   rw[<-q1] at hz
   exact r1 z hz
 ·rcases(hbeg key y).mp hy with q | ⟨q1,q2⟩
  ·obtain⟨h1,h2⟩:=o.bgn key y q
   exact⟨Bv _ h1,h2⟩
  ·subst q2
   rw[<-q1]
   exact⟨Ca _ (Aw.mpr rfl),hp0,ho,rfl,o.zero⟩
 ·rw[he,hb];exact o.ends nm b e m
 ·rw[hb] at e;exact o.bst f m n' cut' e
 ·rw[hb] at h;exact o.ord pre e post h
theorem WB{G:Sr}{st:SS}{P:List bZ}{c:aK}{n:Nat}{cut:List Int}(I:eY G st (P ++ [(n,cut,c)]) c)(o:Ob G st P c)(g:GI G st.best n cut c)(hp:dH G n cut=none) :
  eY G (settle G st n cut c) (P ++ [(n,cut,c)]) c/\Ob G (settle G st n cut c) (P ++ [(n,cut,c)]) c/\∀ k d,eX st k d->eX (settle G st n cut c) k d:=by
 unfold settle
 cases hf:aH st.best (cL G n cut) with
 | some v=>
  obtain⟨m,k⟩:=v
  obtain⟨_,_,_,hm⟩:=o.bst _ _ _ _ hf
  refine⟨I,⟨o.zero,fun y hy hn=>?_,fun y hy pt h1 h2 z hz=>?_,fun y hy pt h1 h2=>?_,o.pair,fun key y hy=>?_,o.ends,o.bst,o.ord⟩,fun _ _ h=>h⟩
  ·rcases iQ hy with z | z
   ·exact o.fin y z hn
   ·subst z;exact⟨m,k,hf,hm⟩
  ·rcases iQ hy with q | q
   ·exact o.wrd y q pt h1 h2 z hz
   ·subst q;rw[hp] at h1;cases h1
  ·rcases iQ hy with q | q
   ·exact o.nam y q pt h1 h2
   ·subst q;rw[hp] at h1;cases h1
  ·obtain⟨h1,h2⟩:=o.bgn key y hy
   exact⟨Bv _ h1,h2⟩
 | none=>
  simp only
  have new:∀ f,aH (st.best ++ [(cL G n cut,c,n,cut)]) f=if cL G n cut=f then some (c,n,cut) else aH st.best f:=fun f=>by
   rw[xH]
   by_cases h:cL G n cut=f
   ·subst h;rw[if_pos rfl,if_pos rfl,hf];rfl
   ·rw[if_neg h,if_neg h,Option.or_none]
  have mono:∀ f v,aH st.best f=some v->aH (st.best ++ [(cL G n cut,c,n,cut)]) f=some v:=fun f v h=>by
   rw[new,if_neg (fun e=>by rw[<-e,hf] at h;cases h)];exact h
  obtain⟨st1,hst1⟩:∃ z:SS,z = {st with best:=st.best ++ [(cL G n cut,c,n,cut)],ends:=eO st.ends (cG G n,cut.headD 0) (cut.getLastD 0,c)}:=⟨_,rfl⟩
  have b1:st1.best=st.best ++ [(cL G n cut,c,n,cut)]:=by rw[hst1]
  have e1:st1.ends=eO st.ends (cG G n,cut.headD 0) (cut.getLastD 0,c):=by rw[hst1]
  have n1:st1.begun=st.begun:=by rw[hst1]
  have r0:st1.reached=st.reached:=by rw[hst1]
  have q0:st1.q=st.q:=by rw[hst1]
  have I0:eY G st1 (P ++ [(n,cut,c)]) c:=by
   rw[hst1]
   exact⟨I.fall,fun e he=>(I.item e he).mono mono,I.ge,I.nd,I.once,fun y hy=>let ⟨h1,h2,h3⟩:=I.pr y hy;⟨h1,h2,h3.mono mono⟩,I.fresh,I.curq,I.hit⟩
  rw[<-hst1]
  obtain⟨I1,g1,r1⟩:=qB (fun y:bZ=>(y.1,y.2.1 ++ [cut.getLastD 0],dY y.2.2 c)) ((aH st.begun (cG G n,cut.headD 0)).getD []) I0 fun y hy=>by
   obtain⟨h1,h2,h3,h4,h5⟩:=o.bgn _ y hy
   obtain⟨_,_,gy⟩:=I.pr y (Bv _ h1)
   obtain⟨ry,hry⟩:=gy.rule
   rw[part_of hry] at h2
   refine⟨.name (k:=(n,cut)) (by rw[b1];exact gy.mono mono) hry h2 h3 ?_,V6 h5⟩
   rw[b1,new,if_pos (by show(cG G n,cut.headD 0,cut.getLastD 0)=(cG G n,y.2.1.getLastD 0,cut.getLastD 0);rw[h4])]
  obtain⟨st2,hst2⟩:∃ z,z=((aH st.begun (cG G n,cut.headD 0)).getD []).foldl (fun st y=>reach st y.1 (y.2.1 ++ [cut.getLastD 0]) (dY y.2.2 c)) st1:=⟨_,rfl⟩
  rw[<-hst2] at I1 g1 r1 ⊢
  have B:st2.best=st.best ++ [(cL G n cut,c,n,cut)]:=g1.best.trans b1
  have E:st2.ends=eO st.ends (cG G n,cut.headD 0) (cut.getLastD 0,c):=g1.ends.trans e1
  have N:st2.begun=st.begun:=g1.begun.trans n1
  have le:∀ k d,eX st k d->eX st2 k d:=fun k d h=>g1.le k d (by
   obtain⟨z,h1,h2⟩:=h
   exact⟨z,by rw[r0];exact h1,h2⟩)
  have hends:∀ key z,z∈(aH st2.ends key).getD []↔z∈(aH st.ends key).getD []\/(cG G n,cut.headD 0)=key/\z=(cut.getLastD 0,c):=fun key z=>by
   rw[E,p9]
   by_cases h:(cG G n,cut.headD 0)=key
   ·rw[if_pos h,Bl,Aw]
    exact⟨fun z=>z.imp id fun q=>⟨h,q⟩,fun z=>z.imp id fun q=>q.2⟩
   ·rw[if_neg h]
    exact⟨.inl,fun z=>z.elim id fun q=>absurd q.1 h⟩
  refine⟨I1,⟨o.zero,fun y hy hn=>?_,fun y hy pt h1 h2 z hz=>?_,fun y hy pt h1 h2=>?_,fun key y hy z hz=>?_,fun key y hy=>?_,fun nm b e m=>?_,fun f m n' cut' e=>?_,fun pre e post h=>?_⟩,le⟩
  ·rw[B]
   rcases iQ hy with z | z
   ·obtain⟨m,k,h1,h2⟩:=o.fin y z hn
    exact⟨m,k,mono _ _ h1,h2⟩
   ·subst z
    exact⟨c,(n,cut),by rw[new,if_pos rfl],Le.refl _⟩
  ·rcases iQ hy with q | q
   ·exact le _ _ (o.wrd y q pt h1 h2 z hz)
   ·subst q;rw[hp] at h1;cases h1
  ·rw[N]
   rcases iQ hy with q | q
   ·exact o.nam y q pt h1 h2
   ·subst q;rw[hp] at h1;cases h1
  ·rw[N] at hy
   rcases(hends key z).mp hz with q | ⟨q1,q2⟩
   ·exact le _ _ (o.pair key y hy z q)
   ·subst q2
    rw[<-q1] at hy
    exact r1 y hy
  ·rw[N] at hy
   obtain⟨h1,h2⟩:=o.bgn key y hy
   exact⟨Bv _ h1,h2⟩
  ·rw[hends,B,new,o.ends]
   by_cases h:cL G n cut=(nm,b,e)
   ·rw[if_pos h]
    unfold cL at h
    simp only[Dd] at h
    obtain⟨rfl,rfl,rfl⟩:=h
    constructor
    ·rintro(⟨k,hk⟩ | ⟨_,hk⟩)
     ·rw[show(cG G n,cut.headD 0,cut.getLastD 0)=cL G n cut from rfl,hf] at hk;cases hk
     ·cases hk;exact⟨(n,cut),rfl⟩
    ·rintro⟨k,hk⟩
     cases hk
     exact .inr ⟨rfl,rfl⟩
   ·rw[if_neg h]
    constructor
    ·rintro(hk | ⟨h1,h2⟩)
     ·exact hk
     ·cases h1;cases h2;exact absurd rfl h
    ·exact .inl
  ·rw[B,new] at e
   by_cases h:cL G n cut=f
   ·rw[if_pos h] at e
    cases e
    exact⟨hp,h.symm,o.zero,Le.refl _⟩
   ·rw[if_neg h] at e
    exact o.bst f m n' cut' e
  ·rw[B] at h
   rcases Fi post with z | ⟨ps,p,z⟩
   ·subst z
    have h':=Lr h rfl
    have h2:=h'.2
    simp only[Dw,and_true] at h2
    rw[<-h'.1,<-h2]
    exact⟨g,hf⟩
   ·rw[Fj] at z
    subst z
    rw[show pre ++ e :: (ps ++ [p])=(pre ++ e :: ps) ++ [p] by simp] at h
    have h':=Lr h rfl
    exact o.ord pre e ps h'.1
theorem WC{G:Sr}(ok:qA G){st:SS}{P:List bZ}{c:aK}{n:Nat}{cut:List Int}(I:eY G st (P ++ [(n,cut,c)]) c)(o:Ob G st P c)(g:GI G st.best n cut c) :
  eY G (process G st n cut c) (P ++ [(n,cut,c)]) c/\Ob G (process G st n cut c) (P ++ [(n,cut,c)]) c/\∀ k d,eX st k d->eX (process G st n cut c) k d:=by
 unfold process
 cases hp:dH G n cut with
 | none=>exact WB I o g hp
 | some part=>
  simp only
  cases ho:G.own part with
  | true=>rw[if_pos rfl];exact WA I o g hp ho
  | false=>rw[if_neg (by decide)];exact V9 ok I o g hp ho
inductive DI(G:Sr):Nat->List Int->aK->Prop
 | start {n:Nat} {r:aW} {p:Int}:G.rs[n]? = some r->p∈G.places->DI G n [p] (G.wt n,1)
 | word {n:Nat} {r:aW} {cut:List Int} {c:aK} {part:Str} {e pr:Int}:DI G n cut c->G.rs[n]? = some r->r.parts[cut.length - 1]? = some part->G.own part=false->(e,pr)∈G.steps part (cut.getLastD 0)->DI G n (cut ++ [e]) (c.1 + pr,c.2)
 | name {n n':Nat} {r:aW} {cut cut':List Int} {c m:aK} {part:Str}:DI G n cut c->G.rs[n]? = some r->r.parts[cut.length - 1]? = some part->G.own part=true->DI G n' cut' m->dH G n' cut'=none->cG G n'=part->cut'.headD 0=cut.getLastD 0->DI G n (cut ++ [cut'.getLastD 0]) (dY c m)
theorem DI.ne{G:Sr}{n:Nat}{cut:List Int}{c:aK}(h:DI G n cut c):cut≠[]:=by cases h <;> simp
theorem HC{n:Nat}{a b:List Int}{e:Int}(h:bM n a=bM n b)(ha:a≠[])(hb:b≠[]):bM n (a ++ [e])=bM n (b ++ [e]):=by
 unfold bM at *
 simp only[Dd,true_and] at h
 obtain⟨h1,h2,h3⟩:=h
 have hl:∀ l:List Int,(l ++ [e]).getLastD 0=e:=fun l=>by simp[Gn]
 rw[hl,hl,Ao,Ao,h1]
 cases a with
 | nil=>exact absurd rfl ha
 | cons x a=>
  cases b with
  | nil=>exact absurd rfl hb
  | cons y b=>
   simp only[List.headD_cons] at h2
   subst h2
   rfl
theorem tB{G:Sr}{n n':Nat}{a b:List Int}(h:bM n a=bM n' b):n=n'/\dH G n a=dH G n' b/\cL G n a=cL G n' b/\a.getLastD 0=b.getLastD 0:=by
 unfold bM at h
 simp only[Dd] at h
 obtain⟨rfl,h1,h2,h3⟩:=h
 refine⟨rfl,?_,?_,h3⟩
 ·unfold dH;rw[h1]
 ·unfold cL;rw[h2,h3]
def xK(G:Sr)(st:SS):Prop:=∀ n r p,G.rs[n]? = some r->p∈G.places->eX st (bM n [p]) (G.wt n,1)
theorem WD{G:Sr}{st:SS}{P:List bZ}{cur:aK}(I:eY G st P cur)(o:Ob G st P cur)(hi:xK G st)(hq:st.q=[]){n:Nat}{cut:List Int}{c:aK}(h:DI G n cut c):eX st (bM n cut) c:=by
 have done:∀ {n:Nat} {cut:List Int} {c:aK},eX st (bM n cut) c->∃ y∈P,kT y=bM n cut/\Le y.2.2 c:=fun {n cut c} h=>by
  obtain⟨d,h1,h2⟩:=h
  rcases I.hit _ _ h1 with⟨e,he,_⟩ | ⟨y,hy,e1,e2⟩
  ·rw[hq] at he;cases he
  ·exact⟨y,hy,e1,by rw[e2];exact h2⟩
 induction h with
 | start a b=>exact hi _ _ _ a b
 | @word n r cut c part e pr hd hr hp ho hs ih=>
  obtain⟨y,hy,ek,hle⟩:=done ih
  obtain⟨hn,hpt,_,hlast⟩:=tB (G:=G) ek
  have hyn:=(I.pr y hy).2.2.ne
  have:=o.wrd y hy part (by rw[hpt,part_of hr];exact hp) ho (e,pr) (by rw[hlast];exact hs)
  obtain⟨d,h1,h2⟩:=this
  refine⟨d,?_,h2.trans ?_⟩
  ·have ek':bM n y.2.1=bM n cut:=by rw[<-ek];unfold kT;rw[hn]
   rw[<-HC ek' hyn hd.ne,<-hn];exact h1
  ·unfold Le at hle ⊢;simp only at *;lia
 | @name n n' r cut cut' c m part hd hr hp ho hd' hfin hnm hhd ih ih'=>
  obtain⟨y,hy,ek,hle⟩:=done ih
  obtain⟨hn,hpt,_,hlast⟩:=tB (G:=G) ek
  obtain⟨y',hy',ek',hle'⟩:=done ih'
  obtain⟨hn',hpt',hfact,_⟩:=tB (G:=G) ek'
  obtain⟨m0,k0,hb,hm0⟩:=o.fin y' hy' (by rw[hpt'];exact hfin)
  rw[hfact] at hb
  have hb':aH st.best (part,cut.getLastD 0,cut'.getLastD 0)=some (m0,k0):=by
   have:cL G n' cut'=(part,cut.getLastD 0,cut'.getLastD 0):=by unfold cL;rw[hnm,hhd]
   rw[<-this];exact hb
  have hz:=(o.ends part (cut.getLastD 0) (cut'.getLastD 0) m0).mpr ⟨k0,hb'⟩
  have hyb:=o.nam y hy part (by rw[hpt,part_of hr];exact hp) ho
  rw[hlast] at hyb
  have hyn:=(I.pr y hy).2.2.ne
  obtain⟨d,h1,h2⟩:=o.pair _ y hyb _ hz
  refine⟨d,?_,h2.trans (V2 hle (hm0.trans hle'))⟩
  have ek2:bM n y.2.1=bM n cut:=by rw[<-ek];unfold kT;rw[hn]
  rw[<-HC ek2 hyn hd.ne,<-hn];exact h1
theorem WE{G:Sr}{st:SS}{P:List bZ}{cur:aK}(I:eY G st P cur)(o:Ob G st P cur)(hi:xK G st)(hq:st.q=[]){n:Nat}{cut:List Int}{c:aK}(h:DI G n cut c)(hf:dH G n cut=none):∃ m k,aH st.best (cL G n cut)=some (m,k)/\Le m c:=by
 obtain⟨d,h1,h2⟩:=WD I o hi hq h
 rcases I.hit _ _ h1 with⟨e,he,_⟩ | ⟨y,hy,e1,e2⟩
 ·rw[hq] at he;cases he
 ·obtain⟨_,hpt,hfact,_⟩:=tB (G:=G) e1
  obtain⟨m,k,hb,hm⟩:=o.fin y hy (by rw[hpt];exact hf)
  rw[hfact] at hb
  exact⟨m,k,hb,hm.trans (by rw[e2];exact h2)⟩
theorem xM{G:Sr}{B:bR}(h:∀ f m n cut,aH B f=some (m,n,cut)->DI G n cut m/\dH G n cut=none/\f=cL G n cut){n:Nat}{cut:List Int}{c:aK}(g:GI G B n cut c):DI G n cut c:=by
 induction g with
 | start a b=>exact .start a b
 | word _ a b c d ih=>exact .word ih a b c d
 | name hgi hr hp ho hb ih=>
  rename_i k
  obtain⟨n',cut'⟩:=k
  obtain⟨h1,h2,h3⟩:=h _ _ _ _ hb
  unfold cL at h3
  simp only[Dd] at h3
  obtain⟨e1,e2,e3⟩:=h3
  rw[e3]
  exact .name ih hr hp ho h1 h2 e1.symm e2.symm
theorem qC{κ β:Type}[DecidableEq κ]{t:List (κ×β)}{k:κ}{v:β}(h:aH t k=some v):∃ a b,t=a ++ (k,v) :: b:=by
 induction t with
 | nil=>cases h
 | cons e t ih=>
  rw[dG] at h
  by_cases hk:e.1=k
  ·rw[if_pos hk] at h
   cases h
   exact⟨[],t,by rw[<-hk];rfl⟩
  ·rw[if_neg hk] at h
   obtain⟨a,b,rfl⟩:=ih h
   exact⟨e :: a,b,rfl⟩
theorem HD{G:Sr}{st:SS}{P:List bZ}{cur:aK}(o:Ob G st P cur):∀ (k:Nat) (pre:bR) (e:aY×aK×Nat×List Int) (post:bR),pre.length=k->st.best=pre ++ e :: post->DI G e.2.2.1 e.2.2.2 e.2.1:=by
 intro k
 induction k using Nat.strongRecOn with
 | _ k ih=>
  intro pre e post hk hb
  obtain⟨g,_⟩:=o.ord pre e post hb
  refine xM (B:=pre) (fun f m n cut hf=>?_) g
  obtain⟨a,b,hab⟩:=qC hf
  have hb2:st.best=a ++ (f,m,n,cut) :: (b ++ e :: post):=by rw[hb,hab];simp
  have hlen:a.length < k:=by rw[<-hk,hab];simp
  have hd:=ih a.length hlen a _ _ rfl hb2
  have hnone:=(o.ord a _ _ hb2).2
  have hf2:aH st.best f=some (m,n,cut):=by
   rw[hb2]
   have:∀ {a:bR} {x:aY×aK×Nat×List Int} {r:bR},aH a x.1=none->aH (a ++ x :: r) x.1=some x.2:=by
    intro a
    induction a with
    | nil=>intro x r _;rw[Kk,dG,if_pos rfl]
    | cons y a ih2=>
     intro x r h
     rw[dG] at h
     rw[List.cons_append,dG]
     by_cases hy:y.1=x.1
     ·rw[if_pos hy] at h;cases h
     ·rw[if_neg hy] at h ⊢
      exact ih2 h
   exact this (x:=(f,m,n,cut)) hnone
  obtain⟨h1,h2,_⟩:=o.bst f m n cut hf2
  exact⟨hd,h1,h2⟩
theorem tD{G:Sr}{st:SS}{P:List bZ}{cur:aK}(o:Ob G st P cur){f:aY}{m:aK}{n:Nat}{cut:List Int}(h:aH st.best f=some (m,n,cut)):DI G n cut m/\dH G n cut=none/\f=cL G n cut:=by
 obtain⟨a,b,hab⟩:=qC h
 obtain⟨h1,h2,_⟩:=o.bst f m n cut h
 exact⟨HD o a.length a _ b rfl hab,h1,h2⟩
theorem HE(st:SS)(n:Nat)(cut:List Int)(c:aK):∃ j,j<=1/\(bC (reach st n cut c).q).length=(bC st.q).length + j/\(reach st n cut c).reached.length<=st.reached.length + j:=by
 have push:∃ j,j<=1/\(bC (dQ c (n,cut) st.q)).length=(bC st.q).length + j/\(c8 st.reached (bM n cut) c).length<=st.reached.length + j:=⟨1,Aj _,sZ _ _ _,sY _ _ _⟩
 unfold reach
 cases aH st.reached (bM n cut) with
 | none=>exact push
 | some d=>
  simp only
  split
  ·exact push
  ·exact⟨0,by lia,rfl,by lia⟩
theorem qD{α:Type}(f:α->Nat×List Int×aK):∀ (xs:List α) (st:SS),∃ j,j<=xs.length/\(bC (xs.foldl (fun st x=>reach st (f x).1 (f x).2.1 (f x).2.2) st).q).length=(bC st.q).length + j/\(xs.foldl (fun st x=>reach st (f x).1 (f x).2.1 (f x).2.2) st).reached.length<=st.reached.length + j
 | [],st=>⟨0,Aj _,rfl,Aj _⟩
 | x :: xs,st=>by
  obtain⟨j1,h1,h2,h3⟩:=HE st (f x).1 (f x).2.1 (f x).2.2
  obtain⟨j2,g1,g2,g3⟩:=qD f xs (reach st (f x).1 (f x).2.1 (f x).2.2)
  refine⟨j1 + j2,by rw[Bn];lia,?_,?_⟩
  ·rw[Fd,g2,h2];lia
  ·rw[Fd];lia
def fY(G:Sr)(S:Nat)(st:SS)(y:bZ):Nat:=match dH G y.1 y.2.1 with
 | none=>0
 | some part=>if G.own part=true then((aH st.ends (part,y.2.1.getLastD 0)).getD []).length else S
structure Cn(G:Sr)(S I0:Nat)(st:SS)(P:List bZ)(T:Nat):Prop where
 put:(bC st.q).length + T<=I0 + (P.map (fY G S st)).sum
 rch:st.reached.length<=(bC st.q).length + T
 bnd:∀ key,((aH st.begun key).getD []).Nodup
 enn:∀ key,(((aH st.ends key).getD []).map Fh).Nodup
theorem tE(f:bZ->Nat)(P:List bZ)(x:bZ):((P ++ [x]).map f).sum=(P.map f).sum + f x:=by simp
theorem xN{G:Sr}{S:Nat}{st st':SS}(h:st'.ends=st.ends):fY G S st'=fY G S st:=by
 funext y;unfold fY;rw[h]
theorem WG{G:Sr}{S I0 T:Nat}{st:SS}{P:List bZ}{c:aK}{n:Nat}{cut:List Int}{part:Str}(C:Cn G S I0 st P T)(hS:∀ t p,(G.steps t p).length<=S)(hp:dH G n cut=some part)(ho:G.own part=false):Cn G S I0 (fI G st n cut c part) (P ++ [(n,cut,c)]) T:=by
 obtain⟨j,h1,h2,h3⟩:=qD (fun z:Int×Int=>(n,cut ++ [z.1],(c.1 + z.2,c.2))) (G.steps part (cut.getLastD 0)) st
 have keep:∀ (xs:List (Int×Int)) (st:SS),(xs.foldl (fun st z=>reach st n (cut ++ [z.1]) (c.1 + z.2,c.2)) st).ends=st.ends/\(xs.foldl (fun st z=>reach st n (cut ++ [z.1]) (c.1 + z.2,c.2)) st).begun=st.begun:=by
  intro xs
  induction xs with
  | nil=>intro st;exact⟨rfl,rfl⟩
  | cons x xs ih=>
   intro st
   rw[Fd]
   obtain⟨e1,e2⟩:=ih (reach st n (cut ++ [x.1]) (c.1 + x.2,c.2))
   have hr:(reach st n (cut ++ [x.1]) (c.1 + x.2,c.2)).ends=st.ends/\(reach st n (cut ++ [x.1]) (c.1 + x.2,c.2)).begun=st.begun:=by
    unfold reach
    split
    ·split <;> exact⟨rfl,rfl⟩
    ·exact⟨rfl,rfl⟩
   exact⟨e1.trans hr.1,e2.trans hr.2⟩
 obtain⟨k1,k2⟩:=keep (G.steps part (cut.getLastD 0)) st
 have k1':(fI G st n cut c part).ends=st.ends:=k1
 have k2':(fI G st n cut c part).begun=st.begun:=k2
 have h2':(bC (fI G st n cut c part).q).length=(bC st.q).length + j:=h2
 have h3':(fI G st n cut c part).reached.length<=st.reached.length + j:=h3
 have hs:=hS part (cut.getLastD 0)
 have hput:=C.put
 have hrch:=C.rch
 refine⟨?_,by lia,fun key=>by rw[k2'];exact C.bnd key,fun key=>by rw[k1'];exact C.enn key⟩
 rw[xN k1',tE,h2']
 have:fY G S st (n,cut,c)=S:=by
  unfold fY
  rw[hp]
  simp only
  rw[if_neg (by rw[ho];decide)]
 lia
theorem WH(st:SS)(n:Nat)(cut:List Int)(c:aK):(reach st n cut c).ends=st.ends/\(reach st n cut c).begun=st.begun/\(reach st n cut c).best=st.best:=by
 unfold reach
 split
 ·split <;> exact⟨rfl,rfl,rfl⟩
 ·exact⟨rfl,rfl,rfl⟩
theorem xO{α:Type}(f:α->Nat×List Int×aK):∀ (xs:List α) (st:SS),(xs.foldl (fun st x=>reach st (f x).1 (f x).2.1 (f x).2.2) st).ends=st.ends/\(xs.foldl (fun st x=>reach st (f x).1 (f x).2.1 (f x).2.2) st).begun=st.begun/\(xs.foldl (fun st x=>reach st (f x).1 (f x).2.1 (f x).2.2) st).best=st.best
 | [],st=>⟨rfl,rfl,rfl⟩
 | x :: xs,st=>by
  rw[Fd]
  obtain⟨h1,h2,h3⟩:=xO f xs (reach st (f x).1 (f x).2.1 (f x).2.2)
  obtain⟨g1,g2,g3⟩:=WH st (f x).1 (f x).2.1 (f x).2.2
  exact⟨h1.trans g1,h2.trans g2,h3.trans g3⟩
theorem WI{G:Sr}{S I0 T:Nat}{st:SS}{P:List bZ}{cur c:aK}{n:Nat}{cut:List Int}{part:Str}(C:Cn G S I0 st P T)(o:Ob G st P cur)(hnew:(n,cut,c)∉P)(hp:dH G n cut=some part)(ho:G.own part=true):Cn G S I0 (fA st n cut c part) (P ++ [(n,cut,c)]) T:=by
 obtain⟨st1,hst1⟩:∃ z:SS,z = {st with begun:=eO st.begun (part,cut.getLastD 0) (n,cut,c)}:=⟨_,rfl⟩
 obtain⟨j,h1,h2,h3⟩:=qD (fun z:Int×aK=>(n,cut ++ [z.1],dY c z.2)) ((aH st.ends (part,cut.getLastD 0)).getD []) st1
 obtain⟨k1,k2,_⟩:=xO (fun z:Int×aK=>(n,cut ++ [z.1],dY c z.2)) ((aH st.ends (part,cut.getLastD 0)).getD []) st1
 have k1':(fA st n cut c part).ends=st.ends:=by
  have:(fA st n cut c part).ends=st1.ends:=by rw[hst1] at k1 ⊢;exact k1
  rw[this,hst1]
 have k2':(fA st n cut c part).begun=eO st.begun (part,cut.getLastD 0) (n,cut,c):=by
  have:(fA st n cut c part).begun=st1.begun:=by rw[hst1] at k2 ⊢;exact k2
  rw[this,hst1]
 have h2':(bC (fA st n cut c part).q).length=(bC st.q).length + j:=by rw[hst1] at h2;exact h2
 have h3':(fA st n cut c part).reached.length<=st.reached.length + j:=by rw[hst1] at h3;exact h3
 have hput:=C.put
 have hrch:=C.rch
 refine⟨?_,by lia,fun key=>?_,fun key=>by rw[k1'];exact C.enn key⟩
 ·rw[xN k1',tE,h2']
  have:fY G S st (n,cut,c)=((aH st.ends (part,cut.getLastD 0)).getD []).length:=by
   unfold fY
   rw[hp]
   simp only
   rw[if_pos ho]
  lia
 ·rw[k2',p9]
  split
  ·rename_i h
   rw[Ea]
   refine⟨C.bnd key,by simp,fun a ha b hb e=>?_⟩
   rw[Aw] at hb
   rw[e,hb] at ha
   exact hnew (o.bgn key _ ha).1
  ·exact C.bnd key
theorem len_sub{α:Type}[DecidableEq α]:∀ {a b:List α},a.Nodup->(∀ x∈a,x∈b)->a.length<=b.length
 | [],b,_,_=>Ci _
 | x :: a,b,hn,hs=>by
  rw[Dg] at hn
  have hx:=hs x Bf
  have ih:=len_sub (a:=a) (b:=b.erase x) hn.2 fun y hy=>by
   have hne:y≠x:=fun e=>hn.1 (by rw[<-e];exact hy)
   exact(List.mem_erase_of_ne hne).mpr (hs y (Bd _ hy))
  rw[List.length_erase_of_mem hx] at ih
  have:=Ly hx
  rw[Bn];lia
theorem HF{f g:bZ->Nat}{p:bZ->Bool}:∀ {P:List bZ},(∀ y∈P,g y=f y + if p y=true then 1 else 0)->(P.map g).sum=(P.map f).sum + (P.filter p).length
 | [],_=>rfl
 | y :: P,h=>by
  have ih:=HF (P:=P) fun z hz=>h z (Bd _ hz)
  rw[Ay,Ay,List.sum_cons,List.sum_cons,ih,h y Bf,Dk]
  split <;> simp <;> lia
theorem WJ{G:Sr}{S I0 T:Nat}{st:SS}{P:List bZ}{cur c:aK}{n:Nat}{cut:List Int}(C:Cn G S I0 st P T)(o:Ob G st P cur)(hp:dH G n cut=none):Cn G S I0 (settle G st n cut c) (P ++ [(n,cut,c)]) T:=by
 have hdeg0:∀ st',fY G S st' (n,cut,c)=0:=fun st'=>by unfold fY;rw[hp]
 have hput:=C.put
 have hrch:=C.rch
 unfold settle
 cases hf:aH st.best (cL G n cut) with
 | some v=>
  simp only
  refine⟨?_,C.rch,C.bnd,C.enn⟩
  rw[tE,hdeg0];lia
 | none=>
  simp only
  obtain⟨st1,hst1⟩:∃ z:SS,z = {st with best:=st.best ++ [(cL G n cut,c,n,cut)],ends:=eO st.ends (cG G n,cut.headD 0) (cut.getLastD 0,c)}:=⟨_,rfl⟩
  rw[<-hst1]
  obtain⟨j,h1,h2,h3⟩:=qD (fun y:bZ=>(y.1,y.2.1 ++ [cut.getLastD 0],dY y.2.2 c)) ((aH st.begun (cG G n,cut.headD 0)).getD []) st1
  obtain⟨k1,k2,_⟩:=xO (fun y:bZ=>(y.1,y.2.1 ++ [cut.getLastD 0],dY y.2.2 c)) ((aH st.begun (cG G n,cut.headD 0)).getD []) st1
  obtain⟨st2,hst2⟩:∃ z,z=((aH st.begun (cG G n,cut.headD 0)).getD []).foldl (fun st y=>reach st y.1 (y.2.1 ++ [cut.getLastD 0]) (dY y.2.2 c)) st1:=⟨_,rfl⟩
  rw[<-hst2] at h2 h3 k1 k2 ⊢
  have E:st2.ends=eO st.ends (cG G n,cut.headD 0) (cut.getLastD 0,c):=by rw[k1,hst1]
  have N:st2.begun=st.begun:=by rw[k2,hst1]
  have q1:(bC st1.q).length=(bC st.q).length:=by rw[hst1]
  have r1:st1.reached.length=st.reached.length:=by rw[hst1]
  obtain⟨pk,hpk⟩:∃ pk:bZ->Bool,pk=fun y=>decide (dH G y.1 y.2.1=some (cG G n)/\G.own (cG G n)=true/\y.2.1.getLastD 0=cut.headD 0):=⟨_,rfl⟩
  have hsum:(P.map (fY G S st2)).sum=(P.map (fY G S st)).sum + (P.filter pk).length:=HF fun y hy=>by
   unfold fY
   cases hpt:dH G y.1 y.2.1 with
   | none=>rw[hpk];simp[hpt]
   | some part=>
    simp only
    cases ho:G.own part with
    | false=>
     rw[hpk]
     simp only[hpt,Eh]
     rw[if_neg (by decide),if_neg (by decide),if_neg (by rw[decide_eq_true_eq];rintro⟨h1,h2,_⟩;rw[<-h1,ho] at h2;cases h2)]
     rfl
    | true=>
     rw[if_pos rfl,if_pos rfl,E,p9]
     by_cases h:(cG G n,cut.headD 0)=(part,y.2.1.getLastD 0)
     ·rw[if_pos h]
      simp only[Dd] at h
      rw[hpk]
      simp only[hpt,Eh]
      rw[if_pos (by rw[decide_eq_true_eq];exact⟨h.1.symm,by rw[h.1];exact ho,h.2.symm⟩)]
      simp
     ·rw[if_neg h]
      rw[hpk]
      simp only[hpt,Eh]
      rw[if_neg (by rw[decide_eq_true_eq];rintro⟨h1,_,h3⟩;exact h (by rw[h1,h3]))]
      lia
  have hbl:((aH st.begun (cG G n,cut.headD 0)).getD []).length<=(P.filter pk).length:=len_sub (C.bnd _) fun y hy=>by
   obtain⟨g1,g2,g3,g4,_⟩:=o.bgn _ y hy
   rw[Cv,hpk]
   exact⟨g1,decide_eq_true ⟨g2,g3,g4⟩⟩
  refine⟨?_,by lia,fun key=>by rw[N];exact C.bnd key,fun key=>?_⟩
  ·rw[tE,hdeg0,hsum];lia
  ·rw[E,p9]
   split
   ·rename_i h
    rw[Bi,Ea]
    refine⟨C.enn key,by simp,fun a ha b hb e=>?_⟩
    obtain⟨z,hz,rfl⟩:=Az.mp ha
    rw[List.map_singleton,Aw] at hb
    rw[<-h] at hz
    obtain⟨k,hk⟩:=(o.ends _ _ z.1 z.2).mp hz
    rw[e,hb] at hk
    have:aH st.best (cL G n cut)=some (z.2,k):=hk
    rw[hf] at this;cases this
   ·exact C.enn key
def jC(G:Sr)(st:SS):SS:=match gU st.q with
 | none=>st
 | some (c,(n,cut),q')=>match aH st.reached (bM n cut) with
  | some d=>if cI d c=true then {st with q:=q'} else process G {st with q:=q'} n cut c
  | none=>{st with q:=q'}
structure All(G:Sr)(S I0:Nat)(st:SS)(P:List bZ)(cur:aK)(T:Nat):Prop where
 inv:eY G st P cur
 ob:Ob G st P cur
 ini:xK G st
 cn:Cn G S I0 st P T
theorem Cn.q{G:Sr}{S I0 T:Nat}{st:SS}{P:List bZ}{q':List (aK×List (Nat×List Int))}(C:Cn G S I0 st P T)(h:(bC st.q).length=(bC q').length + 1):Cn G S I0 {st with q:=q'} P (T + 1):=by
 have h1:=C.put
 have h2:=C.rch
 refine⟨?_,?_,C.bnd,C.enn⟩
 ·show(bC q').length + (T + 1)<=_
  rw[xN (st':={st with q:=q'}) (st:=st) rfl]
  lia
 ·show st.reached.length<=(bC q').length + (T + 1)
  lia
theorem WK{G:Sr}{S I0 T:Nat}{st:SS}{P:List bZ}{cur c:aK}{n:Nat}{cut:List Int}(C:Cn G S I0 st P T)(o:Ob G st P cur)(hS:∀ t p,(G.steps t p).length<=S)(hnew:(n,cut,c)∉P):Cn G S I0 (process G st n cut c) (P ++ [(n,cut,c)]) T:=by
 unfold process
 cases hp:dH G n cut with
 | none=>exact WJ C o hp
 | some part=>
  simp only
  cases ho:G.own part with
  | true=>rw[if_pos rfl];exact WI C o hnew hp ho
  | false=>rw[if_neg (by decide)];exact WG C hS hp ho
theorem WL{G:Sr}(ok:qA G){S I0 T:Nat}{st:SS}{P:List bZ}{cur:aK}(A:All G S I0 st P cur T)(hS:∀ t p,(G.steps t p).length<=S)(hq:st.q≠[]):∃ P' cur',All G S I0 (jC G st) P' cur' (T + 1):=by
 obtain⟨c,x,q',e1,f1,m1,l1,c1,_⟩:=mS A.inv.fall hq
 obtain⟨n,cut⟩:=x
 have hin:(c,(n,cut))∈bC st.q:=(m1 _).mpr (.inl rfl)
 obtain⟨d,hd,hle⟩:=A.inv.ge _ hin
 unfold jC
 rw[e1]
 simp only
 rw[hd]
 simp only
 by_cases hl:cI d c=true
 ·rw[if_pos hl]
  obtain⟨I1,hc⟩:=V8 A.inv e1 hd hl
  exact⟨P,c,I1,A.ob.later hc q',A.ini,A.cn.q l1⟩
 ·rw[if_neg hl]
  have hdc:d=c:=Le.antisymm hle (xG.mpr hl)
  subst hdc
  obtain⟨I1,hc,g⟩:=V7 A.inv e1 hd
  have o1:=A.ob.later hc q'
  obtain⟨I2,o2,le2⟩:=WC ok I1 o1 g
  refine⟨_,_,I2,o2,fun n r p h1 h2=>le2 _ _ (A.ini n r p h1 h2),WK (A.cn.q l1) o1 hS fun hm=>?_⟩
  have hn:=I1.once
  rw[Bi,Ea] at hn
  exact hn.2.2 _ (Az.mpr ⟨_,hm,rfl⟩) _ (by simp) rfl
def fZ:SS:=⟨[],[],[],[],[]⟩
def jD(G:Sr):List (Nat×Int):=(Bu G.rs.length).flatMap fun n=>G.places.map fun p=>(n,p)
def j4(G:Sr):SS:=(jD G).foldl (fun st x=>reach st x.1 [x.2] (G.wt x.1,1)) fZ
theorem WM{G:Sr}(ok:qA G)(S:Nat):All G S (jD G).length (j4 G) [] (0,0) 0:=by
 have I0:eY G fZ [] (0,0):=⟨trivial,(fun e he=>nomatch he),(fun e he=>nomatch he),Fq,Fq,(fun y hy=>nomatch hy),(fun e he=>nomatch he),(fun e he=>nomatch he),(fun k d hd=>nomatch hd)⟩
 have hmem:∀ x∈jD G,(∃ r,G.rs[x.1]? = some r)/\x.2∈G.places:=fun x hx=>by
  obtain⟨n,hn,hx⟩:=Hc.mp hx
  obtain⟨p,hp,rfl⟩:=Az.mp hx
  exact⟨⟨_,Ak (Dy.mp hn)⟩,hp⟩
 obtain⟨I1,g1,r1⟩:=qB (fun x:Nat×Int=>(x.1,[x.2],(G.wt x.1,(1:Int)))) (jD G) I0 fun x hx=>by
  obtain⟨⟨r,hr⟩,hp⟩:=hmem x hx
  refine⟨.start hr hp,?_⟩
  have:=ok.wt x.1
  show Le (0,0) (G.wt x.1,1)
  unfold Le;simp only;lia
 obtain⟨j,h1,h2,h3⟩:=qD (fun x:Nat×Int=>(x.1,[x.2],(G.wt x.1,(1:Int)))) (jD G) fZ
 have b0:(j4 G).best=[]:=g1.best
 have e0:(j4 G).ends=[]:=g1.ends
 have n0:(j4 G).begun=[]:=g1.begun
 refine⟨I1,⟨Le.refl _,(fun y hy=>nomatch hy),(fun y hy=>nomatch hy),(fun y hy=>nomatch hy),fun key y hy=>?_,fun key y hy=>?_,fun nm b e m=>?_,fun f m n cut e=>?_,fun pre e post h=>?_⟩,fun n r p hr hp=>?_,⟨?_,?_,fun key=>?_,fun key=>?_⟩⟩
 ·rw[n0] at hy;cases hy
 ·rw[n0] at hy;cases hy
 ·rw[e0,b0]
  exact⟨(fun z=>nomatch z),(fun⟨k,hk⟩=>nomatch hk)⟩
 ·rw[b0] at e;cases e
 ·rw[b0] at h
  cases pre <;> cases h
 ·exact r1 (n,p) (Hc.mpr ⟨n,Dy.mpr (Ai.mp hr).1,Az.mpr ⟨p,hp,rfl⟩⟩)
 ·have h2:(bC (j4 G).q).length=(bC fZ.q).length + j:=h2
  have:(bC fZ.q).length=0:=rfl
  simp only[Jo,List.sum_nil]
  lia
 ·have h2:(bC (j4 G).q).length=(bC fZ.q).length + j:=h2
  have h3:(j4 G).reached.length<=fZ.reached.length + j:=h3
  have e1:(bC fZ.q).length=0:=rfl
  have e2:fZ.reached.length=0:=rfl
  lia
 ·rw[n0];exact Fq
 ·rw[e0];exact Fq
structure tF(G:Sr)(V:List Int)(N L:Nat):Prop where
 pl:∀ p∈G.places,p∈V
 st:∀ t p e c,p∈V->(e,c)∈G.steps t p->e∈V
 few:G.rs.length<=N
 len:∀ r∈G.rs,r.parts.length + 1<=L
theorem tG{l:List Int}(h:l≠[]):l.getLastD 0∈l:=by
 rcases Fi l with z | ⟨a,b,z⟩
 ·exact absurd z h
 ·rw[z,Fj];simp[Gn]
theorem WN{l:List Int}(h:l≠[]):l.headD 0∈l:=by
 cases l with
 | nil=>exact absurd rfl h
 | cons a b=>simp
theorem tH{G:Sr}{V:List Int}{N L:Nat}(v:tF G V N L){n:Nat}{cut:List Int}{c:aK}(h:DI G n cut c):(∀ x∈cut,x∈V)/\n < N/\cut.length<=L:=by
 induction h with
 | @start n r p hr hp=>
  have hn:=(Ai.mp hr).1
  have:=v.len r (An hr)
  have:=v.few
  exact⟨fun x hx=>by rw[Aw.mp hx];exact v.pl p hp,by lia,by simp;lia⟩
 | @word n r cut c part e pr hd hr hp ho hs ih=>
  obtain⟨h1,h2,h3⟩:=ih
  have hl:=(Ai.mp hp).1
  have:=v.len r (An hr)
  have hne:=Iq.mpr hd.ne
  refine⟨fun x hx=>?_,h2,by rw[Ao,Cd];lia⟩
  rcases Bl.mp hx with z | z
  ·exact h1 x z
  ·rw[Aw.mp z];exact v.st _ _ _ _ (h1 _ (tG hd.ne)) hs
 | @name n n' r cut cut' c m part hd hr hp ho hd' hf hn hh ih ih'=>
  obtain⟨h1,h2,h3⟩:=ih
  obtain⟨g1,_,_⟩:=ih'
  have hl:=(Ai.mp hp).1
  have:=v.len r (An hr)
  have hne:=Iq.mpr hd.ne
  refine⟨fun x hx=>?_,h2,by rw[Ao,Cd];lia⟩
  rcases Bl.mp hx with z | z
  ·exact h1 x z
  ·rw[Aw.mp z];exact g1 _ (tG hd'.ne)
def tI(V:List Int)(N L:Nat):List K4:=(Bu N).flatMap fun n=>(Bu (L + 1)).flatMap fun l=>V.flatMap fun a=>V.map fun b=>(n,l,a,b)
theorem qE{α β:Type}{f:α->List β}{k:Nat}:∀ {l:List α},(∀ x∈l,(f x).length=k)->(l.flatMap f).length=l.length * k
 | [],_=>by simp
 | x :: l,h=>by
  rw[List.flatMap_cons,Ao,h x Bf,qE fun y hy=>h y (Bd _ hy),Bn,Nat.succ_mul];lia
theorem WO(V:List Int)(N L:Nat):(tI V N L).length=N * ((L + 1) * (V.length * V.length)):=by
 unfold tI
 rw[qE (k:=(L + 1) * (V.length * V.length)) fun n _=>?_,Em]
 rw[qE (k:=V.length * V.length) fun l _=>?_,Em]
 rw[qE (k:=V.length) fun a _=>by rw[Ab]]
theorem HG{G:Sr}{V:List Int}{N L S I0 T:Nat}{st:SS}{P:List bZ}{cur:aK}(v:tF G V N L)(A:All G S I0 st P cur T):P.length<=N * ((L + 1) * (V.length * V.length))/\(∀ key,((aH st.ends key).getD []).length<=V.length)/\(bC st.q).length + T<=I0 + N * ((L + 1) * (V.length * V.length)) * (S + V.length):=by
 have hin:∀ {B:bR} {n cut c},B=st.best->GI G B n cut c->DI G n cut c:=fun {B n cut c} e g=>xM (B:=B) (fun f m n' cut' h=>tD A.ob (by rw[<-e];exact h)) g
 have hP:P.length<=N * ((L + 1) * (V.length * V.length)):=by
  have:=len_sub (b:=tI V N L) A.inv.once fun k hk=>by
   obtain⟨y,hy,rfl⟩:=Az.mp hk
   have hd:=hin rfl (A.inv.pr y hy).2.2
   obtain⟨h1,h2,h3⟩:=tH v hd
   unfold tI
   refine Hc.mpr ⟨y.1,Dy.mpr h2,Hc.mpr ⟨y.2.1.length,Dy.mpr (by lia),Hc.mpr ⟨_,h1 _ (WN hd.ne),Az.mpr ⟨_,h1 _ (tG hd.ne),rfl⟩⟩⟩⟩
  rw[Ab,WO] at this
  exact this
 have hE:∀ key,((aH st.ends key).getD []).length<=V.length:=fun key=>by
  have:=len_sub (b:=V) (A.cn.enn key) fun e he=>by
   obtain⟨z,hz,rfl⟩:=Az.mp he
   obtain⟨k,hk⟩:=(A.ob.ends key.1 key.2 z.1 z.2).mp hz
   obtain⟨n,cut⟩:=k
   obtain⟨hd,_,hf⟩:=tD A.ob hk
   unfold cL at hf
   simp only[Dd] at hf
   rw[hf.2.2]
   exact(tH v hd).1 _ (tG hd.ne)
  rw[Ab] at this
  exact this
 refine⟨hP,hE,?_⟩
 have hsum:(P.map (fY G S st)).sum<=P.length * (S + V.length):=by
  have hd:∀ y,fY G S st y<=S + V.length:=fun y=>by
   unfold fY
   split
   ·lia
   ·rename_i part _
    split
    ·have:=hE (part,y.2.1.getLastD 0)
     lia
    ·lia
  have:∀ l:List bZ,(l.map (fY G S st)).sum<=l.length * (S + V.length):=by
   intro l
   induction l with
   | nil=>simp
   | cons y l ih=>rw[Ay,List.sum_cons,Bn,Nat.succ_mul];have:=hd y;lia
  exact this P
 have h1:=A.cn.put
 have h2:P.length * (S + V.length)<=N * ((L + 1) * (V.length * V.length)) * (S + V.length):=Nat.mul_le_mul_right _ hP
 lia
theorem nY{κ:Type}[DecidableEq κ]{kvs:List (κ×W)}{k j:κ}{w:W}:bD (cC kvs k w) j=if k=j then some w else bD kvs j:=kS kvs k j w
theorem mT{κ:Type}[DecidableEq κ](e:κ×W)(t:List (κ×W))(k:κ):bD (e :: t) k=if e.1=k then some e.2 else bD t k:=dG e t k
theorem tJ{κ:Type}[DecidableEq κ]{k j:κ}:∀ {kvs:List (κ×W)},bD (iP kvs k) j=if k=j then none else bD kvs j
 | []=>by unfold iP;rw[List.filter_nil];split <;> rfl
 | e :: t=>by
  have ih:=tJ (k:=k) (j:=j) (kvs:=t)
  unfold iP at ih ⊢
  rw[Dk]
  by_cases h:e.1=k
  ·rw[if_neg (by simp[h]),ih,mT]
   by_cases hj:k=j
   ·rw[if_pos hj,if_pos hj]
   ·rw[if_neg hj,if_neg hj,if_neg (by rw[h];exact hj)]
  ·rw[if_pos (by simp[h]),mT,ih,mT]
   by_cases hj:k=j
   ·rw[if_pos hj,if_pos hj,if_neg (by rw[<-hj];exact h)]
   ·rw[if_neg hj,if_neg hj]
theorem xP{κ:Type}[DecidableEq κ](kvs:List (κ×W))(k:κ)(w:W):(cC kvs k w).length<=kvs.length + 1:=sY kvs k w
theorem HH{κ:Type}[DecidableEq κ]{k:κ}:∀ {kvs:List (κ×W)},(bD kvs k).isSome=true->(iP kvs k).length < kvs.length
 | [],h=>by cases h
 | e :: t,h=>by
  unfold iP
  rw[Dk]
  have hle:(t.filter fun kv=>decide (kv.1≠k)).length<=t.length:=Gk _ _
  by_cases he:e.1=k
  ·rw[if_neg (by simp[he]),Bn];omega
  ·rw[if_pos (by simp[he]),Bn,Bn]
   rw[mT,if_neg he] at h
   have:=HH h
   unfold iP at this
   omega
structure dZ{κ:Type}(kk:κ->List aE)(M0 M:Mm)(a:Addr)(kvs:List (List aE×W))(g:κ->Option (List W)):Prop where
 sub:L3.Sub M0 M
 new:M0 a=none
 at_:M a=some (.dT kvs)
 non:∀ k,g k=none->bD kvs (kk k)=none
 som:∀ k ws,g k=some ws->∃ p,bD kvs (kk k)=some (.ref p)/\p≠a/\M0 p=none/\M p=some (.lst ws)
 inj:∀ k j p,bD kvs (kk k)=some (.ref p)->bD kvs (kk j)=some (.ref p)->k=j
theorem gK{M0 M:Mm}{p:Addr}{o:MO}(h:L3.Sub M0 M)(n:M0 p=none):L3.Sub M0 (put M p o):=fun a u e=>by
 rw[aT (fun z=>by rw[z,n] at e;cases e)];exact h a u e
section
variable {κ:Type}[DecidableEq κ]{kk:κ->List aE}{M0 M:Mm}{a p:Addr}{kvs:List (List aE×W)}{g:κ->Option (List W)}{o:MO}{k:κ}{ws:List W}
theorem dZ.lift(h:dZ kk M0 M a kvs g)(hp:M p=none\/∃ u,M0 p=some u):dZ kk (put M0 p o) (put M p o) a kvs g:=by
 have ne:∀ {b:Addr},M0 b=none->(∃ u,M b=some u)->b≠p:=fun {b} h0 ⟨u,h1⟩ e=>by
  subst e
  rcases hp with z | ⟨v,z⟩
  ·rw[h1] at z;cases z
  ·rw[h0] at z;cases z
 refine⟨Sub.put h.sub,?_,?_,h.non,fun k ws e=>?_,h.inj⟩
 ·rw[aT (ne h.new ⟨_,h.at_⟩)];exact h.new
 ·rw[aT (ne h.new ⟨_,h.at_⟩)];exact h.at_
 ·obtain⟨q,h1,h2,h3,h4⟩:=h.som k ws e
  have:=ne h3 ⟨_,h4⟩
  exact⟨q,h1,h2,by rw[aT this];exact h3,by rw[aT this];exact h4⟩
theorem dZ.more(h:dZ kk M0 M a kvs g)(hp:M p=none):dZ kk M0 (put M p o) a kvs g:=by
 have ne:∀ {b:Addr},(∃ u,M b=some u)->b≠p:=fun {b} ⟨u,h1⟩ e=>by subst e;rw[hp] at h1;cases h1
 refine⟨gK h.sub (h.sub.non hp),h.new,by rw[aT (ne ⟨_,h.at_⟩)];exact h.at_,h.non,fun k ws e=>?_,h.inj⟩
 obtain⟨q,h1,h2,h3,h4⟩:=h.som k ws e
 exact⟨q,h1,h2,h3,by rw[aT (ne ⟨_,h4⟩)];exact h4⟩
theorem dZ.has(h:dZ kk M0 M a kvs g)(e:g k=some ws):∃ p,bD kvs (kk k)=some (.ref p)/\M p=some (.lst ws):=by
 obtain⟨q,h1,_,_,h4⟩:=h.som k ws e
 exact⟨q,h1,h4⟩
theorem dZ.look(h:dZ kk M0 M a kvs g)(k:κ):(bD kvs (kk k)).isSome=(g k).isSome:=by
 cases e:g k with
 | none=>rw[h.non k e];rfl
 | some ws=>obtain⟨q,h1,_⟩:=h.has e;rw[h1];rfl
theorem dZ.wr(h:dZ kk M0 M a kvs g)(hk:bD kvs (kk k)=some (.ref p)):dZ kk M0 (put M p (.lst ws)) a kvs (fun j=>if k=j then some ws else g j):=by
 obtain⟨ws0,e0⟩:∃ ws0,g k=some ws0:=by
  cases e:g k with
  | none=>rw[h.non k e] at hk;cases hk
  | some ws=>exact⟨_,rfl⟩
 obtain⟨q,h1,h2,h3,h4⟩:=h.som k ws0 e0
 rw[hk] at h1
 cases h1
 refine⟨gK h.sub h3,h.new,by rw[aT (Bp h2)];exact h.at_,fun j e=>?_,fun j us e=>?_,h.inj⟩
 ·by_cases hj:k=j
  ·rw[if_pos hj] at e;cases e
  ·rw[if_neg hj] at e;exact h.non j e
 ·by_cases hj:k=j
  ·rw[if_pos hj] at e;cases e
   subst hj
   exact⟨p,hk,h2,h3,bB⟩
  ·rw[if_neg hj] at e
   obtain⟨q,g1,g2,g3,g4⟩:=h.som j us e
   refine⟨q,g1,g2,g3,?_⟩
   rw[aT (fun z=>hj (h.inj k j p hk (by rw[<-z];exact g1)))];exact g4
theorem dZ.add(hkk:∀ k j,kk k=kk j->k=j)(h:dZ kk M0 M a kvs g)(hg:g k=none)(hp:M p=none):dZ kk M0 (put (put M p (.lst ws)) a (.dT (cC kvs (kk k) (.ref p)))) a (cC kvs (kk k) (.ref p)) (fun j=>if k=j then some ws else g j):=by
 have ne:∀ {b:Addr},(∃ u,M b=some u)->b≠p:=fun {b} ⟨u,h1⟩ e=>by subst e;rw[hp] at h1;cases h1
 have hpa:p≠a:=Bp (ne ⟨_,h.at_⟩)
 have refs:∀ j q,bD kvs (kk j)=some (.ref q)->∃ u,M q=some u:=fun j q e=>by
  cases eg:g j with
  | none=>rw[h.non j eg] at e;cases e
  | some us=>
   obtain⟨q',g1,_,_,g4⟩:=h.som j us eg
   rw[e] at g1;cases g1
   exact⟨_,g4⟩
 refine⟨gK (gK h.sub (h.sub.non hp)) h.new,h.new,bB,fun j e=>?_,fun j us e=>?_,fun i j q e1 e2=>?_⟩
 ·by_cases hj:k=j
  ·rw[if_pos hj] at e;cases e
  ·rw[if_neg hj] at e
   rw[nY,if_neg (fun z=>hj (hkk _ _ z))];exact h.non j e
 ·by_cases hj:k=j
  ·rw[if_pos hj] at e;cases e
   subst hj
   exact⟨p,by rw[nY,if_pos rfl],hpa,h.sub.non hp,by rw[aT hpa,bB]⟩
  ·rw[if_neg hj] at e
   obtain⟨q,g1,g2,g3,g4⟩:=h.som j us e
   exact⟨q,by rw[nY,if_neg (fun z=>hj (hkk _ _ z))];exact g1,g2,g3,by rw[aT g2,aT (ne ⟨_,g4⟩)];exact g4⟩
 ·rw[nY] at e1 e2
  by_cases h1:kk k=kk i
  ·by_cases h2:kk k=kk j
   ·exact(hkk _ _ h1).symm.trans (hkk _ _ h2)
   ·rw[if_pos h1] at e1;rw[if_neg h2] at e2;cases e1
    obtain⟨u,z⟩:=refs j p e2;rw[hp] at z;cases z
  ·by_cases h2:kk k=kk j
   ·rw[if_neg h1] at e1;rw[if_pos h2] at e2;cases e2
    obtain⟨u,z⟩:=refs i p e1;rw[hp] at z;cases z
   ·rw[if_neg h1] at e1;rw[if_neg h2] at e2
    exact h.inj i j q e1 e2
theorem dZ.del(hkk:∀ k j,kk k=kk j->k=j)(h:dZ kk M0 M a kvs g):dZ kk M0 (put M a (.dT (iP kvs (kk k)))) a (iP kvs (kk k)) (fun j=>if k=j then none else g j):=by
 refine⟨gK h.sub h.new,h.new,bB,fun j e=>?_,fun j us e=>?_,fun i j q e1 e2=>?_⟩
 ·rw[tJ]
  by_cases hj:k=j
  ·rw[if_pos (by rw[hj])]
  ·rw[if_neg hj] at e
   rw[if_neg (fun z=>hj (hkk _ _ z))];exact h.non j e
 ·by_cases hj:k=j
  ·rw[if_pos hj] at e;cases e
  ·rw[if_neg hj] at e
   obtain⟨q,g1,g2,g3,g4⟩:=h.som j us e
   exact⟨q,by rw[tJ,if_neg (fun z=>hj (hkk _ _ z))];exact g1,g2,g3,by rw[aT g2];exact g4⟩
 ·rw[tJ] at e1 e2
  split at e1
  ·cases e1
  ·split at e2
   ·cases e2
   ·exact h.inj i j q e1 e2
theorem dZ.same{g':κ->Option (List W)}(h:dZ kk M0 M a kvs g)(e:∀ k,g' k=g k):dZ kk M0 M a kvs g':=by
 have:g'=g:=funext e
 rw[this];exact h
end
structure Cc where
 q:Addr
 s:Addr
 f:Addr
 g:Addr
def cW(c:aK):W:=.tup [.int c.1,.int c.2]
def cK(c:aK):List aE:=[Sum.inl c.1,Sum.inl c.2]
theorem WQ(c:aK):cW c=.tup ((cK c).map wK):=rfl
theorem HI:∀ a b:aK,cK a=cK b->a=b:=fun a b h=>by
 unfold cK at h
 simp only[Dw,Kx,and_true] at h
 exact Mp h.1 h.2
def fT(cut:List Int):W:=.tup (cut.map W.int)
def jE(x:Nat×List Int):W:=.tup [.int x.1,fT x.2]
section
variable {α:Type}
theorem tK{κ β:Type}[DecidableEq κ]{t:List (κ×β)}{k:κ}(h:∀ e∈t,e.1≠k):aH t k=none:=by
 induction t with
 | nil=>rfl
 | cons e t ih=>rw[dG,if_neg (h e Bf)];exact ih fun x hx=>h x (Bd _ hx)
theorem tL{a b:aK}(h:cI a b=true):a≠b:=fun e=>by subst e;exact p7 h
theorem HJ(c:aK)(x:α)(d:aK):∀ {q:List (aK×List α)},gJ q->aH (dQ c x q) d=if c=d then some ((aH q c).getD [] ++ [x]) else aH q d
 | [],_=>by rw[dQ,dG];rfl
 | (e,xs) :: r,h=>by
  obtain⟨_,h2,h3⟩:=h
  rw[dQ]
  by_cases h1:cI c e=true
  ·rw[if_pos h1,dG,HJ c x d h3,dG,dG,if_neg (Bp (tL h1))]
   by_cases hd:e=d
   ·rw[if_pos hd,if_pos hd,if_neg (fun z=>tL h1 (z.trans hd.symm))]
   ·rw[if_neg hd,if_neg hd]
  ·rw[if_neg h1]
   by_cases h4:e=c
   ·subst h4
    rw[if_pos rfl,dG,dG,dG,if_pos rfl]
    by_cases hd:e=d
    ·rw[if_pos hd,if_pos hd];rfl
    ·rw[if_neg hd,if_neg hd,if_neg hd]
   ·rw[if_neg h4,dG]
    have hn:aH ((e,xs) :: r) c=none:=tK fun z hz=>by
     rcases Ax.mp hz with y | y
     ·rw[y];exact h4
     ·intro e1
      have:=h2 z y
      rw[e1] at this
      exact h1 this
    rw[hn];rfl
def pos(c:aK):List aK->Nat
 | []=>0
 | d :: r=>if cI c d=true then pos c r + 1 else 0
theorem HK(c:aK):∀ cs:List aK,pos c cs<=cs.length
 | []=>Aj _
 | d :: r=>by
  rw[pos]
  split
  ·have:=HK c r;simp;lia
  ·simp
theorem xQ(c:aK)(x:α):∀ {q:List (aK×List α)},gJ q->(aH q c).isSome=false->(dQ c x q).map (·.1)=(q.map (·.1)).take (pos c (q.map (·.1))) ++ c :: (q.map (·.1)).drop (pos c (q.map (·.1)))
 | [],_,_=>rfl
 | (e,xs) :: r,h,hn=>by
  obtain⟨_,h2,h3⟩:=h
  rw[dG] at hn
  by_cases h4:e=c
  ·rw[if_pos h4] at hn;cases hn
  ·rw[if_neg h4] at hn
   rw[dQ,Ay,pos]
   by_cases h1:cI c e=true
   ·rw[if_pos h1,if_pos h1,Ay,xQ c x h3 hn];rfl
   ·rw[if_neg h1,if_neg h1,if_neg h4];rfl
theorem HL(c:aK)(x:α):∀ {q:List (aK×List α)},gJ q->(aH q c).isSome=true->(dQ c x q).map (·.1)=q.map (·.1)
 | [],_,h=>by cases h
 | (e,xs) :: r,h,hn=>by
  obtain⟨_,h2,h3⟩:=h
  rw[dG] at hn
  rw[dQ]
  by_cases h1:cI c e=true
  ·rw[if_neg (Bp (tL h1))] at hn
   rw[if_pos h1,Ay,HL c x h3 hn];rfl
  ·rw[if_neg h1]
   by_cases h4:e=c
   ·rw[if_pos h4];rfl
   ·rw[if_neg h4] at hn
    obtain⟨ys,hy⟩:=Gs.mp hn
    have:∃ z∈r,z.1=c:=by
     have:∀ {t:List (aK×List α)},aH t c=some ys->∃ z∈t,z.1=c:=by
      intro t
      induction t with
      | nil=>intro e;cases e
      | cons b t ih=>
       intro e
       rw[dG] at e
       by_cases hb:b.1=c
       ·exact⟨b,Bf,hb⟩
       ·rw[if_neg hb] at e
        obtain⟨z,h1,h2⟩:=ih e
        exact⟨z,Bd _ h1,h2⟩
     exact this hy
    obtain⟨z,hz,e1⟩:=this
    have:=h2 z hz
    rw[e1] at this
    exact absurd this h1
theorem xR:∀ {q:List (aK×List α)},gJ q->q.length<=(bC q).length
 | [],_=>Aj _
 | (e,xs) :: r,h=>by
  obtain⟨h1,_,h3⟩:=h
  have:=xR h3
  have:=Iq.mpr h1
  rw[bC,Ao,Ab,Bn];lia
theorem HM:∀ {q:List (aK×List α)} {c:aK},((aH q c).getD []).length<=(bC q).length
 | [],_=>Aj _
 | (e,xs) :: r,c=>by
  rw[dG,bC,Ao,Ab]
  split
  ·show xs.length<=_;lia
  ·have:=HM (q:=r) (c:=c);lia
theorem HN:∀ {q q':List (aK×List α)} {c:aK} {x:α},gJ q->gU q=some (c,x,q')->∃ r ys,q=r ++ [(c,ys ++ [x])]/\q'=(if ys.isEmpty then r else r ++ [(c,ys)])
 | [],q',c,x,_,h=>by cases h
 | [(d,xs)],q',c,x,hf,h=>by
  obtain⟨h1,_,_⟩:=hf
  rcases Fi xs with z | ⟨ys,y,z⟩
  ·exact absurd z h1
  ·rw[Fj] at z
   subst z
   simp[gU] at h
   obtain⟨rfl,rfl,rfl⟩:=h
   refine⟨[],ys,rfl,?_⟩
   cases ys <;> simp
 | e :: e2 :: r,q',c,x,hf,h=>by
  obtain⟨_,_,h3⟩:=hf
  rw[gU] at h
  split at h
  ·cases h
  ·rename_i d1 x1 q1 e1
   simp only[Eh,Dd] at h
   obtain⟨rfl,rfl,rfl⟩:=h
   obtain⟨r',ys,z1,z2⟩:=HN h3 e1
   refine⟨e :: r',ys,by rw[z1];rfl,?_⟩
   rw[z2]
   split <;> rfl
theorem tM{κ β:Type}[DecidableEq κ]{t:List (κ×β)}{k:κ}{v:β}(h:∀ e∈t,e.1≠k)(j:κ):aH (t ++ [(k,v)]) j=if k=j then some v else aH t j:=by
 rw[xH]
 by_cases hj:k=j
 ·subst hj;rw[if_pos rfl,if_pos rfl,tK h];rfl
 ·rw[if_neg hj,if_neg hj,Option.or_none]
theorem HP:∀ {r:List (aK×List α)} {c:aK} {ys:List α},gJ (r ++ [(c,ys)])->∀ e∈r,e.1≠c
 | [],_,_,_,e,h=>nomatch h
 | b :: r,c,ys,h,e,he=>by
  obtain⟨_,h2,h3⟩:=h
  rcases Ax.mp he with z | z
  ·rw[z];exact Bp (tL (h2 (c,ys) (by simp)))
  ·exact HP h3 e z
theorem HQ:∀ {q:List (aK×List α)},gJ q->(q.map (·.1)).Pairwise fun a b=>cI b a=true
 | [],_=>.nil
 | (e,xs) :: r,h=>by
  obtain⟨_,h2,h3⟩:=h
  rw[Ay,List.pairwise_cons]
  refine⟨fun a ha=>?_,HQ h3⟩
  obtain⟨z,hz,rfl⟩:=Az.mp ha
  exact h2 z hz
end
theorem HR{c:aK}:∀ {cs:List aK} {k:Nat},k<=cs.length->(∀ i d,i < k->cs[i]? = some d->cI c d=true)->(∀ i d,k<=i->cs[i]? = some d->cI c d=false)->pos c cs=k
 | [],k,h,_,_=>by simp at h;subst h;rfl
 | d :: r,k,h,h1,h2=>by
  rw[pos]
  cases k with
  | zero=>rw[if_neg (by rw[h2 0 d (Aj _) rfl];decide)]
  | succ k=>
   rw[if_pos (h1 0 d (by lia) rfl),HR (k:=k) (by simpa using h) (fun i e hi he=>h1 (i + 1) e (by lia) (by simpa using he)) fun i e hi he=>h2 (i + 1) e (by lia) (by simpa using he)]
structure Aq where
 o:Addr
 d:Addr
 c:Addr
 w:Addr
def qf(A:Aq):List (Str×W):=[("costs",.ref A.c),("waiting",.ref A.w)]
theorem nZ{A:Aq}:Cg ("costs" : Str) (qf A)=some (W.ref A.c):=by kernel_rfl
theorem n5{A:Aq}:Cg ("waiting" : Str) (qf A)=some (W.ref A.w):=by kernel_rfl
theorem WR{A:Aq}:Cg ("place_of" : Str) (qf A)=none:=by kernel_rfl
theorem WS{A:Aq}:Cg ("put" : Str) (qf A)=none:=by kernel_rfl
theorem WT{A:Aq}:Cg ("take" : Str) (qf A)=none:=by kernel_rfl
theorem WU{A:Aq}:Cg ("is_done" : Str) (qf A)=none:=by kernel_rfl
structure Qm(C:Cc)(M0 M:Mm)(A:Aq)(cs:List aK):Prop where
 sub:L3.Sub M0 M
 no:M0 A.o=none
 nc:M0 A.c=none
 ne:A.o≠A.c
 ob:M A.o=some (.ins C.q A.d (qf A))
 co:M A.c=some (.lst (cs.map cW))
abbrev Qu:=List (aK×List (Nat×List Int))
abbrev wG(q:Qu):aK->Option (List W):=fun c=>(aH q c).map fun xs=>xs.map jE
structure QR(C:Cc)(M0 M:Mm)(A:Aq)(q:Qu):Prop where
 fall:gJ q
 ex:∃ M1 kvs,Qm C M0 M1 A (q.map (·.1))/\dZ cK M1 M A.w kvs (wG q)/\kvs.length<=q.length
theorem Qm.lift{C:Cc}{M0 M:Mm}{A:Aq}{cs:List aK}{p:Addr}{o:MO}(h:Qm C M0 M A cs)(hp:M p=none\/∃ u,M0 p=some u):Qm C (put M0 p o) (put M p o) A cs:=by
 have ne:∀ {b:Addr},M0 b=none->(∃ u,M b=some u)->b≠p:=fun {b} h0 ⟨u,h1⟩ e=>by
  subst e
  rcases hp with z | ⟨v,z⟩
  ·rw[h1] at z;cases z
  ·rw[h0] at z;cases z
 have n1:=ne h.no ⟨_,h.ob⟩
 have n2:=ne h.nc ⟨_,h.co⟩
 exact⟨Sub.put h.sub,by rw[aT n1];exact h.no,by rw[aT n2];exact h.nc,h.ne,by rw[aT n1];exact h.ob,by rw[aT n2];exact h.co⟩
theorem Qm.costs{C:Cc}{M0 M:Mm}{A:Aq}{cs cs':List aK}(h:Qm C M0 M A cs):Qm C M0 (put M A.c (.lst (cs'.map cW))) A cs':=
 ⟨gK h.sub h.nc,h.no,h.nc,h.ne,by rw[aT h.ne];exact h.ob,bB⟩
theorem QR.lift{C:Cc}{M0 M:Mm}{A:Aq}{q:Qu}{p:Addr}{o:MO}(h:QR C M0 M A q)(hp:M p=none\/∃ u,M0 p=some u):QR C (put M0 p o) (put M p o) A q:=by
 obtain⟨M1,kvs,h1,h2,h3⟩:=h.ex
 refine⟨h.fall,put M1 p o,kvs,h1.lift ?_,h2.lift ?_,h3⟩
 ·rcases hp with z | z
  ·exact .inl (h2.sub.non z)
  ·exact .inr z
 ·rcases hp with z | ⟨u,z⟩
  ·exact .inl z
  ·exact .inr ⟨u,h1.sub _ _ z⟩
theorem QR.more{C:Cc}{M0 M:Mm}{A:Aq}{q:Qu}{p:Addr}{o:MO}(h:QR C M0 M A q)(hp:M p=none):QR C M0 (put M p o) A q:=by
 obtain⟨M1,kvs,h1,h2,h3⟩:=h.ex
 exact⟨h.fall,M1,kvs,h1,h2.more hp,h3⟩
theorem QR.sub{C:Cc}{M0 M:Mm}{A:Aq}{q:Qu}(h:QR C M0 M A q):L3.Sub M0 M:=by
 obtain⟨M1,kvs,h1,h2,h3⟩:=h.ex
 exact h1.sub.trans h2.sub
theorem QR.ob{C:Cc}{M0 M:Mm}{A:Aq}{q:Qu}(h:QR C M0 M A q):M A.o=some (.ins C.q A.d (qf A)):=by
 obtain⟨M1,kvs,h1,h2,h3⟩:=h.ex
 exact h2.sub _ _ h1.ob
theorem QR.co{C:Cc}{M0 M:Mm}{A:Aq}{q:Qu}(h:QR C M0 M A q):M A.c=some (.lst ((q.map (·.1)).map cW)):=by
 obtain⟨M1,kvs,h1,h2,h3⟩:=h.ex
 exact h2.sub _ _ h1.co
def xS(C:Cc):bK:=fun ws M R=>∃ M0 a dx,ws=[.ref a]/\M=put M0 a (.ins C.q dx [])/\M0 a=none/\∀ M' (A:Aq),A.o=a->QR C M0 M' A []->R .non M'
def xT(C:Cc):bK:=fun ws M R=>∃ M0 A q,ws=[.ref A.o]/\QR C M0 M A q/\R (.bl (decide (q=[]))) M
def xU(C:Cc):bK:=fun ws M R=>∃ (A:Aq) (cs:List aK) (c:aK),ws=[.ref A.o,cW c]/\M A.o=some (.ins C.q A.d (qf A))/\M A.c=some (.lst (cs.map cW))/\cs.Pairwise (fun a b=>cI b a=true)/\cs.length < 10000000/\R (.int (pos c cs:Nat)) M
def tO(C:Cc):bK:=fun ws M R=>∃ M0 A q c x,ws=[.ref A.o,cW c,jE x]/\QR C M0 M A q/\(bC (dQ c x q)).length < 10000000/\∀ M',QR C M0 M' A (dQ c x q)->R .non M'
def xV(C:Cc):bK:=fun ws M R=>∃ M0 A q c x q',ws=[.ref A.o]/\QR C M0 M A q/\gU q=some (c,x,q')/\∀ M',QR C M0 M' A q'->R (.tup [cW c,jE x]) M'
abbrev WV:List Str:=["self"]
def WW(C:Cc):aJ:=
   (aS (jA C.q (aA 0) "costs" (iJ aF))
   (jA C.q (aA 0) "waiting" lM))
abbrev WX:List Str:=["self"]
def WY(C:Cc):aJ:=
   (bW (aD (rEq false) (bT cX (aB (cT C.q (aA 0) "costs") aF)) (vC (.int 0))))
abbrev WZ:List Str:=["self","cost","thing"]
def W0(C:Cc):aJ:=
   (aS (dD (cD (aD (rIn true) (aA 1) (cT C.q (aA 0) "waiting")))
    (aS (jY (iJ aF) (kP (cT C.q (aA 0) "waiting") (aA 1)))
   (eA (eE "list" G6 (cT C.q (aA 0) "costs") (aB (gT C.q "place_of" (xU C) (aA 0) (aB (aA 1) aF)) (aB (aA 1) aF)))))
    eL)
   (eA (eE "list" fG (aD aN (cT C.q (aA 0) "waiting") (aA 1)) (aB (aA 2) aF))))
abbrev W5:List Str:=["self","cost","low","high","middle"]
def W6(C:Cc):aJ:=
   (bE 2 (vC (.int 0)))
def W7(C:Cc):aJ:=
   (bE 3 (bT cX (aB (cT C.q (aA 0) "costs") aF)))
def W8(C:Cc):aJ:=
   (aS (bE 4 (aD nO (aD cF (aA 2) (aA 3)) (vC (.int 2))))
   (dD (cD (aD G4 (aD aN (cT C.q (aA 0) "costs") (aA 4)) (aA 1)))
    (bE 2 (aD cF (aA 4) (vC (.int 1))))
    (bE 3 (aA 4))))
def W9(C:Cc):aJ:=
   (pQ (cD (aD lH (aA 2) (aA 3))) (W8 C))
def XA(C:Cc):aJ:=
   (bW (aA 2))
def XB(C:Cc):aJ:=(aS (W6 C) (aS (W7 C) (aS (W9 C) (XA C))))
abbrev XC:List Str:=["self","cost","things","thing"]
def XD(C:Cc):aJ:=
   (bE 1 (aD aN (cT C.q (aA 0) "costs") (kG kM (vC (.int 1)))))
def XE(C:Cc):aJ:=
   (bE 2 (aD aN (cT C.q (aA 0) "waiting") (aA 1)))
def XF(C:Cc):aJ:=
   (bE 3 (rX "list" rPop (aA 2)))
def XG(C:Cc):aJ:=
   (dD (cD (aD (rEq false) (bT cX (aB (aA 2) aF)) (vC (.int 0))))
    (aS (eA (rX "list" rPop (cT C.q (aA 0) "costs")))
   (eA (eE "dict" G0 (cT C.q (aA 0) "waiting") (aB (aA 1) aF))))
    eL)
def XH(C:Cc):aJ:=
   (bW (cS (aB (aA 1) (aB (aA 3) aF))))
def XI(C:Cc):aJ:=(aS (XD C) (aS (XE C) (aS (XF C) (aS (XG C) (XH C)))))
theorem XJ{C:Cc}:∀ ws M R,xS C ws M R->ws.length=1:=by rintro ws M R ⟨_,_,_,rfl,_⟩;rfl
theorem XM{C:Cc}:∀ ws M R,xT C ws M R->ws.length=1:=by rintro ws M R ⟨_,_,_,rfl,_⟩;rfl
theorem XN{C:Cc}:∀ ws M R,xU C ws M R->ws.length=2:=by rintro ws M R ⟨_,_,_,rfl,_⟩;rfl
theorem XO{C:Cc}:∀ ws M R,tO C ws M R->ws.length=3:=by rintro ws M R ⟨_,_,_,_,_,rfl,_⟩;rfl
theorem XQ{C:Cc}:∀ ws M R,xV C ws M R->ws.length=1:=by rintro ws M R ⟨_,_,_,_,_,_,rfl,_⟩;rfl
theorem z1:1<=Am:=by decide
theorem z2:2<=Am:=by decide
theorem z3:3<=Am:=by decide
theorem z4:4<=Am:=by decide
theorem bV{b:Bool}{P Q:Prop}(h1:b=true->P)(h2:b=false->Q):if b=true then P else Q:=by cases b;exact h2 rfl;exact h1 rfl
theorem xW{w:W}{ws:List W}{M:Mm}{R:List W->(Mm->Prop)->Mm->Prop}(e:w=.rl ws)(h:R ws (fun _=>True) M):L3.mM w M R:=by rw[e];exact h
theorem mU{M:Mm}{a:Addr}{kvs:List (List aE×W)}{k:List aE}{w:W}{R:K3}(h:M a=some (.dT kvs))(hl:bD kvs k=some w)(r:R w M):L3.aN (.ref a) (.tup (k.map wK)) M R:=⟨w,.inr ⟨kvs,k,h,rfl,hl.symm⟩,r⟩
theorem fU{M:Mm}{a:Addr}{ws:List W}(h:M a=some (.lst ws)):kJ "list" (.ref a) M:=.inl ⟨rfl,_,h⟩
theorem qF{M:Mm}{a:Addr}{kvs:List (List aE×W)}(h:M a=some (.dT kvs)):kJ "dict" (.ref a) M:=.inr ⟨rfl,.inr ⟨_,h⟩⟩
theorem XR{C:Cc}{ws:List W}{M:Mm}{R:K3}(h:xT C ws M R):WY C (bU R) (bX WX ws) M:=by
 obtain⟨M0,A,q,rfl,hq,r⟩:=h
 refine⟨_,rfl,A.o,A.d,qf A,_,rfl,hq.ob,nZ,.inl ⟨_,hq.co,M,Sub.refl _,?_⟩⟩
 show R (.bl (decide (((Lq cW (q.map fun x=>x.1)).length:Int)=0))) M
 have e:decide (((Lq cW (q.map fun x=>x.1)).length:Int)=0)=decide (q=[]):=by
  cases q <;> simp
  lia
 rw[e];exact r
theorem XS{C:Cc}{ws:List W}{M:Mm}{R:K3}(h:xS C ws M R):WW C (bU R) (bX WV ws) M:=by
 obtain⟨M0,a,dx,rfl,rfl,ha,r⟩:=h
 refine⟨Ci _,fun p hp=>?_⟩
 have hpa:p≠a:=fun e=>by rw[e,bB] at hp;cases hp
 have hp0:M0 p=none:=by rw[aT hpa] at hp;exact hp
 refine⟨_,rfl,a,dx,[],rfl,by rw[aT (Bp hpa),bB],by decide,fun w hw=>?_⟩
 have hwa:w≠a:=fun e=>by rw[e,bB] at hw;cases hw
 have hwp:w≠p:=fun e=>by rw[e,aT hpa,bB] at hw;cases hw
 have hw0:M0 w=none:=by rw[aT hwa,aT hwp,aT hwa] at hw;exact hw
 refine⟨_,rfl,a,dx,bY "costs" (.ref p) [],rfl,by rw[aT (Bp hwa),bB],(show(1:Nat) < 1000 by decide),_,Sub.refl _,r _ ⟨a,dx,p,w⟩ rfl ⟨trivial,put (put M0 p (.lst [])) a (.ins C.q dx (qf ⟨a,dx,p,w⟩)),[],⟨gK (gK (Sub.refl _) hp0) ha,ha,hp0,Bp hpa,bB,by rw[aT hpa,bB];rfl⟩,?_,Aj _⟩⟩
 have e:put (put (put (put (put M0 a (.ins C.q dx [])) p (.lst [])) a (.ins C.q dx (bY "costs" (.ref p) []))) w (.dT [])) a (.ins C.q dx (bY "waiting" (.ref w) (bY "costs" (.ref p) [])))=put (put (put M0 p (.lst [])) a (.ins C.q dx (qf ⟨a,dx,p,w⟩))) w (.dT []):=by
  have eq:bY "waiting" (.ref w) (bY "costs" (.ref p) [])=qf ⟨a,dx,p,w⟩:=by
   show(if (("costs" : Str)=("waiting" : Str)) then _ else _)=_
   rw[if_neg (by decide +kernel)];rfl
  rw[eq]
  funext b
  unfold put
  by_cases h1:b=a <;> by_cases h2:b=w <;> by_cases h3:b=p <;> simp_all
 rw[e]
 exact⟨gK (Sub.refl _) (by rw[aT hwa,aT hwp];exact hw0),by rw[aT hwa,aT hwp];exact hw0,bB,(fun _ _=>rfl),(fun k ws e=>nomatch e),(fun k j p e=>nomatch e)⟩
theorem XT{C:Cc}{ws:List W}{M:Mm}{R:K3}(h:xU C ws M R):XB C (bU R) (bX W5 ws) M:=by
 obtain⟨A,cs,c,rfl,ho,hc,pw,hl,r⟩:=h
 refine⟨_,rfl,A.o,A.d,qf A,_,rfl,ho,nZ,.inl ⟨_,hc,?_⟩⟩
 refine⟨fun m τ M'=>∃ lo hi:Nat,∃ o,τ=[some (.ref A.o),some (cW c),some (.int lo),some (.int hi),o]/\M'=M/\lo<=hi/\hi<=cs.length/\(∀ i d,i < lo->cs[i]? = some d->cI c d=true)/\(∀ i d,hi<=i->cs[i]? = some d->cI c d=false)/\m=hi - lo,⟨_,0,cs.length,none,by rw[Ab];rfl,rfl,Ci _,Aj _,(fun i d hi=>absurd hi (Nat.not_lt_zero _)),(fun i d hi e=>by rw[Jw hi] at e;cases e),rfl⟩,?_⟩
 rintro m τ M' ⟨lo,hi,o,rfl,rfl,h1,h2,h3,h4,rfl⟩
 refine⟨_,rfl,_,rfl,_,rfl,bV (fun hb=>?_) fun hb=>?_⟩
 ·have hlt:=of_decide_eq_true hb
  refine⟨_,rfl,_,rfl,⟨by decide,by decide⟩,?_⟩
  obtain⟨mid,hm⟩:∃ mid,mid=(lo + hi) / 2:=⟨_,rfl⟩
  have em:((lo:Int) + (hi:Int)) / 2=(mid:Nat):=by lia
  dsimp only
  rw[em]
  obtain⟨d,hd⟩:∃ d,cs[mid]? = some d:=⟨_,Ak (by lia)⟩
  refine⟨_,rfl,A.o,A.d,qf A,_,rfl,ho,nZ,_,rfl,.inl ⟨_,cW d,hc,iE (by rw[Av,hd];rfl),_,rfl,d.1,d.2,c.1,c.2,rfl,rfl,_,rfl,?_⟩⟩
  have pg:∀ i j a b,i < j->cs[i]? = some a->cs[j]? = some b->cI b a=true:=fun i j a b hij hi' hj'=>by
   obtain⟨q1,e1⟩:=Ai.mp hi'
   obtain⟨q2,e2⟩:=Ai.mp hj'
   rw[<-e1,<-e2]
   exact Im.mp pw i j q1 q2 hij
  show if cI c d=true then _ else _
  by_cases hcd:cI c d=true
  ·rw[if_pos hcd]
   refine⟨_,rfl,_,_,?_,Sub.refl _,mid + 1,hi,_,rfl,rfl,by lia,h2,fun i e hi' he=>?_,h4,rfl⟩
   ·lia
   ·by_cases hi2:i < mid
    ·exact p8 hcd (Le.of_lt (pg i mid e d hi2 he hd))
    ·have:i=mid:=by lia
     rw[this,hd] at he;cases he;exact hcd
  ·rw[if_neg hcd]
   refine⟨_,rfl,_,_,?_,Sub.refl _,lo,mid,_,rfl,rfl,by lia,by lia,h3,fun i e hi' he=>?_,rfl⟩
   ·lia
   ·by_cases hi2:mid < i
    ·have h5:=pg mid i d e hi2 hd he
     cases h6:cI c e with
     | false=>rfl
     | true=>exact absurd (p8 h6 (Le.of_lt h5)) hcd
    ·have:i=mid:=by lia
     rw[this,hd] at he;cases he
     simpa using hcd
 ·have hlt:=of_decide_eq_false hb
  have:lo=hi:=by lia
  subst this
  refine⟨_,rfl,_,Sub.refl _,?_⟩
  rw[<-HR (c:=c) (cs:=cs) (k:=lo) h2 h3 h4];exact r
theorem XU{C:Cc}{ws:List W}{M:Mm}{R:K3}(h:tO C ws M R):W0 C (bU R) (bX WZ ws) M:=by
 obtain⟨M0,A,q,c,x,rfl,hq,hl,r⟩:=h
 have hle:=sZ c x q
 have hf:=hq.fall
 have hql:=xR hf
 have hil:=HM (q:=q) (c:=c)
 have hfp:=xI c x hf
 obtain⟨M1,kvs,m1,t1,l1⟩:=hq.ex
 refine⟨_,rfl,_,rfl,A.o,A.d,qf A,_,rfl,hq.ob,n5,.inr ⟨_,.inr ⟨kvs,cK c,t1.at_,WQ c,rfl⟩,_,rfl,?_⟩⟩
 rw[t1.look c]
 have wgp:∀ j,wG (dQ c x q) j=if c=j then some (((aH q c).getD []).map jE ++ [jE x]) else wG q j:=fun j=>by
  show(aH (dQ c x q) j).map _=_
  rw[HJ c x j hf]
  by_cases hj:c=j
  ·rw[if_pos hj,if_pos hj,Kf,Bi];rfl
  ·rw[if_neg hj,if_neg hj]
 cases hg:aH q c with
 | some xs=>
  have hgw:wG q c=some (xs.map jE):=by show(aH q c).map _=_;rw[hg];rfl
  rw[hgw]
  rw[hg] at hil wgp
  have hil:xs.length<=(bC q).length:=hil
  refine bV (fun h=>nomatch (show false=true from h)) fun _=>?_
  obtain⟨p,hp1,hp2⟩:=t1.has hgw
  have hold:=HL c x hf (by rw[hg];rfl)
  refine⟨_,rfl,A.o,A.d,qf A,_,rfl,hq.ob,n5,_,rfl,mU t1.at_ hp1 ⟨fU hp2,_,rfl,_,hp2,fS (by rw[Ab];lia),_,Sub.refl _,r _ ⟨hfp,M1,kvs,?_,(t1.wr hp1).same wgp,?_⟩⟩⟩
  ·rw[hold];exact m1
  ·have:=congrArg Ds hold
   rw[Ab,Ab] at this
   rw[this];exact l1
 | none=>
  have hgw:wG q c=none:=by show(aH q c).map _=_;rw[hg];rfl
  rw[hgw]
  rw[hg] at wgp
  refine bV (fun _=>⟨Ci _,fun p hp=>?_⟩) fun h=>nomatch (show true=false from h)
  have t2:=t1.add HI (ws:=[]) hgw hp
  have hpo:A.o≠p:=fun e=>by rw[<-e,hq.ob] at hp;cases hp
  have hll:((q.map (·.1)).map cW).length=q.length:=by rw[Ab,Ab]
  have hpl:=HK c (q.map (·.1))
  rw[Ab] at hpl
  refine⟨_,rfl,A.o,A.d,qf A,_,rfl,by rw[aT hpo];exact hq.ob,n5,_,rfl,nV (k:=cK c) (kvs:=kvs) (by rw[aT (fun e=>by rw[<-e,t1.at_] at hp;cases hp)];exact t1.at_) (fS (by lia)) ?_⟩
  refine⟨_,rfl,A.o,A.d,qf A,_,rfl,t2.sub _ _ m1.ob,nZ,fU (t2.sub _ _ m1.co),?_⟩
  have t3:=t2.lift (p:=A.c) (o:=.lst ((((q.map (·.1)).take (pos c (q.map (·.1))) ++ c :: (q.map (·.1)).drop (pos c (q.map (·.1)))).map cW))) (.inr ⟨_,m1.co⟩)
  have m3:=m1.costs (cs':=(q.map (·.1)).take (pos c (q.map (·.1))) ++ c :: (q.map (·.1)).drop (pos c (q.map (·.1))))
  refine⟨_,rfl,A.o,A.d,qf A,rfl,t2.sub _ _ m1.ob,WR,_,rfl,A,q.map (·.1),c,rfl,t2.sub _ _ m1.ob,t2.sub _ _ m1.co,HQ hf,by rw[Ab];lia,_,rfl,_,t2.sub _ _ m1.co,fS (by rw[hll];lia),by lia,by rw[hll];lia,?_⟩
  have ew:((q.map (·.1)).map cW).take (Int.toNat (pos c (q.map (·.1)):Nat)) ++ cW c :: ((q.map (·.1)).map cW).drop (Int.toNat (pos c (q.map (·.1)):Nat))=(((q.map (·.1)).take (pos c (q.map (·.1))) ++ c :: (q.map (·.1)).drop (pos c (q.map (·.1)))).map cW):=by
   rw[Bz,Bi,Ay,Lg,Nd]
  rw[ew]
  obtain⟨p',hp1,hp2⟩:=t3.has (k:=c) (ws:=[]) (by rw[if_pos rfl])
  refine⟨_,rfl,A.o,A.d,qf A,_,rfl,t3.sub _ _ m3.ob,n5,_,rfl,mU t3.at_ hp1 ⟨fU hp2,_,rfl,_,hp2,fS (by simp),_,Sub.refl _,r _ ⟨hfp,_,_,?_,(t3.wr hp1).same (fun j=>?_),?_⟩⟩⟩
  ·rw[xQ c x hf (by rw[hg];rfl)];exact m3
  ·rw[wgp j]
   by_cases hj:c=j
   ·rw[if_pos hj,if_pos hj];rfl
   ·rw[if_neg hj,if_neg hj,if_neg hj]
  ·have h1:=congrArg Ds (xQ c x hf (by rw[hg];rfl))
   have h2:=xP kvs (cK c) (W.ref p)
   rw[Ab,Ao,Bn,Cb,Gg,Ab] at h1
   lia
theorem XW{C:Cc}{ws:List W}{M:Mm}{R:K3}(h:xV C ws M R):XI C (bU R) (bX XC ws) M:=by
 obtain⟨M0,A,q,c,x,q',rfl,hq,ht,r⟩:=h
 have hf:=hq.fall
 have ⟨_,_,_,e0,hf',_,_,_,_⟩:=mS hf (fun e=>by rw[e] at ht;cases ht)
 rw[ht] at e0
 cases e0
 obtain⟨M1,kvs,m1,t1,l1⟩:=hq.ex
 obtain⟨r0,ys,e1,e2⟩:=HN hf ht
 have hnl:∀ e∈r0,e.1≠c:=by rw[e1] at hf;exact HP hf
 have hgw:wG q c=some (ys.map jE ++ [jE x]):=by
  show(aH q c).map _=_
  rw[e1,tM hnl,if_pos rfl,Kf,Bi];rfl
 obtain⟨p,hp1,hp2⟩:=t1.has hgw
 have hc:M A.c=some (.lst (((r0.map (·.1)).map cW) ++ [cW c])):=by rw[hq.co,e1];simp
 refine⟨_,rfl,A.o,A.d,qf A,_,rfl,hq.ob,nZ,.inl ⟨_,_,hc,DX _ _,_,rfl,A.o,A.d,qf A,_,rfl,hq.ob,n5,_,rfl,mU t1.at_ hp1 ⟨_,rfl,fU hp2,⟨_,_,hp2,_,rfl,.inl ⟨_,bB,_,rfl,?_⟩⟩⟩⟩⟩
 have t2:=t1.wr (ws:=ys.map jE) hp1
 cases ys with
 | nil=>
  refine bV (fun _=>?_) fun h=>nomatch (show true=false from h)
  have hm1:M1 A.c=some (.lst (((r0.map (·.1)).map cW) ++ [cW c])):=by rw[m1.co,e1];simp
  have m2:=m1.costs (cs':=r0.map (·.1))
  have t3:=t2.lift (p:=A.c) (o:=.lst ((r0.map (·.1)).map cW)) (.inr ⟨_,hm1⟩)
  have t4:=t3.del (k:=c) HI
  refine⟨_,rfl,A.o,A.d,qf A,_,rfl,t2.sub _ _ m1.ob,nZ,fU (t2.sub _ _ hm1),_,_,t2.sub _ _ hm1,_,rfl,A.o,A.d,qf A,_,rfl,t3.sub _ _ m2.ob,n5,qF t3.at_,_,rfl,_,cK c,_,t3.at_,rfl,hp1,?_⟩
  refine⟨_,rfl,_,rfl,z2,_,Sub.refl _,r _ ⟨hf',_,_,?_,t4.same (fun j=>?_),?_⟩⟩
  ·rw[e2];exact m2
  ·show(aH q' j).map _=_
   rw[e2,if_pos (by rfl:([]:List (Nat×List Int)).isEmpty=true)]
   by_cases hj:c=j
   ·subst hj;rw[if_pos rfl,tK hnl];rfl
   ·rw[if_neg hj,if_neg hj]
    show _=(aH q j).map _
    rw[e1,tM hnl,if_neg hj]
  ·have h1:=HH (kvs:=kvs) (k:=cK c) (by rw[hp1];rfl)
   rw[e1,Ao,Cd] at l1
   rw[e2,if_pos (by rfl:([]:List (Nat×List Int)).isEmpty=true)];lia
 | cons y ys=>
  refine bV (fun h=>?_) fun _=>?_
  ·have h:=of_decide_eq_true (show decide (((Lq jE (y :: ys)).length:Int)=0)=true from h)
   rw[Ay,Bn] at h
   lia
  refine⟨_,rfl,_,rfl,z2,_,Sub.refl _,r _ ⟨hf',_,_,?_,t2.same (fun j=>?_),?_⟩⟩
  ·rw[e2,if_neg (by simp)];rw[e1] at m1;simpa using m1
  ·show(aH q' j).map _=_
   rw[e2,if_neg (by simp),tM hnl]
   by_cases hj:c=j
   ·rw[if_pos hj,if_pos hj];rfl
   ·rw[if_neg hj,if_neg hj]
    show _=(aH q j).map _
    rw[e1,tM hnl,if_neg hj]
  ·rw[e1] at l1;rw[e2,if_neg (by simp)];simpa using l1
def tP:bK:=fun ws M R=>∃ z g:Str,ws=[.str z,.str g]/\z.length<=1000/\R (.bl (kC z g)) M
def xX:bK:=fun ws M R=>∃ z:Str,ws=[.str z]/\z.length<=1000/\R (.bl (jQ z)) M
def n6:bK:=fun ws M R=>∃ rs:List aW,ws=[.rl (rs.map cY)]/\rs.length<=100/\bA ((namesOf rs).map W.str) M R
def xY:bK:=fun ws M R=>∃ (r:aW) (rs:List aW),ws=[.rl ((r :: rs).map cY)]/\R (.str r.name) M
def xZ:bK:=fun ws M R=>∃ (r:aW) (ns:List Str),ws=[cY r,.rl (ns.map W.str)]/\0<=r.cost/\(∀ t∈r.parts,t.length<=1000/\(jQ t=true->t∈ns))/\R .non M
def yA:bK:=fun ws M R=>∃ rs:List aW,ws=[.rl (rs.map cY)]/\xE rs/\bA (rs.map cY) M R
abbrev XX:List Str:=["text","signs"]
def XY:aJ:=
   (bW (pI (aD (rEq true) (aA 0) (vC (.str ""))) (bT FO (aB (dB (fH (d8 e6 (aA 0)) (bP 0) iO (aD (rIn false) (aA 0) (aA 1)) [none,some 1])) aF))))
abbrev XZ:List Str:=["part","pieces","right_end"]
def X0:aJ:=
   (bE 1 (eE "str" F9 (aA 0) (aB (vC (.str "_")) aF)))
def X1:aJ:=
   (bE 2 (EX (aD (rEq false) (aD aN (aA 1) (vC (.int 1))) (vC (.str ""))) (bQ tP (aB (aD aN (aA 1) (vC (.int 2))) (aB (vC (.str "0123456789")) aF)))))
def HS:aJ:=
   (bW (pI (aA 2) (bQ tP (aB (aD aN (aA 1) (vC (.int 0))) (aB (vC (.str "ABCDEFGHIJKLMNOPQRSTUVWXYZ")) aF)))))
def X2:aJ:=(aS X0 (aS X1 HS))
abbrev X3:List Str:=["grammar","found","rule"]
def X4:aJ:=
   (bE 1 FP)
def X5:aJ:=
   (jY (vC (.bl true)) (kP (aA 1) (aD aN (aA 2) (vC (.int 0)))))
def X6:aJ:=
   (eV (d8 e6 (aA 0)) (bP 2) X5)
def X7:aJ:=
   (bW (bT sE (aB (aA 1) aF)))
def X8:aJ:=(aS X4 (aS X6 X7))
abbrev X9:List Str:=["grammar"]
def YA:aJ:=
   (bW (aD aN (aD aN (aA 0) (vC (.int 0))) (vC (.int 0))))
abbrev YB:List Str:=["rule","known","part"]
def YC:aJ:=
   (aS (dD (cD (aD lH (aD aN (aA 0) (vC (.int 2))) (vC (.int 0))))
    wU
    eL)
   (eV (d8 e6 (aD aN (aA 0) (vC (.int 1)))) (bP 2)
    (dD (rW (fQ (bQ xX (aB (aA 2) aF))) (cD (aD (rIn true) (aA 2) (aA 1))))
    wU
    eL)))
abbrev YD:List Str:=["rules","known","rule"]
def YE:aJ:=
   (dD (cD (aD (rEq false) (bT cX (aB (aA 0) aF)) (vC (.int 0))))
    wU
    eL)
def YF:aJ:=
   (bE 1 (dB (bQ n6 (aB (aA 0) aF))))
def YG:aJ:=
   (eA (bQ xZ (aB (aA 2) (aB (aA 1) aF))))
def YH:aJ:=
   (eV (d8 e6 (aA 0)) (bP 2) YG)
def YI:aJ:=
   (bW (bT sE (aB (aA 0) aF)))
def YJ:aJ:=(aS YE (aS YF (aS YH YI)))
theorem YK:∀ ws M R,tP ws M R->ws.length=2:=by rintro ws M R ⟨_,_,rfl,_⟩;rfl
theorem YL:∀ ws M R,xX ws M R->ws.length=1:=by rintro ws M R ⟨_,rfl,_⟩;rfl
theorem YM:∀ ws M R,n6 ws M R->ws.length=1:=by rintro ws M R ⟨_,rfl,_⟩;rfl
theorem YN:∀ ws M R,xY ws M R->ws.length=1:=by rintro ws M R ⟨_,_,rfl,_⟩;rfl
theorem YO:∀ ws M R,xZ ws M R->ws.length=2:=by rintro ws M R ⟨_,_,rfl,_⟩;rfl
theorem YQ:∀ ws M R,yA ws M R->ws.length=1:=by rintro ws M R ⟨_,rfl,_⟩;rfl
theorem YR(c:Nat)(g:Str):occ ⟨#[c]⟩ g=decide (c∈cs g):=StrLaws.found_one g c
theorem mV{b:Bool}{P Q:Prop}(h1:b=true->P)(h2:b=false->Q):if b=true then P else Q:=by cases b;exact h2 rfl;exact h1 rfl
theorem YS{P Q:Prop}(h:P):if true=true then P else Q:=h
theorem YT{ws:List W}{M:Mm}{R:K3}(h:tP ws M R):XY (bU R) (bX XX ws) M:=by
 obtain⟨z,g,rfl,hz,r⟩:=h
 have em:kC z g=(!decide (z = "") && (cs z).all fun c=>decide (c∈cs g)):=by rw[<-rZ];rfl
 refine⟨_,rfl,_,rfl,mV (fun hb=>⟨_,rfl,sO (rest:=[some (.str g)]) (fun w=>match w with | .str x=>.bl (occ x g) | _=>.non) (dX (by rw[Ab];exact Bc (Fp (RT z)) (Bc hz (by decide)))) (fun _ _=>trivial) (fun w hw M' C sb h1=>?_) (bA.frz ⟨(cs z).map fun c=>decide (c∈cs g),?_,_,Sub.refl _,?_⟩)⟩) fun hb=>⟨_,Sub.refl _,?_⟩⟩
 ·obtain⟨c,_,rfl⟩:=Az.mp hw
  exact⟨_,rfl,_,rfl,h1⟩
 ·rw[em,show(!decide (z = ""))=false from hb,Bool.false_and] at r
  exact r
 ·unfold bools
  rw[Dl,Dl]
  exact Ko fun c _=>congrArg W.bl (YR c g)
 ·rw[em,show(!decide (z = ""))=true from hb,Bool.true_and] at r
  rw[List.all_map];exact r
theorem YU(z:Str):(Cm z "_").1.length<=z.length/\(Cm z "_").2.2.length<=z.length:=by
 have:=fact_partition z "_"
 exact⟨this.1,this.2.2⟩
theorem YV(z:Str):jQ z=((decide ((Cm z "_").2.1 = "") || kC (Cm z "_").2.2 EH) && kC (Cm z "_").1 lD):=by
 unfold jQ;rw[rZ]
theorem YW{ws:List W}{M:Mm}{R:K3}(h:xX ws M R):X2 (bU R) (bX XZ ws) M:=by
 obtain⟨z,rfl,hz,r⟩:=h
 obtain⟨h1,h3⟩:=YU z
 rw[YV z] at r
 have go:∀ {b:Bool} {M:Mm},R (.bl (b && kC (Cm z "_").1 lD)) M->HS (bU R) [some (.str z),some (.tup [.str (Cm z "_").1,.str (Cm z "_").2.1,.str (Cm z "_").2.2]),some (.bl b)] M:=fun {b M} r=>⟨_,rfl,_,rfl,mV (fun hb=>⟨_,rfl,_,rfl,_,_,rfl,Bc h1 hz,_,Sub.refl _,by rw[hb] at r;exact r⟩) fun hb=>⟨_,Sub.refl _,by rw[hb] at r;exact r⟩⟩
 exact⟨_,rfl,rfl,by decide +kernel,Bc hz (by decide),_,rfl,_,rfl,_,rfl,mV (fun hb=>go (by rw[show decide ((Cm z "_").2.1 = "")=true from hb] at r;exact r)) fun hb=>⟨_,rfl,_,rfl,_,_,rfl,Bc h3 hz,go (by rw[show decide ((Cm z "_").2.1 = "")=false from hb] at r;exact r)⟩⟩
def fJ(t:Str):aE×W:=(Sum.inr t,.bl true)
theorem HU(acc:List Str)(t:Str):cC (acc.map fJ) (Sum.inr t:aE) (.bl true)=(hV acc t).map fJ:=by
 unfold cC hV
 have e:((acc.map fJ).any fun kv=>decide (kv.1=Sum.inr t))=decide (t∈acc):=by
  rw[List.any_map,Eu]
  simp[fJ,Ml]
 rw[e]
 by_cases h:t∈acc
 ·rw[if_pos (decide_eq_true h),if_pos h,Dl]
  refine Ko fun u hu=>?_
  simp[fJ,Ml]
 ·rw[if_neg (by simpa using h),if_neg h,Bi];rfl
theorem lU{ws:List W}{M:Mm}{R:List W->(Mm->Prop)->Mm->Prop}(h:R ws (fun _=>True) M):e6 (.rl ws) M R:=h
theorem YX{ws:List W}{M:Mm}{R:K3}(h:n6 ws M R):X8 (bU R) (bX X3 ws) M:=by
 obtain⟨rs,rfl,hl,r⟩:=h
 refine fun p hp=>⟨_,rfl,lU (eN (fun i τ M'=>∃ o,τ=[some (.rl (rs.map cY)),some (.ref p),o]/\M'=put M p (.dK ((namesOf (rs.take i)).map fJ))) ⟨_,rfl,rfl⟩ (fun _ _ _ _ _=>trivial) ?_ ?_)⟩
 ·rintro i w τ M' hw ⟨o,rfl,rfl⟩
  rw[Av] at hw
  obtain⟨q,hq,rfl⟩:=Bg.mp hw
  have hi:i < rs.length:=(Ai.mp hq).1
  have e:namesOf (rs.take (i + 1))=hV (namesOf (rs.take i)) q.name:=by
   rw[Du,hq]
   unfold namesOf p6
   simp
  have hlen:(namesOf (rs.take i)).length<=i:=by
   have:=sX ((rs.take i).map aW.name) []
   unfold namesOf p6
   simp at this
   simp;lia
  refine⟨_,rfl,_,rfl,_,rfl,U4 bB (by rw[Ab];exact fS (by lia)) ⟨_,Sub.refl _,_,rfl,?_⟩⟩
  rw[gP,HU,e]
 ·rintro τ M' ⟨o,rfl,rfl⟩
  rw[Ab,De]
  refine⟨_,rfl,.inr ⟨_,bB,fun q hq=>?_⟩⟩
  have hpq:q≠p:=fun e=>by subst e;rw[bB] at hq;cases hq
  rw[aT hpq] at hq
  refine⟨_,?_,r q hq⟩
  rw[Dl]
  exact Sub.put (Sub.new hp)
theorem YY{ws:List W}{M:Mm}{R:K3}(h:xY ws M R):YA (bU R) (bX X9 ws) M:=by
 obtain⟨q,rs,rfl,r⟩:=h
 exact⟨_,rfl,_,iE (j:=0) rfl,_,rfl,_,Sub.refl _,r⟩
theorem HV{t:Str}{ts:List Str}:inW (.str t) (ts.map W.str)=decide (t∈ts):=by
 unfold inW
 rw[List.any_map,Eu,Ij,decide_eq_true_eq]
 exact⟨fun⟨x,h,e⟩=>eq_of_beq (show(x == t)=true from e) ▸ h,fun h=>⟨t,h,beq_self_eq_true t⟩⟩
theorem HW(ts:List Str):(ts.map W.str).all fF=true:=by
 rw[List.all_map,Jy];intro t _;rfl
theorem YZ{ws:List W}{M:Mm}{R:K3}(h:xZ ws M R):YC (bU R) (bX YB ws) M:=by
 obtain⟨q,ns,rfl,hc,hp,r⟩:=h
 refine⟨_,rfl,_,rfl,_,rfl,mV (fun hb=>absurd (of_decide_eq_true hb) (Int.not_lt.mpr hc)) fun _=>⟨_,rfl,_,rfl,?_⟩⟩
 refine eN (ws:=q.parts.map W.str) (fun i τ M'=>∃ o,τ=[some (cY q),some (.rl (ns.map W.str)),o]/\M'=M) ⟨_,rfl,rfl⟩ (fun _ _ _ _ _=>trivial) ?_ ?_
 ·rintro i w τ M' hw ⟨o,rfl,rfl⟩
  obtain⟨t,ht,rfl⟩:=Az.mp (An hw)
  obtain⟨h1,h2⟩:=hp t ht
  refine⟨_,rfl,t,rfl,h1,mV (fun hb=>⟨_,rfl,_,rfl,rfl,HW ns,_,rfl,mV (fun hb2=>?_) fun _=>⟨_,Sub.refl _,_,rfl,rfl⟩⟩) fun _=>⟨_,Sub.refl _,_,rfl,rfl⟩⟩
  rw[show(!inW (.str t) (ns.map W.str))=false by rw[HV,decide_eq_true (h2 hb)];rfl] at hb2
  cases hb2
 ·rintro τ M' ⟨o,rfl,rfl⟩
  exact⟨_,Sub.refl _,r⟩
theorem Y0{ws:List W}{M:Mm}{R:K3}(h:yA ws M R):YJ (bU R) (bX YD ws) M:=by
 obtain⟨rs,rfl,g,r⟩:=h
 refine⟨_,rfl,_,rfl,mV (fun hb=>?_) fun _=>⟨_,rfl,rs,rfl,by have:=g.few;lia,bA.frz ⟨_,rfl,lU ?_⟩⟩⟩
 ·have h:=of_decide_eq_true hb
  rw[Ab] at h
  exact g.ne (Jj.mp (Int.ofNat.inj h))
 refine eN (fun i τ M'=>∃ o,τ=[some (.rl (rs.map cY)),some (.rl ((namesOf rs).map W.str)),o]/\M'=M) ⟨_,rfl,rfl⟩ (fun _ _ _ _ _=>trivial) ?_ ?_
 ·rintro i w τ M' hw ⟨o,rfl,rfl⟩
  obtain⟨t,ht,rfl⟩:=Az.mp (An hw)
  obtain⟨h1,h2⟩:=V1 g ht
  exact⟨_,rfl,_,rfl,t,_,rfl,h1,h2,_,Sub.refl _,_,rfl,rfl⟩
 ·rintro τ M' ⟨o,rfl,rfl⟩
  exact⟨_,rfl,fun q hq=>⟨_,Sub.refl _,r q hq⟩⟩
def eK(k:Str×Int):List aE:=[Sum.inr k.1,Sum.inl k.2]
def iR(z:Int×aK):W:=.tup [.int z.1,cW z.2]
def iS(y:bZ):W:=.tup [.int y.1,fT y.2.1,cW y.2.2]
def j5(k:K4):List aE:=[Sum.inl k.1,Sum.inl k.2.1,Sum.inl k.2.2.1,Sum.inl k.2.2.2]
def fK(f:aY):List aE:=[Sum.inr f.1,Sum.inl f.2.1,Sum.inl f.2.2]
def f6(e:aK×Nat×List Int):W:=.tup [cW e.1,.int e.2.1,fT e.2.2]
theorem HX:∀ a b:Str×Int,eK a=eK b->a=b:=fun a b h=>by
 unfold eK at h
 simp only[Dw,Kx,Sum.inr.injEq,and_true] at h
 exact Mp h.1 h.2
theorem tQ:∀ a b:K4,j5 a=j5 b->a=b:=fun a b h=>by
 unfold j5 at h
 simp only[Dw,Kx,and_true,Int.natCast_inj] at h
 obtain⟨a1,a2,a3,a4⟩:=a
 obtain⟨b1,b2,b3,b4⟩:=b
 simp only at h
 obtain⟨h1,h2,h3,h4⟩:=h
 rw[h1,h2,h3,h4]
theorem mX:∀ a b:aY,fK a=fK b->a=b:=fun a b h=>by
 unfold fK at h
 simp only[Dw,Kx,Sum.inr.injEq,and_true] at h
 obtain⟨a1,a2,a3⟩:=a
 obtain⟨b1,b2,b3⟩:=b
 simp only at h
 obtain⟨h1,h2,h3⟩:=h
 rw[h1,h2,h3]
section
variable {κ β:Type}[DecidableEq κ]{kk:κ->List aE}{f:β->W}
abbrev d6(kk:κ->List aE)(f:β->W)(t:List (κ×β)):List (List aE×W):=t.map fun e=>(kk e.1,f e.2)
theorem lV(hkk:∀ a b,kk a=kk b->a=b)(t:List (κ×β))(k:κ):bD (d6 kk f t) (kk k)=(aH t k).map f:=by
 induction t with
 | nil=>rfl
 | cons e t ih=>
  show bD ((kk e.1,f e.2) :: d6 kk f t) (kk k)=_
  rw[mT,dG,ih]
  by_cases h:e.1=k
  ·rw[if_pos (by rw[h]),if_pos h];rfl
  ·rw[if_neg (fun z=>h (hkk _ _ z)),if_neg h]
theorem yB(hkk:∀ a b,kk a=kk b->a=b)(t:List (κ×β))(k:κ)(v:β):cC (d6 kk f t) (kk k) (f v)=d6 kk f (c8 t k v):=by
 unfold cC c8
 rw[show((d6 kk f t).any fun kv=>decide (kv.1=kk k))=(bD (d6 kk f t) (kk k)).isSome from lT _ _,lV hkk,lT]
 cases aH t k with
 | none=>simp
 | some w=>
  simp only[Kf,Option.isSome_some,if_true,Dl]
  apply Ko
  intro e _
  simp only[Ml]
  by_cases h:e.1=k
  ·rw[if_pos (by rw[h]),if_pos h]
  ·rw[if_neg (fun z=>h (hkk _ _ z)),if_neg h]
end
structure Env where
 rs:List aW
 own:List (aE×W)
 stp:List (List aE×W)
structure Ad where
 s:Addr
 d:Addr
 Q:Aq
 r:Addr
 b:Addr
 e:Addr
 g:Addr
def sf(E:Env)(A:Ad):List (Str×W):=[("grammar",(cP E.rs)),("own",(.dk E.own)),("steps",(.dt E.stp)),("queue",(.ref A.Q.o)),("reached",(.ref A.r)),("best",(.ref A.b)),("ends",(.ref A.e)),("begun",(.ref A.g))]
theorem HY{E:Env}{A:Ad}:Cg ("grammar" : Str) (sf E A)=some (cP E.rs):=by kernel_rfl
theorem Y1{E:Env}{A:Ad}:Cg ("own" : Str) (sf E A)=some (W.dk E.own):=by kernel_rfl
theorem Y2{E:Env}{A:Ad}:Cg ("steps" : Str) (sf E A)=some (W.dt E.stp):=by kernel_rfl
theorem yC{E:Env}{A:Ad}:Cg ("queue" : Str) (sf E A)=some (W.ref A.Q.o):=by kernel_rfl
theorem tR{E:Env}{A:Ad}:Cg ("reached" : Str) (sf E A)=some (W.ref A.r):=by kernel_rfl
theorem yD{E:Env}{A:Ad}:Cg ("best" : Str) (sf E A)=some (W.ref A.b):=by kernel_rfl
theorem HZ{E:Env}{A:Ad}:Cg ("ends" : Str) (sf E A)=some (W.ref A.e):=by kernel_rfl
theorem IA{E:Env}{A:Ad}:Cg ("begun" : Str) (sf E A)=some (W.ref A.g):=by kernel_rfl
theorem tS{E:Env}{A:Ad}:Cg ("reach" : Str) (sf E A)=none:=by kernel_rfl
theorem Y3{E:Env}{A:Ad}:Cg ("take_next" : Str) (sf E A)=none:=by kernel_rfl
theorem Y4{E:Env}{A:Ad}:Cg ("step_by_name" : Str) (sf E A)=none:=by kernel_rfl
theorem Y5{E:Env}{A:Ad}:Cg ("settle" : Str) (sf E A)=none:=by kernel_rfl
structure Mn(C:Cc)(E:Env)(M0 M:Mm)(A:Ad)(rc:List (K4×aK))(bs:bR):Prop where
 sub:L3.Sub M0 M
 ns:M0 A.s=none
 nr:M0 A.r=none
 nb:M0 A.b=none
 sr:A.s≠A.r
 sb:A.s≠A.b
 rb:A.r≠A.b
 os:M A.s=some (.ins C.s A.d (sf E A))
 or:M A.r=some (.dT (d6 j5 cW rc))
 ob:M A.b=some (.dT (d6 fK f6 bs))
abbrev eG(t:List ((Str×Int)×List (Int×aK))):Str×Int->Option (List W):=fun k=>(aH t k).map fun xs=>xs.map iR
abbrev gG(t:List ((Str×Int)×List bZ)):Str×Int->Option (List W):=fun k=>(aH t k).map fun xs=>xs.map iS
def Kept(M:Mm):Option (Addr×List W)->Prop
 | none=>True
 | some x=>M x.1=some (.lst x.2)
structure SK(C:Cc)(E:Env)(M0 M:Mm)(A:Ad)(st:SS)(kp:Option (Addr×List W)):Prop where
 ex:∃ M1 M2 M3 e g,Mn C E M0 M1 A st.reached st.best/\dZ eK M1 M2 A.e e (eG st.ends)/\dZ eK M2 M3 A.g g (gG st.begun)/\QR C M3 M A.Q st.q/\e.length<=st.ends.length/\g.length<=st.begun.length/\Kept M3 kp
abbrev SR(C:Cc)(E:Env)(M0 M:Mm)(A:Ad)(st:SS):Prop:=SK C E M0 M A st none
section
variable {C:Cc}{E:Env}{M0 M:Mm}{A:Ad}{st:SS}{kp:Option (Addr×List W)}
theorem SK.os(h:SK C E M0 M A st kp):M A.s=some (.ins C.s A.d (sf E A)):=by
 obtain⟨M1,M2,M3,e,g,h1,h2,h3,h4,_⟩:=h.ex
 exact h4.sub _ _ (h3.sub _ _ (h2.sub _ _ h1.os))
theorem SK.or(h:SK C E M0 M A st kp):M A.r=some (.dT (d6 j5 cW st.reached)):=by
 obtain⟨M1,M2,M3,e,g,h1,h2,h3,h4,_⟩:=h.ex
 exact h4.sub _ _ (h3.sub _ _ (h2.sub _ _ h1.or))
theorem SK.ob(h:SK C E M0 M A st kp):M A.b=some (.dT (d6 fK f6 st.best)):=by
 obtain⟨M1,M2,M3,e,g,h1,h2,h3,h4,_⟩:=h.ex
 exact h4.sub _ _ (h3.sub _ _ (h2.sub _ _ h1.ob))
theorem SK.fall(h:SK C E M0 M A st kp):gJ st.q:=by
 obtain⟨M1,M2,M3,e,g,h1,h2,h3,h4,_⟩:=h.ex
 exact h4.fall
theorem SK.free(h:SK C E M0 M A st kp):SR C E M0 M A st:=by
 obtain⟨M1,M2,M3,e,g,h1,h2,h3,h4,h5,h6,_⟩:=h.ex
 exact⟨M1,M2,M3,e,g,h1,h2,h3,h4,h5,h6,trivial⟩
theorem SK.kept{p:Addr}{ws:List W}(h:SK C E M0 M A st (some (p,ws))):M p=some (.lst ws):=by
 obtain⟨M1,M2,M3,e,g,h1,h2,h3,h4,h5,h6,h7⟩:=h.ex
 exact h4.sub _ _ h7
theorem Mn.rput{M1:Mm}{rc:List (K4×aK)}{bs:bR}(h:Mn C E M0 M1 A rc bs)(rc':List (K4×aK)):Mn C E M0 (put M1 A.r (.dT (d6 j5 cW rc'))) A rc' bs:=
 ⟨gK h.sub h.nr,h.ns,h.nr,h.nb,h.sr,h.sb,h.rb,by rw[aT h.sr];exact h.os,bB,by rw[aT (Bp h.rb)];exact h.ob⟩
theorem Mn.bput{M1:Mm}{rc:List (K4×aK)}{bs:bR}(h:Mn C E M0 M1 A rc bs)(bs':bR):Mn C E M0 (put M1 A.b (.dT (d6 fK f6 bs'))) A rc bs':=
 ⟨gK h.sub h.nb,h.ns,h.nr,h.nb,h.sr,h.sb,h.rb,by rw[aT h.sb];exact h.os,by rw[aT h.rb];exact h.or,bB⟩
theorem SK.rput(h:SK C E M0 M A st kp)(rc':List (K4×aK)):SK C E M0 (put M A.r (.dT (d6 j5 cW rc'))) A {st with reached:=rc'} kp:=by
 obtain⟨M1,M2,M3,e,g,h1,h2,h3,h4,h5,h6,h7⟩:=h.ex
 have k2:=h2.sub _ _ h1.or
 have k3:=h3.sub _ _ k2
 refine⟨_,_,_,e,g,h1.rput rc',h2.lift (.inr ⟨_,h1.or⟩),h3.lift (.inr ⟨_,k2⟩),h4.lift (.inr ⟨_,k3⟩),h5,h6,?_⟩
 cases kp with
 | none=>trivial
 | some x=>
  have h7:M3 x.1=some (.lst x.2):=h7
  show put M3 A.r _ x.1=some (.lst x.2)
  rw[aT (fun z=>by rw[z,k3] at h7;cases h7)];exact h7
theorem SK.bput(h:SR C E M0 M A st)(bs':bR):SR C E M0 (put M A.b (.dT (d6 fK f6 bs'))) A {st with best:=bs'}:=by
 obtain⟨M1,M2,M3,e,g,h1,h2,h3,h4,h5,h6,h7⟩:=h.ex
 have k2:=h2.sub _ _ h1.ob
 have k3:=h3.sub _ _ k2
 exact⟨_,_,_,e,g,h1.bput bs',h2.lift (.inr ⟨_,h1.ob⟩),h3.lift (.inr ⟨_,k2⟩),h4.lift (.inr ⟨_,k3⟩),h5,h6,trivial⟩
theorem SK.que(h:SK C E M0 M A st kp):∃ M3,QR C M3 M A.Q st.q/\∀ M' q',QR C M3 M' A.Q q'->SK C E M0 M' A {st with q:=q'} kp:=by
 obtain⟨M1,M2,M3,e,g,h1,h2,h3,h4,h5,h6,h7⟩:=h.ex
 exact⟨M3,h4,fun M' q' hq=>⟨M1,M2,M3,e,g,h1,h2,h3,hq,h5,h6,h7⟩⟩
theorem IC{κ β:Type}[DecidableEq κ]{t:List (κ×β)}{k:κ}{v:β}(h:(aH t k).isSome=true):(c8 t k v).length=t.length:=by
 unfold c8
 rw[lT,if_pos h,Ab]
theorem tT{κ β:Type}[DecidableEq κ]{t:List (κ×β)}{k:κ}{v:β}(h:aH t k=none):c8 t k v=t ++ [(k,v)]:=by
 unfold c8
 rw[lT,h,if_neg (by simp)]
theorem tU{γ:Type}(f:γ->W)(t:List ((Str×Int)×List γ))(k:Str×Int)(z:γ)(j:Str×Int):((aH (eO t k z) j).map fun xs=>xs.map f)=if k=j then some (((aH t k).getD []).map f ++ [f z]) else(aH t j).map fun xs=>xs.map f:=by
 unfold eO
 rw[kS]
 by_cases h:k=j
 ·rw[if_pos h,if_pos h,Kf,Bi];rfl
 ·rw[if_neg h,if_neg h]
theorem SK.epush(h:SR C E M0 M A st){k:Str×Int}{z:Int×aK}{R:K3}(hn:st.ends.length < 10000000)(hl:((aH st.ends k).getD []).length < 10000000)(r:∀ M',SR C E M0 M' A {st with ends:=eO st.ends k z}->R .non M') :
  ∃ kvs,M A.e=some (.dT kvs)/\kvs.length < Am/\∀ p,M p=none->put M p (.lst []) A.e=some (.dT kvs)/\(∀ w,bD kvs (eK k)=some w->kJ "list" w (put M p (.lst []))/\fG w [iR z] (put M p (.lst [])) R)/\
   (bD kvs (eK k)=none->kJ "list" (.ref p) (put (put M p (.lst [])) A.e (.dT (cC kvs (eK k) (.ref p))))/\fG (.ref p) [iR z] (put (put M p (.lst [])) A.e (.dT (cC kvs (eK k) (.ref p)))) R):=by
 obtain⟨M1,M2,M3,e,g,h1,h2,h3,h4,h5,h6,h7⟩:=h.ex
 have ha:M A.e=some (.dT e):=h4.sub _ _ (h3.sub _ _ h2.at_)
 refine⟨e,ha,fS (by lia),fun p hp=>⟨by rw[aT (fun z=>by rw[<-z,ha] at hp;cases hp)];exact ha,fun w hw=>?_,fun hw=>?_⟩⟩
 ·obtain⟨xs,hx⟩:∃ xs,aH st.ends k=some xs:=by
   cases q:aH st.ends k with
   | none=>have:=h2.non k (by show(aH _ _).map _=_;rw[q];rfl);rw[hw] at this;cases this
   | some xs=>exact⟨_,rfl⟩
  have hxw:eG st.ends k=some (xs.map iR):=by show(aH _ _).map _=_;rw[hx];rfl
  obtain⟨p',hp1,hp2⟩:=h2.has hxw
  rw[hw] at hp1;cases hp1
  have k3:=h3.sub _ _ hp2
  have h4':=h4.more (o:=.lst []) hp
  have k4:=h4'.sub _ _ k3
  rw[hx] at hl
  refine⟨fU k4,_,k4,fS (by rw[Ab];exact hl),r _ ⟨_,_,_,e,g,h1,(h2.wr (ws:=xs.map iR ++ [iR z]) hw).same fun j=>?_,h3.lift (.inr ⟨_,hp2⟩),h4'.lift (.inr ⟨_,k3⟩),?_,h6,trivial⟩⟩
  ·refine(tU _ _ k z j).trans ?_;rw[hx];rfl
  ·show _<=(c8 _ _ _).length
   rw[IC (by rw[hx];rfl)];exact h5
 ·have hx:aH st.ends k=none:=by
   cases q:aH st.ends k with
   | none=>rfl
   | some xs=>obtain⟨p',hp1,_⟩:=h2.has (k:=k) (ws:=xs.map iR) (by show(aH _ _).map _=_;rw[q];rfl);rw[hw] at hp1;cases hp1
  have hxw:eG st.ends k=none:=by show(aH _ _).map _=_;rw[hx];rfl
  have p3:=h4.sub.non hp
  have p2:=h3.sub.non p3
  have t2:=h2.add HX (ws:=[]) hxw p2
  have hpa:p≠A.e:=fun z=>by rw[z,ha] at hp;cases hp
  have t3:=(h3.lift (o:=.lst []) (.inl p3)).lift (p:=A.e) (o:=.dT (cC e (eK k) (.ref p))) (.inr ⟨.dT e,by rw[aT (Bp hpa)];exact h2.at_⟩)
  have t4:=(h4.lift (o:=.lst []) (.inl hp)).lift (p:=A.e) (o:=.dT (cC e (eK k) (.ref p))) (.inr ⟨.dT e,by rw[aT (Bp hpa)];exact h3.sub _ _ h2.at_⟩)
  have lp:bD (cC e (eK k) (.ref p)) (eK k)=some (.ref p):=by rw[nY,if_pos rfl]
  have g2:put (put M2 p (.lst [])) A.e (.dT (cC e (eK k) (.ref p))) p=some (.lst []):=by rw[aT hpa,bB]
  have k3:=t3.sub _ _ g2
  have k4:=t4.sub _ _ k3
  refine⟨fU k4,_,k4,fS (by simp),r _ ⟨_,_,_,_,g,h1,(t2.wr (ws:=[iR z]) lp).same fun j=>?_,t3.lift (.inr ⟨_,g2⟩),t4.lift (.inr ⟨_,k3⟩),?_,h6,trivial⟩⟩
  ·refine(tU _ _ k z j).trans ?_
   rw[hx]
   by_cases hj:k=j
   ·rw[if_pos hj,if_pos hj];rfl
   ·rw[if_neg hj,if_neg hj,if_neg hj]
  ·show _<=(c8 _ _ _).length
   rw[tT hx,Ao,Cd]
   have:=xP e (eK k) (W.ref p)
   lia
theorem SK.gpush(h:SR C E M0 M A st){k:Str×Int}{z:bZ}{R:K3}(hn:st.begun.length < 10000000)(hl:((aH st.begun k).getD []).length < 10000000)(r:∀ M',SR C E M0 M' A {st with begun:=eO st.begun k z}->R .non M') :
  ∃ kvs,M A.g=some (.dT kvs)/\kvs.length < Am/\∀ p,M p=none->put M p (.lst []) A.g=some (.dT kvs)/\(∀ w,bD kvs (eK k)=some w->kJ "list" w (put M p (.lst []))/\fG w [iS z] (put M p (.lst [])) R)/\
   (bD kvs (eK k)=none->kJ "list" (.ref p) (put (put M p (.lst [])) A.g (.dT (cC kvs (eK k) (.ref p))))/\fG (.ref p) [iS z] (put (put M p (.lst [])) A.g (.dT (cC kvs (eK k) (.ref p)))) R):=by
 obtain⟨M1,M2,M3,e,g,h1,h2,h3,h4,h5,h6,h7⟩:=h.ex
 have ha:M A.g=some (.dT g):=h4.sub _ _ h3.at_
 refine⟨g,ha,fS (by lia),fun p hp=>⟨by rw[aT (fun z=>by rw[<-z,ha] at hp;cases hp)];exact ha,fun w hw=>?_,fun hw=>?_⟩⟩
 ·obtain⟨xs,hx⟩:∃ xs,aH st.begun k=some xs:=by
   cases q:aH st.begun k with
   | none=>have:=h3.non k (by show(aH _ _).map _=_;rw[q];rfl);rw[hw] at this;cases this
   | some xs=>exact⟨_,rfl⟩
  have hxw:gG st.begun k=some (xs.map iS):=by show(aH _ _).map _=_;rw[hx];rfl
  obtain⟨p',hp1,hp2⟩:=h3.has hxw
  rw[hw] at hp1;cases hp1
  have h4':=h4.more (o:=.lst []) hp
  have k4:=h4'.sub _ _ hp2
  rw[hx] at hl
  refine⟨fU k4,_,k4,fS (by rw[Ab];exact hl),r _ ⟨_,_,_,e,g,h1,h2,(h3.wr (ws:=xs.map iS ++ [iS z]) hw).same fun j=>?_,h4'.lift (.inr ⟨_,hp2⟩),h5,?_,trivial⟩⟩
  ·refine(tU _ _ k z j).trans ?_;rw[hx];rfl
  ·show _<=(c8 _ _ _).length
   rw[IC (by rw[hx];rfl)];exact h6
 ·have hx:aH st.begun k=none:=by
   cases q:aH st.begun k with
   | none=>rfl
   | some xs=>obtain⟨p',hp1,_⟩:=h3.has (k:=k) (ws:=xs.map iS) (by show(aH _ _).map _=_;rw[q];rfl);rw[hw] at hp1;cases hp1
  have hxw:gG st.begun k=none:=by show(aH _ _).map _=_;rw[hx];rfl
  have p3:=h4.sub.non hp
  have t3:=h3.add HX (ws:=[]) hxw p3
  have hpa:p≠A.g:=fun z=>by rw[z,ha] at hp;cases hp
  have t4:=(h4.lift (o:=.lst []) (.inl hp)).lift (p:=A.g) (o:=.dT (cC g (eK k) (.ref p))) (.inr ⟨.dT g,by rw[aT (Bp hpa)];exact h3.at_⟩)
  have lp:bD (cC g (eK k) (.ref p)) (eK k)=some (.ref p):=by rw[nY,if_pos rfl]
  have g2:put (put M3 p (.lst [])) A.g (.dT (cC g (eK k) (.ref p))) p=some (.lst []):=by rw[aT hpa,bB]
  have k4:=t4.sub _ _ g2
  refine⟨fU k4,_,k4,fS (by simp),r _ ⟨_,_,_,e,_,h1,h2,(t3.wr (ws:=[iS z]) lp).same fun j=>?_,t4.lift (.inr ⟨_,g2⟩),h5,?_,trivial⟩⟩
  ·refine(tU _ _ k z j).trans ?_
   rw[hx]
   by_cases hj:k=j
   ·rw[if_pos hj,if_pos hj];rfl
   ·rw[if_neg hj,if_neg hj,if_neg hj]
  ·show _<=(c8 _ _ _).length
   rw[tT hx,Ao,Cd]
   have:=xP g (eK k) (W.ref p)
   lia
theorem SK.ends_at(h:SR C E M0 M A st)(k:Str×Int):∃ kvs,M A.e=some (.dT kvs)/\((bD kvs (eK k)=none/\aH st.ends k=none)\/∃ p xs,bD kvs (eK k)=some (.ref p)/\aH st.ends k=some xs/\SK C E M0 M A st (some (p,xs.map iR))):=by
 obtain⟨M1,M2,M3,e,g,h1,h2,h3,h4,h5,h6,h7⟩:=h.ex
 refine⟨e,h4.sub _ _ (h3.sub _ _ h2.at_),?_⟩
 cases q:aH st.ends k with
 | none=>exact .inl ⟨h2.non k (by show(aH _ _).map _=_;rw[q];rfl),rfl⟩
 | some xs=>
  obtain⟨p,hp1,hp2⟩:=h2.has (k:=k) (ws:=xs.map iR) (by show(aH _ _).map _=_;rw[q];rfl)
  exact .inr ⟨p,xs,hp1,rfl,M1,M2,M3,e,g,h1,h2,h3,h4,h5,h6,h3.sub _ _ hp2⟩
theorem SK.begun_at(h:SR C E M0 M A st)(k:Str×Int):∃ kvs,M A.g=some (.dT kvs)/\((bD kvs (eK k)=none/\aH st.begun k=none)\/∃ p xs,bD kvs (eK k)=some (.ref p)/\aH st.begun k=some xs/\SK C E M0 M A st (some (p,xs.map iS))):=by
 obtain⟨M1,M2,M3,e,g,h1,h2,h3,h4,h5,h6,h7⟩:=h.ex
 refine⟨g,h4.sub _ _ h3.at_,?_⟩
 cases q:aH st.begun k with
 | none=>exact .inl ⟨h3.non k (by show(aH _ _).map _=_;rw[q];rfl),rfl⟩
 | some xs=>
  obtain⟨p,hp1,hp2⟩:=h3.has (k:=k) (ws:=xs.map iS) (by show(aH _ _).map _=_;rw[q];rfl)
  exact .inr ⟨p,xs,hp1,rfl,M1,M2,M3,e,g,h1,h2,h3,h4,h5,h6,hp2⟩
theorem SK.eput(h:SR C E M0 M A st){nm:Str}{b:Int}{z:Int×aK}{R:K3}{τ:S3}{tk:aX}{t:cZ}(e0:τ[0]? = some (some (.ref A.s)))(ek:∀ M1 Q,Q (W.tup [.str nm,.int b]) M1->tk τ M1 Q)(et:∀ M1 Q,Q [iR z] M1->t τ M1 Q)(hn:st.ends.length < 10000000)(hl:((aH st.ends (nm,b)).getD []).length < 10000000)(r:∀ M',SR C E M0 M' A {st with ends:=eO st.ends (nm,b) z}->R .non M') :
  eE "list" fG (eE "dict" pZ (cT C.s (aA 0) "ends") (aB tk (aB (iJ aF) aF))) t τ M R:=by
 obtain⟨kvs,h1,h2,h3⟩:=h.epush hn hl r
 refine⟨_,e0,A.s,A.d,_,_,rfl,h.os,HZ,qF h1,ek _ _ ⟨Ci _,fun p hp=>?_⟩⟩
 obtain⟨h4,h5,h6⟩:=h3 p hp
 exact⟨kvs,eK (nm,b),h4,rfl,h2,fun w hw=>⟨(h5 w hw).1,et _ _ (h5 w hw).2⟩,fun hn=>⟨(h6 hn).1,et _ _ (h6 hn).2⟩⟩
theorem SK.gput(h:SR C E M0 M A st){nm:Str}{b:Int}{z:bZ}{R:K3}{τ:S3}{tk:aX}{t:cZ}(e0:τ[0]? = some (some (.ref A.s)))(ek:∀ M1 Q,Q (W.tup [.str nm,.int b]) M1->tk τ M1 Q)(et:∀ M1 Q,Q [iS z] M1->t τ M1 Q)(hn:st.begun.length < 10000000)(hl:((aH st.begun (nm,b)).getD []).length < 10000000)(r:∀ M',SR C E M0 M' A {st with begun:=eO st.begun (nm,b) z}->R .non M') :
  eE "list" fG (eE "dict" pZ (cT C.s (aA 0) "begun") (aB tk (aB (iJ aF) aF))) t τ M R:=by
 obtain⟨kvs,h1,h2,h3⟩:=h.gpush hn hl r
 refine⟨_,e0,A.s,A.d,_,_,rfl,h.os,IA,qF h1,ek _ _ ⟨Ci _,fun p hp=>?_⟩⟩
 obtain⟨h4,h5,h6⟩:=h3 p hp
 exact⟨kvs,eK (nm,b),h4,rfl,h2,fun w hw=>⟨(h5 w hw).1,et _ _ (h5 w hw).2⟩,fun hn=>⟨(h6 hn).1,et _ _ (h6 hn).2⟩⟩
end
def qG:bK:=fun ws M R=>∃ ts:List Str,ws=[.rl (ts.map W.str)]/\ts.length<=400/\R (.dk ((ts.foldl hV []).map fJ)) M
def ownOf(rs:List aW):List (aE×W):=((namesOf rs).foldl hV []).map fJ
def tV:bK:=fun ws M R=>∃ a b:aK,ws=[cW a,cW b]/\R (cW (dY a b)) M
structure Sm(st:SS)(k:Nat):Prop where
 q:(bC st.q).length + k < 10000000
 r:st.reached.length + k < 10000000
def n8(C:Cc):bK:=fun ws M R=>∃ (E:Env) (M0:Mm) (A:Ad) (st:SS) (n:Nat) (cut:List Int) (c:aK) (kp:Option (Addr×List W)),ws=[.ref A.s,.int n,fT cut,cW c]/\SK C E M0 M A st kp/\cut≠[]/\Sm st 1/\∀ M',SK C E M0 M' A (reach st n cut c) kp->R .non M'
def yE(C:Cc):bK:=fun ws M R=>∃ (E:Env) (M0:Mm) (A:Ad) (st:SS) (n:Nat) (cut:List Int) (c:aK) (part:Str),ws=[.ref A.s,.int n,fT cut,cW c,.tup [.str part,.int (cut.getLastD 0)]]/\SR C E M0 M A st/\cut≠[]/\cut.length < 1000/\Sm st ((aH st.ends (part,cut.getLastD 0)).getD []).length/\st.begun.length < 10000000/\((aH st.begun (part,cut.getLastD 0)).getD []).length < 10000000/\∀ M',SR C E M0 M' A (fA st n cut c part)->R .non M'
def yF(C:Cc):bK:=fun ws M R=>∃ (G:Sr) (E:Env) (M0:Mm) (A:Ad) (st:SS) (n:Nat) (cut:List Int) (c:aK),ws=[.ref A.s,.int n,fT cut,cW c]/\SR C E M0 M A st/\G.rs=E.rs/\n < E.rs.length/\cut≠[]/\(∀ key,∀ y∈(aH st.begun key).getD [],y.2.1.length < 1000/\y.2.1≠[])/\Sm st ((aH st.begun (cG G n,cut.headD 0)).getD []).length/\st.best.length < 10000000/\st.ends.length < 10000000/\((aH st.ends (cG G n,cut.headD 0)).getD []).length < 10000000/\∀ M',SR C E M0 M' A (settle G st n cut c)->R .non M'
structure ID(G:Sr)(E:Env):Prop where
 rs:G.rs=E.rs
 own:∀ t,(bD E.own (Sum.inr t:aE)).isSome=G.own t
 stp:∀ t p,(bD E.stp (eK (t,p))=none/\G.steps t p=[])\/bD E.stp (eK (t,p))=some (.rl ((G.steps t p).map fun z=>.tup [.int z.1,.int z.2]))
structure Rm(G:Sr)(st:SS):Prop where
 item:∀ c n cut q',gU st.q=some (c,(n,cut),q')->cut≠[]/\cut.length < 1000/\n < G.rs.length/\∃ d,aH st.reached (bM n cut)=some d
 bg:∀ key,∀ y∈(aH st.begun key).getD [],y.2.1.length < 1000/\y.2.1≠[]
 b:st.best.length < 10000000
 e:st.ends.length < 10000000
 g:st.begun.length < 10000000
 el:∀ key,((aH st.ends key).getD []).length < 10000000/\Sm st ((aH st.ends key).getD []).length
 gl:∀ key,((aH st.begun key).getD []).length < 10000000/\Sm st ((aH st.begun key).getD []).length
 sl:∀ t p,Sm st (G.steps t p).length
def yG(C:Cc):bK:=fun ws M R=>∃ (G:Sr) (E:Env) (M0:Mm) (A:Ad) (st:SS),ws=[.ref A.s]/\SR C E M0 M A st/\ID G E/\st.q≠[]/\Rm G st/\∀ M',SR C E M0 M' A (jC G st)->R .non M'
def yH(C:Cc):bK:=fun ws M R=>∃ (M0:Mm) (s dx:Addr) (rs:List aW) (stp:List (List aE×W)),ws=[.ref s,cP rs,.dt stp]/\rs.length<=100/\M=put M0 s (.ins C.s dx [])/\M0 s=none/\∀ M' (A:Ad),A.s=s->SR C ⟨rs,ownOf rs,stp⟩ M0 M' A fZ->R .non M'
def mY(G:Sr):Nat->SS
 | 0=>j4 G
 | n + 1=>jC G (mY G n)
def iT(G:Sr)(B:bR):Prop:=∃ (S I0:Nat) (st:SS) (P:List bZ) (cur:aK) (T:Nat),All G S I0 st P cur T/\st.q=[]/\st.best=B/\st=mY G T
def yI(C:Cc):bK:=fun ws M R=>∃ (G:Sr) (E:Env) (V:List Int) (L S:Nat),ws=[cP E.rs,.rl (G.places.map W.int),.dt E.stp,.rl ((Bu G.rs.length).map fun n=>.int (G.wt n))]/\E.rs.length<=100/\E.own=ownOf E.rs/\ID G E/\qA G/\tF G V G.rs.length L/\L < 1000/\G.places.length<=1000/\(∀ t p,(G.steps t p).length<=S)/\
 (jD G).length + G.rs.length * ((L + 1) * (V.length * V.length)) * (S + V.length) + G.rs.length * ((L + 1) * (V.length * V.length)) + V.length + S + 1 < 10000000/\∀ B,iT G B->iH (d6 fK f6 B) M R
abbrev Y6:List Str:=["things"]
def Y7:aJ:=
   (bW (bT GW (aB (dB (fH (d8 e6 (aA 0)) (bP 0) iO (cS (aB (aA 0) (aB (vC (.bl true)) aF))) [none])) aF)))
abbrev Y8:List Str:=["cost","other"]
def Y9:aJ:=
   (bW (cS (aB (aD cF (aD aN (aA 0) (vC (.int 0))) (aD aN (aA 1) (vC (.int 0)))) (aB (aD cF (aD aN (aA 0) (vC (.int 1))) (aD aN (aA 1) (vC (.int 1)))) aF))))
abbrev ZA:List Str:=["self","grammar","steps"]
def ZC(C:Cc):aJ:=
   (jA C.s (aA 0) "grammar" (aA 1))
def ZD(C:Cc):aJ:=
   (jA C.s (aA 0) "own" (bQ qG (aB (dB (bQ n6 (aB (aA 1) aF))) aF)))
def ZE(C:Cc):aJ:=
   (jA C.s (aA 0) "steps" (aA 2))
def IE(C:Cc):aJ:=
   (jA C.s (aA 0) "queue" (sS C.q (xS C) aF))
def ZF(C:Cc):aJ:=
   (jA C.s (aA 0) "reached" lM)
def ZG(C:Cc):aJ:=
   (jA C.s (aA 0) "best" lM)
def ZH(C:Cc):aJ:=
   (jA C.s (aA 0) "ends" lM)
def ZI(C:Cc):aJ:=
   (jA C.s (aA 0) "begun" lM)
def ZJ(C:Cc):aJ:=(aS (ZC C) (aS (ZD C) (aS (ZE C) (aS (IE C) (aS (ZF C) (aS (ZG C) (aS (ZH C) (ZI C))))))))
abbrev ZK:List Str:=["self","number","cut","cost","key"]
def ZL(C:Cc):aJ:=
   (aS (bE 4 (cS (aB (aA 1) (aB (bT cX (aB (aA 2) aF)) (aB (aD aN (aA 2) (vC (.int 0))) (aB (aD aN (aA 2) (kG kM (vC (.int 1)))) aF))))))
   (dD (jS (cD (aD (rIn true) (aA 4) (cT C.s (aA 0) "reached"))) (cD (aD xC (aA 3) (aD aN (cT C.s (aA 0) "reached") (aA 4)))))
    (aS (jY (aA 3) (kP (cT C.s (aA 0) "reached") (aA 4)))
   (eA (gT C.q "put" (tO C) (cT C.s (aA 0) "queue") (aB (aA 3) (aB (cS (aB (aA 1) (aB (aA 2) aF))) aF)))))
    eL))
abbrev ZM:List Str:=["self","taken","cost","number","cut","parts","end","price"]
def ZN(C:Cc):aJ:=
   (bE 1 (gT C.q "take" (xV C) (cT C.s (aA 0) "queue") aF))
def ZO(C:Cc):aJ:=
   (bE 2 (aD aN (aA 1) (vC (.int 0))))
def ZP(C:Cc):aJ:=
   (bE 3 (aD aN (aD aN (aA 1) (vC (.int 1))) (vC (.int 0))))
def ZQ(C:Cc):aJ:=
   (bE 4 (aD aN (aD aN (aA 1) (vC (.int 1))) (vC (.int 1))))
def ZR(C:Cc):aJ:=
   (dD (cD (aD xC (aD aN (cT C.s (aA 0) "reached") (cS (aB (aA 3) (aB (bT cX (aB (aA 4) aF)) (aB (aD aN (aA 4) (vC (.int 0))) (aB (aD aN (aA 4) (kG kM (vC (.int 1)))) aF)))))) (aA 2)))
    wJ
    eL)
def ZS(C:Cc):aJ:=
   (bE 5 (aD aN (aD aN (cT C.s (aA 0) "grammar") (aA 3)) (vC (.int 1))))
def ZT(C:Cc):aJ:=
   (dD (cD (aD E7 (bT cX (aB (aA 4) aF)) (bT cX (aB (aA 5) aF))))
    (eA (gT C.s "settle" (yF C) (aA 0) (aB (aA 3) (aB (aA 4) (aB (aA 2) aF)))))
    (dD (cD (aD (rIn false) (aD aN (aA 5) (aD nN (bT cX (aB (aA 4) aF)) (vC (.int 1)))) (cT C.s (aA 0) "own")))
    (eA (gT C.s "step_by_name" (yE C) (aA 0) (aB (aA 3) (aB (aA 4) (aB (aA 2) (aB (cS (aB (aD aN (aA 5) (aD nN (bT cX (aB (aA 4) aF)) (vC (.int 1)))) (aB (aD aN (aA 4) (kG kM (vC (.int 1)))) aF))) aF))))))
    (eV (d8 mM (eE "dict" sU (cT C.s (aA 0) "steps") (aB (cS (aB (aD aN (aA 5) (aD nN (bT cX (aB (aA 4) aF)) (vC (.int 1)))) (aB (aD aN (aA 4) (kG kM (vC (.int 1)))) aF))) (aB (eW aF) aF)))) (iN 2 (d9 (bP 6) (d9 (bP 7) iM)))
    (eA (gT C.s "reach" (n8 C) (aA 0) (aB (aA 3) (aB (aD cF (aA 4) (cS (aB (aA 6) aF))) (aB (cS (aB (aD cF (aD aN (aA 2) (vC (.int 0))) (aA 7)) (aB (aD aN (aA 2) (vC (.int 1))) aF))) aF))))))))
def ZU(C:Cc):aJ:=(aS (ZN C) (aS (ZO C) (aS (ZP C) (aS (ZQ C) (aS (ZR C) (aS (ZS C) (ZT C)))))))
abbrev ZV:List Str:=["self","number","cut","cost","key","end","more"]
def ZW(C:Cc):aJ:=
   (aS (eA (eE "list" fG (eE "dict" pZ (cT C.s (aA 0) "begun") (aB (aA 4) (aB (iJ aF) aF))) (aB (cS (aB (aA 1) (aB (aA 2) (aB (aA 3) aF)))) aF)))
   (eV (d8 mM (eE "dict" sU (cT C.s (aA 0) "ends") (aB (aA 4) (aB (eW aF) aF)))) (iN 2 (d9 (bP 5) (d9 (bP 6) iM)))
    (eA (gT C.s "reach" (n8 C) (aA 0) (aB (aA 1) (aB (aD cF (aA 2) (cS (aB (aA 5) aF))) (aB (bQ tV (aB (aA 3) (aB (aA 6) aF))) aF)))))))
abbrev ZX:List Str:=["self","number","cut","cost","key","fact","other","before","paid"]
def ZY(C:Cc):aJ:=
   (bE 4 (cS (aB (aD aN (aD aN (cT C.s (aA 0) "grammar") (aA 1)) (vC (.int 0))) (aB (aD aN (aA 2) (vC (.int 0))) aF))))
def ZZ(C:Cc):aJ:=
   (bE 5 (aD cF (aA 4) (cS (aB (aD aN (aA 2) (kG kM (vC (.int 1)))) aF))))
def Z0(C:Cc):aJ:=
   (dD (cD (aD (rIn false) (aA 5) (cT C.s (aA 0) "best")))
    wJ
    eL)
def Z1(C:Cc):aJ:=
   (jY (cS (aB (aA 3) (aB (aA 1) (aB (aA 2) aF)))) (kP (cT C.s (aA 0) "best") (aA 5)))
def Z2(C:Cc):aJ:=
   (eA (eE "list" fG (eE "dict" pZ (cT C.s (aA 0) "ends") (aB (aA 4) (aB (iJ aF) aF))) (aB (cS (aB (aD aN (aA 2) (kG kM (vC (.int 1)))) (aB (aA 3) aF))) aF)))
def Z3(C:Cc):aJ:=
   (eA (gT C.s "reach" (n8 C) (aA 0) (aB (aA 6) (aB (aD cF (aA 7) (cS (aB (aD aN (aA 2) (kG kM (vC (.int 1)))) aF))) (aB (bQ tV (aB (aA 8) (aB (aA 3) aF))) aF)))))
def Z4(C:Cc):aJ:=
   (eV (d8 mM (eE "dict" sU (cT C.s (aA 0) "begun") (aB (aA 4) (aB (eW aF) aF)))) (iN 3 (d9 (bP 6) (d9 (bP 7) (d9 (bP 8) iM)))) (Z3 C))
def Z5(C:Cc):aJ:=(aS (ZY C) (aS (ZZ C) (aS (Z0 C) (aS (Z1 C) (aS (Z2 C) (Z4 C))))))
abbrev Z6:List Str:=["grammar","places","steps","weights","search","number","place"]
def Z7(C:Cc):aJ:=
   (bE 4 (sS C.s (yH C) (aB (aA 0) (aB (aA 2) aF))))
def Z8(C:Cc):aJ:=
   (eV (d8 e6 (aA 1)) (bP 6)
    (eA (gT C.s "reach" (n8 C) (aA 4) (aB (aA 5) (aB (cS (aB (aA 6) aF)) (aB (cS (aB (aD aN (aA 3) (aA 5)) (aB (vC (.int 1)) aF))) aF))))))
def Z9(C:Cc):aJ:=
   (eV (mN (aB (bT cX (aB (aA 0) aF)) aF)) (bP 5) (Z8 C))
def zaa(C:Cc):aJ:=
   (eA (gT C.s "take_next" (yG C) (aA 4) aF))
def zab(C:Cc):aJ:=
   (pQ (iI (fQ (gT C.q "is_done" (xT C) (cT C.s (aA 4) "queue") aF))) (zaa C))
def zac(C:Cc):aJ:=
   (bW (cT C.s (aA 4) "best"))
def zad(C:Cc):aJ:=(aS (Z7 C) (aS (Z9 C) (aS (zab C) (zac C))))
theorem zae:∀ ws M R,qG ws M R->ws.length=1:=by rintro ws M R ⟨_,rfl,_⟩;rfl
theorem zaf:∀ ws M R,tV ws M R->ws.length=2:=by rintro ws M R ⟨_,_,rfl,_⟩;rfl
theorem zag{C:Cc}:∀ ws M R,n8 C ws M R->ws.length=4:=by rintro ws M R ⟨_,_,_,_,_,_,_,_,rfl,_⟩;rfl
theorem zah{C:Cc}:∀ ws M R,yE C ws M R->ws.length=5:=by rintro ws M R ⟨_,_,_,_,_,_,_,_,rfl,_⟩;rfl
theorem zai{C:Cc}:∀ ws M R,yF C ws M R->ws.length=4:=by rintro ws M R ⟨_,_,_,_,_,_,_,_,rfl,_⟩;rfl
theorem zaj{C:Cc}:∀ ws M R,yG C ws M R->ws.length=1:=by rintro ws M R ⟨_,_,_,_,_,rfl,_⟩;rfl
theorem zak{C:Cc}:∀ ws M R,yH C ws M R->ws.length=3:=by rintro ws M R ⟨_,_,_,_,_,rfl,_⟩;rfl
theorem zal{C:Cc}:∀ ws M R,yI C ws M R->ws.length=4:=by rintro ws M R ⟨_,_,_,_,_,rfl,_⟩;rfl
theorem IF:∀ (ts acc:List Str),sQ (acc.map fJ) (ts.map fJ)=(ts.foldl hV acc).map fJ
 | [],acc=>rfl
 | t :: r,acc=>by
  show sQ (cC (acc.map fJ) (Sum.inr t) (.bl true)) (r.map fJ)=_
  rw[HU,IF,Fd]
theorem zam{ws:List W}{M:Mm}{R:K3}(h:qG ws M R):Y7 (bU R) (bX Y6 ws) M:=by
 obtain⟨ts,rfl,hl,r⟩:=h
 have l:(ts.map W.str).length<=Am:=dX (by rw[Ab];exact Bc hl (by decide))
 refine⟨_,rfl,lU (sO (rest:=[]) (fun w=>.tup [w,.bl true]) l (fun _ _=>trivial) (fun w hw M' C sb h1=>⟨_,rfl,z2,h1⟩) (bA.frz ⟨ts.map fJ,?_,by rw[Ab];exact l,_,Sub.refl _,?_⟩))⟩
 ·unfold sR
  rw[Dl,Dl];rfl
 ·rw[show([]:List (aE×W))=([]:List Str).map fJ from rfl,IF]
  exact r
theorem zan{ws:List W}{M:Mm}{R:K3}(h:tV ws M R):Y9 (bU R) (bX Y8 ws) M:=by
 obtain⟨a,b,rfl,r⟩:=h
 exact⟨_,rfl,_,rfl,_,rfl,_,rfl,_,rfl,_,rfl,_,rfl,_,rfl,z2,_,Sub.refl _,r⟩
variable {α:Type}
theorem yJ{cut:List Int}(h:cut≠[]):cB (cut.map W.int) 0=some (.int (cut.headD 0)):=by
 cases cut with
 | nil=>exact absurd rfl h
 | cons a t=>exact U3 _ _
theorem mZ{cut:List Int}(h:cut≠[]):cB (cut.map W.int) (-1)=some (.int (cut.getLastD 0)):=by
 rcases Fi cut with z | ⟨a,b,z⟩
 ·exact absurd z h
 ·rw[z,Fj,Bi]
  refine(DX _ _).trans ?_
  simp[Gn]
theorem IG{n:Nat}{cut:List Int}:W.tup [.int n,.int (cut.map W.int).length,.int (cut.headD 0),.int (cut.getLastD 0)]=.tup ((j5 (bM n cut)).map wK):=by
 rw[Ab];rfl
theorem zao{M:Mm}{a:Addr}{t:List (K4×aK)}{n:Nat}{cut:List Int}{d:aK}{R:K3}(h:M a=some (.dT (d6 j5 cW t)))(hd:aH t (bM n cut)=some d)(r:R (cW d) M):L3.aN (.ref a) (.tup [.int n,.int (cut.map W.int).length,.int (cut.headD 0),.int (cut.getLastD 0)]) M R:=by rw[IG];exact mU h (by rw[lV tQ,hd];rfl) r
theorem II{C:Cc}{E:Env}{M0 M:Mm}{A:Ad}{st:SS}{n:Nat}{cut:List Int}{c:aK}{R:K3}{kp:Option (Addr×List W)}(hs:SK C E M0 M A st kp)(sm:Sm st 1)(r:∀ M',SK C E M0 M' A {st with reached:=c8 st.reached (bM n cut) c,q:=dQ c (n,cut) st.q} kp->R .non M') :
  aS (jY (aA 3) (kP (cT C.s (aA 0) "reached") (aA 4))) (eA (gT C.q "put" (tO C) (cT C.s (aA 0) "queue") (aB (aA 3) (aB (cS (aB (aA 1) (aB (aA 2) aF))) aF)))) (bU R) [some (W.ref A.s),some (W.int n),some (fT cut),some (cW c),some (W.tup (Lq wK (j5 (bM n cut))))] M:=by
 have h1:=sm.q
 have h2:=sm.r
 refine⟨_,rfl,_,rfl,A.s,A.d,_,_,rfl,hs.os,tR,_,rfl,nV hs.or (fS (by rw[Ab];lia)) ?_⟩
 rw[yB tQ]
 have hs1:=hs.rput (c8 st.reached (bM n cut) c)
 obtain⟨M3,hq,back⟩:=hs1.que
 exact⟨_,rfl,A.s,A.d,_,_,rfl,hs1.os,yC,A.Q.o,A.Q.d,qf A.Q,rfl,hq.ob,WS,_,rfl,_,rfl,_,rfl,z2,M3,A.Q,_,c,(n,cut),rfl,hq,(by rw[sZ];exact h1),fun M' h'=>⟨M',Sub.refl _,r M' (back M' _ h')⟩⟩
theorem zap{C:Cc}{ws:List W}{M:Mm}{R:K3}(h:n8 C ws M R):ZL C (bU R) (bX ZK ws) M:=by
 obtain⟨E,M0,A,st,n,cut,c,kp,rfl,hs,hcut,sm,r⟩:=h
 refine⟨_,rfl,_,rfl,_,rfl,_,yJ hcut,_,rfl,_,mZ hcut,z4,?_⟩
 rw[IG]
 refine⟨_,rfl,_,rfl,A.s,A.d,_,_,rfl,hs.os,tR,.inr ⟨_,.inr ⟨_,_,hs.or,rfl,rfl⟩,_,rfl,?_⟩⟩
 rw[lV tQ]
 cases hr:aH st.reached (bM n cut) with
 | none=>
  refine bV (fun _=>YS (II hs sm fun M' h'=>r M' ?_)) fun h=>nomatch (show true=false from h)
  unfold reach;rw[hr];exact h'
 | some d=>
  refine bV (fun h=>nomatch (show false=true from h)) fun _=>⟨_,rfl,_,rfl,A.s,A.d,_,_,rfl,hs.os,tR,_,rfl,mU hs.or (by rw[lV tQ,hr];rfl) ⟨c.1,c.2,d.1,d.2,rfl,rfl,_,rfl,bV (fun hl=>II hs sm fun M' h'=>r M' ?_) fun hl=>⟨M,Sub.refl _,r M ?_⟩⟩⟩
  ·unfold reach;rw[hr];simp only;rw[if_pos (show cI c d=true from hl)];exact h'
  ·unfold reach;rw[hr];simp only;rw[if_neg (ne_true_of_eq_false (show cI c d=false from hl))];exact hs
theorem Sm.reach{st:SS}{k:Nat}(h:Sm st (k + 1))(n:Nat)(cut:List Int)(c:aK):Sm (Rg.reach st n cut c) k:=by
 obtain⟨j,h1,h2,h3⟩:=HE st n cut c
 have:=h.q
 have:=h.r
 exact⟨by lia,by lia⟩
theorem Sm.le{st:SS}{k j:Nat}(h:Sm st k)(hj:j<=k):Sm st j:=⟨by have:=h.q;lia,by have:=h.r;lia⟩
def eF(f:α->Nat×List Int×aK)(xs:List α)(st:SS):SS:=xs.foldl (fun st x=>reach st (f x).1 (f x).2.1 (f x).2.2) st
theorem tW{f:α->Nat×List Int×aK}{xs:List α}{st:SS}{i:Nat}{x:α}(h:xs[i]? = some x):eF f (xs.take (i + 1)) st=reach (eF f (xs.take i) st) (f x).1 (f x).2.1 (f x).2.2:=by
 unfold eF
 rw[Du,h,List.foldl_append];rfl
theorem n9{f:α->Nat×List Int×aK}:∀ {xs:List α} {st:SS} {k:Nat},Sm st (xs.length + k)->Sm (eF f xs st) k
 | [],st,k,h=>by simp at h;exact h
 | x :: xs,st,k,h=>by
  show Sm (eF f xs (reach st (f x).1 (f x).2.1 (f x).2.2)) k
  exact n9 (Sm.reach (by rw[Bn] at h;exact h.le (by lia)) _ _ _)
theorem qH{f:α->Nat×List Int×aK}:∀ {xs:List α} {st:SS},(eF f xs st).ends=st.ends/\(eF f xs st).begun=st.begun/\(eF f xs st).best=st.best
 | [],st=>⟨rfl,rfl,rfl⟩
 | x :: xs,st=>by
  have h1:=qH (f:=f) (xs:=xs) (st:=reach st (f x).1 (f x).2.1 (f x).2.2)
  have h2:∀ n cut c,(reach st n cut c).ends=st.ends/\(reach st n cut c).begun=st.begun/\(reach st n cut c).best=st.best:=by
   intro n cut c
   unfold reach
   split
   ·split <;> exact⟨rfl,rfl,rfl⟩
   ·exact⟨rfl,rfl,rfl⟩
  obtain⟨a1,a2,a3⟩:=h2 (f x).1 (f x).2.1 (f x).2.2
  exact⟨h1.1.trans a1,h1.2.1.trans a2,h1.2.2.trans a3⟩
theorem zaq{C:Cc}{ws:List W}{M:Mm}{R:K3}(h:yE C ws M R):ZW C (bU R) (bX ZV ws) M:=by
 obtain⟨E,M0,A,st,n,cut,c,part,rfl,hs,hcut,hcl,sm,hb,hb2,r⟩:=h
 refine SK.gput hs (z:=(n,cut,c)) rfl (fun M1 Q h=>⟨_,rfl,h⟩) (fun M1 Q h=>⟨_,rfl,_,rfl,_,rfl,z3,h⟩) hb hb2 fun M1 hs1=>?_
 have hf:=hs1.ends_at (part,cut.getLastD 0)
 obtain⟨kvs,he,hc⟩:=hf
 refine⟨_,rfl,A.s,A.d,_,_,rfl,hs1.os,HZ,qF he,_,rfl,Ci _,_,.inr ⟨kvs,eK (part,cut.getLastD 0),he,rfl,rfl⟩,?_⟩
 rcases hc with⟨h1,h2⟩ | ⟨p,xs,h1,h2,hk⟩
 ·rw[h1]
  refine xW rfl (eN (fun i τ M'=>M'=M1) rfl (fun _ _ _ _ _=>trivial) (fun i w τ M' hw=>nomatch hw) fun τ M' e=>⟨_,Sub.refl _,r _ ?_⟩)
  rw[e]
  unfold fA
  rw[show aH st.ends (part,cut.getLastD 0)=none from h2]
  exact hs1
 ·rw[h1]
  obtain⟨f,hf⟩:∃ f:Int×aK->Nat×List Int×aK,f=fun z=>(n,cut ++ [z.1],dY c z.2):=⟨_,rfl⟩
  obtain⟨st1,hst1⟩:∃ st1,st1 = {st with begun:=eO st.begun (part,cut.getLastD 0) (n,cut,c)}:=⟨_,rfl⟩
  rw[<-hst1] at hk
  have sm1:Sm st1 xs.length:=by
   rw[show aH st.ends (part,cut.getLastD 0)=some xs from h2] at sm
   rw[hst1];exact⟨sm.q,sm.r⟩
  refine⟨_,hk.kept,eN (fun i τ M'=>∃ o5 o6,τ=[some (.ref A.s),some (.int n),some (fT cut),some (cW c),some (.tup [.str part,.int (cut.getLastD 0)]),o5,o6]/\SK C E M0 M' A (eF f (xs.take i) st1) (some (p,xs.map iR))) ⟨_,_,rfl,hk⟩ (fun i τ M' _ ⟨_,_,_,h⟩=>h.kept) ?_ ?_⟩
  ·rintro i w τ M' hw ⟨o5,o6,rfl,hk'⟩
   rw[Av] at hw
   obtain⟨z,hz,rfl⟩:=Bg.mp hw
   have hi:=(Ai.mp hz).1
   have smi:Sm (eF f (xs.take i) st1) 1:=n9 (sm1.le (by rw[Cb];lia))
   have e1:W.tup (Lq W.int cut ++ [W.int z.1])=fT (cut ++ [z.1]):=by unfold fT;rw[Bi];rfl
   refine⟨rfl,rfl,_,rfl,A.s,A.d,_,rfl,hk'.os,tS,_,rfl,_,rfl,_,rfl,z1,by simpa using hcut,by rw[Ab];exact Bc hcl (dX (by decide)),_,rfl,_,rfl,c,z.2,rfl,E,M0,A,_,n,cut ++ [z.1],dY c z.2,_,by rw[e1],hk',by simp,smi,fun M2 hk2=>⟨M2,Sub.refl _,_,_,rfl,?_⟩⟩
   rw[tW hz,hf]
   rw[hf] at hk2
   exact hk2
  ·rintro τ M' ⟨o5,o6,rfl,hk'⟩
   rw[Ab,De] at hk'
   refine⟨_,Sub.refl _,r _ ?_⟩
   unfold fA
   rw[show aH st.ends (part,cut.getLastD 0)=some xs from h2]
   rw[hst1,hf] at hk'
   exact hk'.free
end Rg
namespace Rg
open PySem PySem.Spec PyProof.Rows L2 L3
theorem oA{rs:List aW}{n:Nat}(h:n < rs.length):∃ r,rs[n]? = some r/\cB (rs.map cY) (n:Int)=some (cY r):=by
 refine⟨rs[n],Ak h,iE ?_⟩
 rw[Av,Ak h];rfl
theorem zar{bs:bR}{k:aY}{v:aK×Nat×List Int}(h:aH bs k=none):cC (d6 fK f6 bs) (fK k) (f6 v)=d6 fK f6 (bs ++ [(k,v)]):=by
 rw[yB mX,tT h]
theorem zas{C:Cc}{ws:List W}{M:Mm}{R:K3}(h:yF C ws M R):Z5 C (bU R) (bX ZX ws) M:=by
 obtain⟨G,E,M0,A,st,n,cut,c,rfl,hs,hG,hn,hcut,hbg,sm,hb,he,hel,r⟩:=h
 obtain⟨ru,hr1,hr2⟩:=oA hn
 have hfn:cG G n=ru.name:=by unfold cG;rw[hG,hr1]
 have hfact:cL G n cut=(ru.name,cut.headD 0,cut.getLastD 0):=by unfold cL;rw[hfn]
 rw[hfn] at sm hel
 refine⟨_,rfl,A.s,A.d,_,_,rfl,hs.os,HY,_,rfl,_,hr2,_,rfl,_,rfl,_,yJ hcut,z2,_,rfl,_,rfl,_,mZ hcut,z1,(fun h=>nomatch h),z3,_,rfl,_,rfl,A.s,A.d,_,_,rfl,hs.os,yD,.inr ⟨_,.inr ⟨_,fK (ru.name,cut.headD 0,cut.getLastD 0),hs.ob,rfl,rfl⟩,_,rfl,?_⟩⟩
 rw[lV mX]
 cases hbst:aH st.best (ru.name,cut.headD 0,cut.getLastD 0) with
 | some v=>
  refine bV (fun _=>⟨M,Sub.refl _,r M ?_⟩) fun h=>nomatch (show true=false from h)
  unfold settle;rw[hfact,hbst];exact hs
 | none=>
  refine bV (fun h=>nomatch (show false=true from h)) fun _=>⟨_,rfl,_,rfl,_,rfl,z3,_,rfl,A.s,A.d,_,_,rfl,hs.os,yD,_,rfl,nV (k:=fK (ru.name,cut.headD 0,cut.getLastD 0)) hs.ob (fS (by rw[Ab];exact hb)) ?_⟩
  rw[show cC (d6 fK f6 st.best) _ (W.tup [cW c,W.int n,fT cut])=_ from zar (v:=(c,n,cut)) hbst]
  have hs1:=hs.bput (st.best ++ [((ru.name,cut.headD 0,cut.getLastD 0),c,n,cut)])
  refine SK.eput hs1 (nm:=ru.name) (b:=cut.headD 0) (z:=(cut.getLastD 0,c)) rfl (fun M1 Q h=>⟨_,rfl,h⟩) (fun M1 Q h=>⟨_,rfl,_,mZ hcut,_,rfl,z2,h⟩) he hel fun M1 hs2=>?_
  obtain⟨st1,hst1⟩:∃ st1:SS,st1 = {st with best:=st.best ++ [((ru.name,cut.headD 0,cut.getLastD 0),c,n,cut)],ends:=eO st.ends (ru.name,cut.headD 0) (cut.getLastD 0,c)}:=⟨_,rfl⟩
  have hs2:SR C E M0 M1 A st1:=by rw[hst1];exact hs2
  have hset:∀ xs,(aH st.begun (ru.name,cut.headD 0)).getD []=xs->settle G st n cut c=eF (fun y:bZ=>(y.1,y.2.1 ++ [cut.getLastD 0],dY y.2.2 c)) xs st1:=fun xs hx=>by
   unfold settle
   rw[hfact,hbst,hfn,hx,hst1];rfl
  have hbeg:st1.begun=st.begun:=by rw[hst1]
  obtain⟨kvs,hg,hc⟩:=hs2.begun_at (ru.name,cut.headD 0)
  refine⟨_,rfl,A.s,A.d,_,_,rfl,hs2.os,IA,qF hg,_,rfl,Ci _,_,.inr ⟨kvs,eK (ru.name,cut.headD 0),hg,rfl,rfl⟩,?_⟩
  rcases hc with⟨h1,h2⟩ | ⟨p,xs,h1,h2,hk⟩
  ·rw[h1]
   refine xW rfl (eN (fun i τ M'=>M'=M1) rfl (fun _ _ _ _ _=>trivial) (fun i w τ M' hw=>nomatch hw) fun τ M' e=>⟨_,Sub.refl _,r _ ?_⟩)
   rw[hset [] (by rw[hbeg] at h2;rw[h2];rfl),e]
   exact hs2
  ·rw[h1]
   rw[hbeg] at h2
   obtain⟨f,hf⟩:∃ f:bZ->Nat×List Int×aK,f=fun y=>(y.1,y.2.1 ++ [cut.getLastD 0],dY y.2.2 c):=⟨_,rfl⟩
   have sm1:Sm st1 xs.length:=by
    rw[h2] at sm
    rw[hst1];exact⟨sm.q,sm.r⟩
   refine⟨_,hk.kept,eN (fun i τ M'=>∃ o6 o7 o8,τ=[some (.ref A.s),some (.int n),some (fT cut),some (cW c),some (.tup [.str ru.name,.int (cut.headD 0)]),some (.tup ([.str ru.name,.int (cut.headD 0)] ++ [.int (cut.getLastD 0)])),o6,o7,o8]/\SK C E M0 M' A (eF f (xs.take i) st1) (some (p,xs.map iS))) ⟨_,_,_,rfl,hk⟩ (fun i τ M' _ ⟨_,_,_,_,h⟩=>h.kept) ?_ ?_⟩
   ·rintro i w τ M' hw ⟨o6,o7,o8,rfl,hk'⟩
    rw[Av] at hw
    obtain⟨y,hy,rfl⟩:=Bg.mp hw
    have hi:=(Ai.mp hy).1
    obtain⟨hyl,hyn⟩:=hbg (ru.name,cut.headD 0) y (by rw[h2];exact An hy)
    refine⟨rfl,rfl,_,rfl,A.s,A.d,_,rfl,hk'.os,tS,_,rfl,_,rfl,_,rfl,_,mZ hcut,z1,by simpa using hyn,by rw[Ab];exact dX (Bc hyl (by decide)),_,rfl,_,rfl,y.2.2,c,rfl,E,M0,A,_,y.1,y.2.1 ++ [cut.getLastD 0],dY y.2.2 c,_,by rw[fT,Bi];rfl,hk',by simp,n9 (sm1.le (by rw[Cb];lia)),fun M2 hk2=>⟨M2,Sub.refl _,_,_,_,rfl,?_⟩⟩
    rw[tW hy,hf]
    rw[hf] at hk2
    exact hk2
   ·rintro τ M' ⟨o6,o7,o8,rfl,hk'⟩
    rw[Ab,De] at hk'
    refine⟨_,Sub.refl _,r _ ?_⟩
    rw[hset xs (by rw[h2];rfl),<-hf]
    exact hk'.free
theorem zat{C:Cc}{ws:List W}{M:Mm}{R:K3}(h:yG C ws M R):ZU C (bU R) (bX ZM ws) M:=by
 obtain⟨G,E,M0,A,st,rfl,hs,ev,hq,rm,r⟩:=h
 obtain⟨c,x,q',e1,f1,m1,l1,_,_⟩:=mS hs.fall hq
 obtain⟨n,cut⟩:=x
 obtain⟨hcut,hcl,hn,d,hd⟩:=rm.item c n cut q' e1
 obtain⟨M3,hQ,back⟩:=hs.que
 refine⟨_,rfl,A.s,A.d,_,_,rfl,hs.os,yC,A.Q.o,A.Q.d,_,rfl,hQ.ob,WT,M3,A.Q,_,c,(n,cut),q',rfl,hQ,e1,fun M1 hQ1=>?_⟩
 have hs1:=back M1 q' hQ1
 have smq:∀ k,Sm st k->Sm {st with q:=q'} k:=fun k h=>⟨by have:=h.q;show(bC q').length + k < _;lia,h.r⟩
 have ht:jC G st=if cI d c=true then {st with q:=q'} else process G {st with q:=q'} n cut c:=by
  unfold jC
  simp only[e1,hd]
 obtain⟨st1,hst1⟩:∃ st1:SS,st1 = {st with q:=q'}:=⟨_,rfl⟩
 have b1:st1.begun=st.begun:=by rw[hst1]
 have b2:st1.ends=st.ends:=by rw[hst1]
 have b3:st1.best=st.best:=by rw[hst1]
 have b4:st1.reached=st.reached:=by rw[hst1]
 rw[<-hst1] at hs1 smq ht
 clear hst1
 refine⟨_,rfl,_,rfl,_,rfl,_,rfl,_,rfl,_,rfl,_,rfl,_,rfl,_,rfl,A.s,A.d,_,_,rfl,hs1.os,tR,_,rfl,_,rfl,_,rfl,_,yJ hcut,_,rfl,_,mZ hcut,z4,zao hs1.or (by rw[b4];exact hd) ⟨_,rfl,d.1,d.2,c.1,c.2,rfl,rfl,_,rfl,bV (fun hl=>?_) fun hl=>?_⟩⟩
 ·rw[ht,if_pos (show cI d c=true from hl)] at r
  exact⟨M1,Sub.refl _,r M1 hs1⟩
 rw[ht,if_neg (ne_true_of_eq_false (show cI d c=false from hl))] at r
 rw[ev.rs] at hn
 obtain⟨ru,hr1,hr2⟩:=oA hn
 have hpart:dH G n cut=ru.parts[cut.length - 1]?:=by unfold dH;rw[ev.rs,hr1]
 have hpos:=Iq.mpr hcut
 have hlm:(Lq W.int cut).length=cut.length:=Ab _
 have hlp:(Lq W.str ru.parts).length=ru.parts.length:=Ab _
 refine⟨_,rfl,A.s,A.d,_,_,rfl,hs1.os,HY,_,rfl,_,hr2,_,rfl,_,rfl,_,rfl,_,rfl,bV (fun hlen=>?_) fun hlen=>?_⟩
 ·have hlen:=of_decide_eq_true hlen
  rw[hlm,hlp] at hlen
  have hp:dH G n cut=none:=by rw[hpart];exact Jw (by lia)
  refine⟨_,rfl,A.s,A.d,_,rfl,hs1.os,Y5,_,rfl,_,rfl,_,rfl,G,E,M0,A,st1,n,cut,c,rfl,hs1,ev.rs,hn,hcut,by rw[b1];exact rm.bg,by rw[b1];exact smq _ (rm.gl _).2,by rw[b3];exact rm.b,by rw[b2];exact rm.e,by rw[b2];exact(rm.el _).1,fun M2 hs2=>⟨M2,Sub.refl _,r M2 ?_⟩⟩
  unfold process;rw[hp];exact hs2
 have hlen:=of_decide_eq_false hlen
 rw[hlm,hlp] at hlen
 obtain⟨part,hp⟩:∃ part,ru.parts[cut.length - 1]? = some part:=⟨_,Ak (by lia)⟩
 rw[hp] at hpart
 have hat:cB (ru.parts.map W.str) ((Lq W.int cut).length - 1)=some (.str part):=by
  rw[hlm,show((cut.length:Int) - 1)=((cut.length - 1:Nat):Int) by lia]
  exact iE (by rw[Av,hp];rfl)
 have hpr:process G st1 n cut c=if G.own part=true then fA st1 n cut c part else eF (fun z:Int×Int=>(n,cut ++ [z.1],(c.1 + z.2,c.2))) (G.steps part (cut.getLastD 0)) st1:=by
  unfold process;rw[hpart];rfl
 rw[hpr] at r
 refine⟨_,rfl,_,rfl,_,hat,_,rfl,A.s,A.d,_,_,rfl,hs1.os,Y1,_,⟨Sum.inr part,rfl,rfl⟩,_,rfl,bV (fun ho=>?_) fun ho=>?_⟩
 ·rw[if_pos ((ev.own part).symm.trans ho)] at r
  exact⟨_,rfl,A.s,A.d,_,rfl,hs1.os,Y4,_,rfl,_,rfl,_,rfl,_,rfl,_,rfl,_,hat,_,rfl,_,mZ hcut,z2,E,M0,A,st1,n,cut,c,part,rfl,hs1,hcut,hcl,by rw[b2];exact smq _ (rm.el _).2,by rw[b1];exact rm.g,by rw[b1];exact(rm.gl _).1,fun M2 hs2=>⟨M2,Sub.refl _,r M2 hs2⟩⟩
 rw[if_neg (ne_true_of_eq_false ((ev.own part).symm.trans ho))] at r
 obtain⟨xs,hxs⟩:∃ xs,xs=G.steps part (cut.getLastD 0):=⟨_,rfl⟩
 have sm1:Sm st1 xs.length:=by rw[hxs];exact smq _ (rm.sl _ _)
 have hval:(bD E.stp (eK (part,cut.getLastD 0))).getD (.rl [])=.rl (xs.map fun z=>.tup [.int z.1,.int z.2]):=by
  rw[hxs]
  rcases ev.stp part (cut.getLastD 0) with⟨h1,h2⟩ | h1
  ·rw[h1,h2];rfl
  ·rw[h1];rfl
 rw[<-hxs] at r
 refine⟨_,rfl,A.s,A.d,_,_,rfl,hs1.os,Y2,rfl,_,rfl,_,rfl,_,hat,_,rfl,_,mZ hcut,z2,Ci _,_,⟨eK (part,cut.getLastD 0),rfl,rfl⟩,xW hval (eN (fun i τ M'=>∃ o6 o7,τ=[some (.ref A.s),some (.tup [cW c,jE (n,cut)]),some (cW c),some (.int n),some (fT cut),some (.tup (ru.parts.map W.str)),o6,o7]/\SR C E M0 M' A (eF (fun z:Int×Int=>(n,cut ++ [z.1],(c.1 + z.2,c.2))) (xs.take i) st1)) ⟨_,_,rfl,hs1⟩ (fun _ _ _ _ _=>trivial) ?_ ?_)⟩
 ·rintro i w τ M' hw ⟨o6,o7,rfl,hk⟩
  rw[Av] at hw
  obtain⟨z,hz,rfl⟩:=Bg.mp hw
  have hi:=(Ai.mp hz).1
  exact⟨rfl,rfl,_,rfl,A.s,A.d,_,rfl,hk.os,tS,_,rfl,_,rfl,_,rfl,z1,by simpa using hcut,by rw[hlm];exact Bc hcl (dX (by decide)),_,rfl,_,rfl,_,rfl,_,rfl,_,rfl,z2,E,M0,A,_,n,cut ++ [z.1],(c.1 + z.2,c.2),_,by rw[fT,Bi];rfl,hk,by simp,n9 (sm1.le (by rw[Cb];lia)),fun M2 hk2=>⟨M2,Sub.refl _,_,_,rfl,by rw[tW hz];exact hk2⟩⟩
 ·rintro τ M' ⟨o6,o7,rfl,hk⟩
  rw[Ab,De] at hk
  exact⟨_,Sub.refl _,r _ hk⟩
theorem zau{E:Env}{A:Ad}:bY "begun" (.ref A.g) (bY "ends" (.ref A.e) (bY "best" (.ref A.b) (bY "reached" (.ref A.r) (bY "queue" (.ref A.Q.o) ([("grammar",(cP E.rs)),("own",(W.dk E.own)),("steps",(W.dt E.stp))]:List (Str×W))))))=sf E A:=by kernel_rfl
theorem tX{C:Cc}{B Mt:Mm}{A:Aq}{q:Qu}{s dx p:Addr}{fs fs':List (Str×W)}(hQ:QR C B Mt A q)(hB:B s=some (.ins C.s dx fs))(hp:Mt p=none):p≠s/\B p=none/\put Mt p (.dT []) s=some (.ins C.s dx fs)/\QR C (put (put B p (.dT [])) s (.ins C.s dx fs')) (put (put Mt p (.dT [])) s (.ins C.s dx fs')) A q:=by
 have hs:=hQ.sub _ _ hB
 have ne:p≠s:=fun e=>by rw[e,hs] at hp;cases hp
 exact⟨ne,hQ.sub.non hp,by rw[aT (Bp ne)];exact hs,(hQ.lift (.inl hp)).lift (.inr ⟨_,by rw[aT (Bp ne)];exact hB⟩)⟩
theorem qI(f:Str)(w:W):∀ fs:List (Str×W),(bY f w fs).length<=fs.length + 1
 | []=>Aj _
 | (k,x) :: r=>by
  rw[bY]
  split
  ·simp
  ·have:=qI f w r
   simp only[Bn];lia
theorem zav{C:Cc}{ws:List W}{M:Mm}{R:K3}(h:yH C ws M R):ZJ C (bU R) (bX ZA ws) M:=by
 obtain⟨M0,s,dx,rs,stp,rfl,hl,rfl,h0,r⟩:=h
 refine⟨_,rfl,_,rfl,s,dx,_,rfl,bB,by decide,?_⟩
 rw[gP]
 have e2:∀ w:W,bY "own" w (bY "grammar" (cP rs) [])=([("grammar",cP rs),("own",w)]:List (Str×W)):=fun w=>by kernel_rfl
 have e3:∀ w:W,bY "steps" w ([("grammar",cP rs),("own",.dk (ownOf rs))]:List (Str×W))=([("grammar",cP rs),("own",.dk (ownOf rs)),("steps",w)]:List (Str×W)):=fun w=>by kernel_rfl
 refine⟨_,rfl,rs,rfl,hl,bA.frz ⟨namesOf rs,rfl,?_,_,rfl,s,dx,_,rfl,bB,(show(1:Nat) < 1000 by decide),_,rfl,_,rfl,s,dx,_,rfl,bB,?_,?_⟩⟩
 ·have:=sX (rs.map aW.name) []
  rw[Ab] at this
  unfold namesOf p6
  simp at this
  simp;lia
 ·rw[e2];exact(show(2:Nat) < 1000 by decide)
 rw[gP,gP,e2]
 show IE C _ _ (put M0 s (.ins C.s dx (bY "steps" (.dt stp) [("grammar",cP rs),("own",.dk (ownOf rs))])))
 rw[e3]
 refine fun a da ha hda hne=>?_
 have hsa:s≠a:=fun e=>by rw[<-e,bB] at ha;cases ha
 obtain⟨F3,hF3⟩:∃ F:List (Str×W),F=([("grammar",cP rs),("own",.dk (ownOf rs)),("steps",.dt stp)]:List (Str×W)):=⟨_,rfl⟩
 rw[<-hF3] at ha hda ⊢
 refine⟨_,a,da,rfl,rfl,ha,fun M1 Aq hAq hQ=>⟨rfl,_,rfl,s,dx,F3,rfl,hQ.sub _ _ bB,by rw[hF3];exact(show(3:Nat) < 1000 by decide),?_⟩⟩
 have hQ1:=hQ.lift (p:=s) (o:=.ins C.s dx (bY "queue" (.ref a) F3)) (.inr ⟨_,bB⟩)
 rw[gP] at hQ1
 obtain⟨F4,hF4⟩:∃ F:List (Str×W),F=bY "queue" (.ref a) F3:=⟨_,rfl⟩
 have l4:F4.length<=4:=by rw[hF4];have:=qI "queue" (.ref a) F3;rw[hF3] at this ⊢;exact this
 rw[<-hF4] at hQ1 ⊢
 obtain⟨Mt,hMt⟩:∃ m,m=put M1 s (.ins C.s dx F4):=⟨_,rfl⟩
 rw[<-hMt] at hQ1 ⊢
 refine fun p1 hp1=>?_
 obtain⟨n1,b1,o1,hQ2⟩:=tX (fs':=bY "reached" (.ref p1) F4) hQ1 bB hp1
 refine⟨_,rfl,s,dx,F4,rfl,o1,by lia,fun p2 hp2=>?_⟩
 obtain⟨n2,b2,o2,hQ3⟩:=tX (fs':=bY "best" (.ref p2) (bY "reached" (.ref p1) F4)) hQ2 bB hp2
 have l5:=qI "reached" (.ref p1) F4
 refine⟨_,rfl,s,dx,_,rfl,o2,by lia,fun p3 hp3=>?_⟩
 obtain⟨n3,b3,o3,hQ4⟩:=tX (fs':=bY "ends" (.ref p3) (bY "best" (.ref p2) (bY "reached" (.ref p1) F4))) hQ3 bB hp3
 have l6:=qI "best" (.ref p2) (bY "reached" (.ref p1) F4)
 refine⟨_,rfl,s,dx,_,rfl,o3,by lia,fun p4 hp4=>?_⟩
 obtain⟨n4,b4,o4,hQ5⟩:=tX (fs':=bY "begun" (.ref p4) (bY "ends" (.ref p3) (bY "best" (.ref p2) (bY "reached" (.ref p1) F4)))) hQ4 bB hp4
 have l7:=qI "ends" (.ref p3) (bY "best" (.ref p2) (bY "reached" (.ref p1) F4))
 refine⟨_,rfl,s,dx,_,rfl,o4,by lia,_,Sub.refl _,r _ ⟨s,dx,Aq,p1,p2,p3,p4⟩ rfl ?_⟩
 obtain⟨A,hA⟩:∃ A:Ad,A=⟨s,dx,Aq,p1,p2,p3,p4⟩:=⟨_,rfl⟩
 obtain⟨E,hE⟩:∃ E:Env,E=⟨rs,ownOf rs,stp⟩:=⟨_,rfl⟩
 have hsf:bY "begun" (.ref p4) (bY "ends" (.ref p3) (bY "best" (.ref p2) (bY "reached" (.ref p1) F4)))=sf E A:=by
  rw[<-zau,hF4,hF3,hA,hE,<-hAq]
 rw[hsf] at hQ5 ⊢
 rw[<-hA,<-hE]
 have c21:p2≠p1:=fun e=>by rw[e,aT n1,bB] at b2;cases b2
 have c31:p3≠p1:=fun e=>by rw[e,aT n1,aT (Bp c21),aT n1,bB] at b3;cases b3
 have c32:p3≠p2:=fun e=>by rw[e,aT n2,bB] at b3;cases b3
 have c41:p4≠p1:=fun e=>by rw[e,aT n1,aT (Bp c31),aT n1,aT (Bp c21),aT n1,bB] at b4;cases b4
 have c42:p4≠p2:=fun e=>by rw[e,aT n2,aT (Bp c32),aT n2,bB] at b4;cases b4
 have c43:p4≠p3:=fun e=>by rw[e,aT n3,bB] at b4;cases b4
 have z1:M0 p1=none:=by rw[aT n1] at b1;exact b1
 have z2:M0 p2=none:=by rw[aT n2,aT c21,aT n2] at b2;exact b2
 have z3:M0 p3=none:=by rw[aT n3,aT c32,aT n3,aT c31,aT n3] at b3;exact b3
 have z4:M0 p4=none:=by rw[aT n4,aT c43,aT n4,aT c42,aT n4,aT c41,aT n4] at b4;exact b4
 obtain⟨N1,hN1⟩:∃ m,m=put (put (put M0 s (.ins C.s dx (sf E A))) p1 (.dT [])) p2 (.dT []):=⟨_,rfl⟩
 have hB:put (put (put (put (put (put (put (put (put M0 s (.ins C.s dx F4)) p1 (.dT [])) s (.ins C.s dx (bY "reached" (.ref p1) F4))) p2 (.dT [])) s (.ins C.s dx (bY "best" (.ref p2) (bY "reached" (.ref p1) F4)))) p3 (.dT [])) s (.ins C.s dx (bY "ends" (.ref p3) (bY "best" (.ref p2) (bY "reached" (.ref p1) F4))))) p4 (.dT [])) s (.ins C.s dx (sf E A))=put (put N1 p3 (.dT [])) p4 (.dT []):=by
  rw[hN1]
  funext b
  unfold put
  by_cases g0:b=s
  ·subst g0;simp[Bp n1,Bp n2,Bp n3,Bp n4]
  ·simp only[if_neg g0]
 rw[hB] at hQ5
 have mn:Mn C E M0 N1 A [] []:=by
  rw[hN1,hA]
  exact⟨gK (gK (gK (Sub.refl _) h0) z1) z2,h0,z1,z2,Bp n1,Bp n2,Bp c21,by rw[aT (Bp n2),aT (Bp n1),bB],by rw[aT (Bp c21),bB];rfl,by rw[bB];rfl⟩
 have y3:N1 p3=none:=by rw[hN1,aT c32,aT c31,aT n3];exact z3
 have y4:N1 p4=none:=by rw[hN1,aT c42,aT c41,aT n4];exact z4
 have t1:dZ eK N1 (put N1 p3 (.dT [])) A.e [] (eG []):=by rw[hA];exact⟨Sub.new y3,y3,bB,(fun _ _=>rfl),(fun k ws e=>nomatch e),(fun k j p e=>nomatch e)⟩
 have x4:put N1 p3 (.dT []) p4=none:=by rw[aT c43];exact y4
 have t2:dZ eK (put N1 p3 (.dT [])) (put (put N1 p3 (.dT [])) p4 (.dT [])) A.g [] (gG []):=by rw[hA];exact⟨Sub.new x4,x4,bB,(fun _ _=>rfl),(fun k ws e=>nomatch e),(fun k j p e=>nomatch e)⟩
 have hAQ:A.Q=Aq:=by rw[hA]
 rw[<-hAQ] at hQ5
 exact⟨N1,_,_,[],[],mn,t1,t2,hQ5,Aj _,Aj _,trivial⟩
structure Ln(st:SS)(T:Nat):Prop where
 b:st.best.length<=T
 e:st.ends.length<=T
 g:st.begun.length<=T
theorem Ln.process{G:Sr}{st:SS}{T:Nat}(h:Ln st T)(n:Nat)(cut:List Int)(c:aK):Ln (Rg.process G st n cut c) (T + 1):=by
 have h1:=h.b
 have h2:=h.e
 have h3:=h.g
 have keep:Ln st (T + 1):=⟨by lia,by lia,by lia⟩
 unfold Rg.process
 split
 ·unfold settle
  split
  ·exact keep
  ·obtain⟨a1,a2,a3⟩:=qH (f:=fun y:bZ=>(y.1,y.2.1 ++ [cut.getLastD 0],dY y.2.2 c)) (xs:=(aH st.begun (cG G n,cut.headD 0)).getD []) (st:={st with best:=st.best ++ [(cL G n cut,c,n,cut)],ends:=eO st.ends (cG G n,cut.headD 0) (cut.getLastD 0,c)})
   refine⟨?_,?_,?_⟩
   ·refine Bc (Fp (congrArg Ds a3)) ?_
    show(st.best ++ [_]).length<=_
    rw[Ao,Cd];lia
   ·refine Bc (Fp (congrArg Ds a1)) ?_
    have:=sY st.ends (cG G n,cut.headD 0) ((aH st.ends (cG G n,cut.headD 0)).getD [] ++ [(cut.getLastD 0,c)])
    show(c8 _ _ _).length<=_
    lia
   ·refine Bc (Fp (congrArg Ds a2)) ?_
    exact keep.g
 ·rename_i part _
  split
  ·unfold fA
   obtain⟨a1,a2,a3⟩:=qH (f:=fun z:Int×aK=>(n,cut ++ [z.1],dY c z.2)) (xs:=(aH st.ends (part,cut.getLastD 0)).getD []) (st:={st with begun:=eO st.begun (part,cut.getLastD 0) (n,cut,c)})
   refine⟨?_,?_,?_⟩
   ·exact Bc (Fp (congrArg Ds a3)) keep.b
   ·exact Bc (Fp (congrArg Ds a1)) keep.e
   ·refine Bc (Fp (congrArg Ds a2)) ?_
    have:=sY st.begun (part,cut.getLastD 0) ((aH st.begun (part,cut.getLastD 0)).getD [] ++ [(n,cut,c)])
    show(c8 _ _ _).length<=_
    lia
  ·unfold fI
   obtain⟨a1,a2,a3⟩:=qH (f:=fun z:Int×Int=>(n,cut ++ [z.1],(c.1 + z.2,c.2))) (xs:=G.steps part (cut.getLastD 0)) (st:=st)
   exact⟨Bc (Fp (congrArg Ds a3)) keep.b,Bc (Fp (congrArg Ds a1)) keep.e,Bc (Fp (congrArg Ds a2)) keep.g⟩
theorem Ln.next{G:Sr}{st:SS}{T:Nat}(h:Ln st T):Ln (jC G st) (T + 1):=by
 have h1:=h.b
 have h2:=h.e
 have h3:=h.g
 have keep:Ln st (T + 1):=⟨by lia,by lia,by lia⟩
 have hq:∀ q',Ln {st with q:=q'} T:=fun q'=>⟨h1,h2,h3⟩
 unfold jC
 split
 ·exact keep
 ·split
  ·split
   ·exact⟨keep.b,keep.e,keep.g⟩
   ·exact(hq _).process _ _ _
  ·exact⟨keep.b,keep.e,keep.g⟩
theorem zaw{G:Sr}{V:List Int}{L S I0 T:Nat}{st:SS}{P:List bZ}{cur:aK}(v:tF G V G.rs.length L)(hL:L < 1000)(A:All G S I0 st P cur T)(hS:∀ t p,(G.steps t p).length<=S)(ln:Ln st T)
  (hb:I0 + G.rs.length * ((L + 1) * (V.length * V.length)) * (S + V.length) + G.rs.length * ((L + 1) * (V.length * V.length)) + V.length + S + 1 < 10000000):Rm G st:=by
 obtain⟨f1,f2,f3⟩:=HG v A
 have hin:∀ {n cut c},GI G st.best n cut c->DI G n cut c:=fun {n cut c} g=>xM (B:=st.best) (fun f m n' cut' h=>tD A.ob h) g
 have hr:=A.cn.rch
 generalize G.rs.length * ((L + 1) * (V.length * V.length))=X at *
 generalize X * (S + V.length)=Y at *
 have h1:=ln.b
 have h2:=ln.e
 have h3:=ln.g
 have hg:∀ key,((aH st.begun key).getD []).length<=X:=fun key=>by
  have:=len_sub (b:=P) (A.cn.bnd key) fun y hy=>(A.ob.bgn key y hy).1
  lia
 refine⟨fun c n cut q' e=>?_,fun key y hy=>?_,by lia,by lia,by lia,fun key=>?_,fun key=>?_,fun t p=>?_⟩
 ·have hne:st.q≠[]:=fun z=>by rw[z] at e;cases e
  obtain⟨_,_,_,e1,_,m1,_⟩:=mS A.inv.fall hne
  rw[e] at e1
  cases e1
  have hm:(c,(n,cut))∈bC st.q:=(m1 _).mpr (.inl rfl)
  have hd:=hin (A.inv.item _ hm)
  obtain⟨_,g2,g3⟩:=tH v hd
  obtain⟨d,g4,_⟩:=A.inv.ge _ hm
  exact⟨hd.ne,by have g3:cut.length<=L:=g3;lia,g2,d,g4⟩
 ·have hd:=hin (A.inv.pr y (A.ob.bgn key y hy).1).2.2
  obtain⟨_,g2,g3⟩:=tH v hd
  exact⟨by lia,hd.ne⟩
 ·have:=f2 key
  exact⟨by lia,⟨by lia,by lia⟩⟩
 ·have:=hg key
  exact⟨by lia,⟨by lia,by lia⟩⟩
 ·have:=hS t p
  exact⟨by lia,by lia⟩
def j6(G:Sr)(i:Nat):List (Nat×Int):=(Bu i).flatMap fun n=>G.places.map fun p=>(n,p)
theorem zax(G:Sr)(i:Nat):j6 G (i + 1)=j6 G i ++ G.places.map fun p=>(i,p):=by
 unfold j6
 rw[List.range_succ,List.flatMap_append];simp
theorem yK(G:Sr)(i:Nat):(j6 G i).length=i * G.places.length:=by
 unfold j6
 rw[qE (k:=G.places.length) fun n _=>by rw[Ab],Em]
abbrev m7(G:Sr):Nat×Int->Nat×List Int×aK:=fun x=>(x.1,[x.2],(G.wt x.1,1))
theorem zay{α:Type}{f:α->Nat×List Int×aK}{xs ys:List α}{st:SS}:eF f (xs ++ ys) st=eF f ys (eF f xs st):=by
 unfold eF;rw[List.foldl_append]
theorem SK.told{C:Cc}{E:Env}{M0 M:Mm}{A:Ad}{st:SS}{kp:Option (Addr×List W)}(h:SK C E M0 M A st kp):M0 A.b=none/\L3.Sub (put M0 A.b (.dT (d6 fK f6 st.best))) M:=by
 obtain⟨M1,M2,M3,e,g,h1,h2,h3,h4,h5,h6,h7⟩:=h.ex
 refine⟨h1.nb,fun b u e=>?_⟩
 by_cases hb:b=A.b
 ·subst hb;rw[bB] at e;cases e;exact h.ob
 ·rw[aT hb] at e;exact h4.sub _ _ (h3.sub _ _ (h2.sub _ _ (h1.sub _ _ e)))
theorem zaz{n i:Nat}{w:W}(h:(hJ 0 n)[i]? = some w):i < n/\w=.int (i:Nat):=by
 unfold hJ at h
 rw[Av] at h
 obtain⟨j,hj,rfl⟩:=Bg.mp h
 obtain⟨h1,h2⟩:=Ai.mp hj
 rw[List.getElem_range] at h2
 rw[Em] at h1
 exact⟨h1,by rw[<-h2,Kt]⟩
theorem IJ{lo:Int}{n:Nat}:(hJ lo n).length=n:=by unfold hJ;simp
theorem zaA{C:Cc}{ws:List W}{M:Mm}{R:K3}(h:yI C ws M R):zad C (bU R) (bX Z6 ws) M:=by
 obtain⟨G,E,V,L,S,rfl,hrs,hown,ev,ok,v,hL,hpl,hS,hb,r⟩:=h
 refine⟨_,rfl,_,rfl,fun a dx ha hdx hne=>⟨M,a,dx,E.rs,E.stp,rfl,hrs,rfl,ha,fun M1 A hA hs=>⟨rfl,?_⟩⟩⟩
 rw[<-hown] at hs
 have hs:SR C E M M1 A fZ:=hs
 subst hA
 have hil:(jD G).length=G.rs.length * G.places.length:=yK G G.rs.length
 obtain⟨N,hN⟩:∃ N,N=G.rs.length:=⟨_,rfl⟩
 have hNE:E.rs.length=N:=by rw[hN,ev.rs]
 refine⟨_,rfl,(N:Int),by rw[Ab,hNE],by lia,by lia,?_⟩
 rw[Bz]
 have sm0:Sm fZ ((jD G).length + 1):=⟨by show 0 + _ < _;lia,by show 0 + _ < _;lia⟩
 refine eN (fun i τ M'=>∃ o5 o6,τ=[some (cP E.rs),some (.rl (G.places.map W.int)),some (.dt E.stp),some (.rl ((Bu G.rs.length).map fun n=>.int (G.wt n))),some (.ref A.s),o5,o6]/\SR C E M M' A (eF (m7 G) (j6 G i) fZ)) ⟨_,_,rfl,hs⟩ (fun _ _ _ _ _=>trivial) ?_ ?_
 ·rintro i w τ M2 hw ⟨o5,o6,rfl,hs2⟩
  obtain⟨hi,rfl⟩:=zaz hw
  have hmul:(i + 1) * G.places.length<=N * G.places.length:=Nat.mul_le_mul_right _ hi
  rw[<-hN] at hil
  refine⟨_,rfl,lU (eN (fun j τ M'=>∃ o6,τ=[some (cP E.rs),some (.rl (G.places.map W.int)),some (.dt E.stp),some (.rl ((Bu G.rs.length).map fun n=>.int (G.wt n))),some (.ref A.s),some (.int i),o6]/\SR C E M M' A (eF (m7 G) ((G.places.map fun p=>(i,p)).take j) (eF (m7 G) (j6 G i) fZ))) ⟨_,rfl,hs2⟩ (fun _ _ _ _ _=>trivial) ?_ ?_)⟩
  ·rintro j w τ M3 hw ⟨o6,rfl,hs3⟩
   rw[Av] at hw
   obtain⟨pl,hpl',rfl⟩:=Bg.mp hw
   have hj:=(Ai.mp hpl').1
   have hx:(G.places.map fun p=>(i,p))[j]? = some (i,pl):=by rw[Av,hpl'];rfl
   have hwt:cB ((Bu G.rs.length).map fun n=>W.int (G.wt n)) (i:Int)=some (.int (G.wt i)):=iE (by rw[Av,List.getElem?_range (by lia)];rfl)
   have smj:Sm (eF (m7 G) ((G.places.map fun p=>(i,p)).take j) (eF (m7 G) (j6 G i) fZ)) 1:=by
    refine n9 (n9 (sm0.le ?_))
    rw[yK,Cb,Ab,hil,Nat.succ_mul] at *
    lia
   refine⟨_,rfl,A.s,A.d,_,rfl,hs3.os,tS,_,rfl,_,rfl,z1,_,rfl,_,rfl,_,hwt,z2,E,M,A,_,i,[pl],(G.wt i,1),none,rfl,hs3,by simp,smj,fun M4 hs4=>⟨M4,Sub.refl _,_,rfl,?_⟩⟩
   rw[tW hx]
   exact hs4
  ·rintro τ M3 ⟨o6,rfl,hs3⟩
   refine⟨M3,Sub.refl _,_,_,rfl,?_⟩
   rw[zax,zay]
   rw[Ab,Fc (by rw[Ab];exact Aj _)] at hs3
   exact hs3
 ·rintro τ M2 ⟨o5,o6,rfl,hs2⟩
  rw[IJ] at hs2
  have hst:eF (m7 G) (j6 G N) fZ=j4 G:=by rw[hN];rfl
  rw[hst] at hs2
  have ln0:Ln (j4 G) 0:=by
   obtain⟨a1,a2,a3⟩:=qH (f:=m7 G) (xs:=j6 G N) (st:=fZ)
   rw[hst] at a1 a2 a3
   exact⟨by rw[a3];exact Aj _,by rw[a1];exact Aj _,by rw[a2];exact Aj _⟩
  obtain⟨Bm,hBm⟩:∃ Bm,Bm=(jD G).length + G.rs.length * ((L + 1) * (V.length * V.length)) * (S + V.length):=⟨_,rfl⟩
  refine⟨fun m τ M'=>∃ st P cur T o5 o6,τ=[some (cP E.rs),some (.rl (G.places.map W.int)),some (.dt E.stp),some (.rl ((Bu G.rs.length).map fun n=>.int (G.wt n))),some (.ref A.s),o5,o6]/\SR C E M M' A st/\All G S (jD G).length st P cur T/\Ln st T/\m=Bm - T/\st=mY G T,⟨_,_,_,_,_,_,_,rfl,hs2,WM ok S,ln0,rfl,rfl⟩,?_⟩
  rintro m τ M3 ⟨st,P,cur,T,o5,o6,rfl,hs3,A3,ln3,rfl,hst3⟩
  obtain⟨M4,hQ,back⟩:=hs3.que
  refine⟨_,rfl,A.s,A.d,_,_,rfl,hs3.os,yC,A.Q.o,A.Q.d,_,rfl,hQ.ob,WU,M4,A.Q,st.q,rfl,hQ,bV (b:=!decide (st.q=[])) (fun h=>?_) fun h=>?_⟩
  ·have hq:¬ st.q=[]:=of_decide_eq_false (by rw[<-Jp (decide _),h];rfl)
   have rm:=zaw v hL A3 hS ln3 hb
   obtain⟨_,_,f3⟩:=HG v A3
   rw[<-hBm] at f3
   have hpos:=Iq.mpr hq
   have hql:=xR hs3.fall
   obtain⟨P',cur',A4⟩:=WL ok A3 hS hq
   exact⟨_,rfl,A.s,A.d,_,rfl,hs3.os,Y3,G,E,M,A,st,rfl,hs3,ev,hq,rm,fun M5 hs5=>⟨_,M5,(by lia:Bm - (T + 1) < Bm - T),Sub.refl _,_,P',cur',T + 1,_,_,rfl,hs5,A4,ln3.next,rfl,congrArg (jC G) hst3⟩⟩
  ·have hq:st.q=[]:=of_decide_eq_true (by rw[<-Jp (decide _),h];rfl)
   obtain⟨y1,y2⟩:=hs3.told
   exact⟨_,rfl,A.s,A.d,_,_,rfl,hs3.os,yD,_,y2,r st.best ⟨S,_,st,P,cur,T,A3,hq,rfl,hst3⟩ A.b y1⟩
end Rg
namespace L2
open PySem PySem.Spec PyProof.Rows
section
variable {X:Cx}{pins:List (Addr×Obj)}{σ:St}{H:Hp}{s:Ah}{a:Addr}{u:HO}
def IsDict(u:HO):Prop:=(∃ ks,u=.dK ks)\/∃ ks,u=.dT ks
theorem Inv.frzD(I:Inv X pins σ H s)(e:H a=some u)(hd:IsDict u):∃ o,Inv X pins σ (aQ H a (.frz o u)) s:=by
 obtain⟨o,ho⟩:∃ o,s.heap.get? a=some o:=by
  have:=I.hok a u e
  rcases hd with⟨ks,rfl⟩ | ⟨ks,rfl⟩
  ·obtain⟨_,_,_,_,o,_,_,e,_⟩:=this;exact⟨o,e⟩
  ·obtain⟨_,_,_,_,o,_,_,e,_⟩:=this;exact⟨o,e⟩
 refine⟨o,?_⟩
 have ne:∀ {b:Addr} {v:HO},H b=some v->v≠u->b≠a:=fun {b v} e1 h z=>by subst z;rw[e] at e1;exact h (Cr e1).symm
 have nn:∀ {b:Addr},H b=none->b≠a:=fun {b} e1 z=>by subst z;rw[e] at e1;cases e1
 have kt:∀ b xs,H b=some (.tup xs)->aQ H a (.frz o u) b=some (.tup xs):=fun b xs eb=>by
  rw[bH (ne eb (fun z=>by rcases hd with⟨ks,rfl⟩ | ⟨ks,rfl⟩ <;> cases z))];exact eb
 have ko:∀ b y,H b=some (.own y)->aQ H a (.frz o u) b=some (.own y):=fun b y eb=>by
  rw[bH (ne eb (fun z=>by rcases hd with⟨ks,rfl⟩ | ⟨ks,rfl⟩ <;> cases z))];exact eb
 refine I.step (h':=s.heap) (g':=s.gens) (d':=s.drawn) (t':=s.toks) (ch:=[]) (fun _ z=>nomatch z) (fun b o _ _ _ e1 _=>e1) (fun b o _ _ _ e1 _=>⟨o.slots,e1⟩) (fun b o _ _ n=>by rw[bH (nn n)];exact n) (fun b o _ e1=>⟨o,e1⟩) kt
  (fun b ob v eb=>?_) (fun b ps eb=>⟨#[],?_⟩) (fun m hm=>hm) (fun b v eb=>?_) I.bare
 ·rw[bH (ne eb (fun z=>by rcases hd with⟨ks,rfl⟩ | ⟨ks,rfl⟩ <;> cases z))];exact eb
 ·rw[bH (ne eb (fun z=>by rcases hd with⟨ks,rfl⟩ | ⟨ks,rfl⟩ <;> cases z)),eb];simp
 ·by_cases hb:b=a
  ·subst hb
   rw[cU] at eb
   cases eb
   exact⟨ho,(I.hok b u e).stay (fun _ _ _ q=>q) (fun c q=>ko c b q) kt⟩
  ·rw[bH hb] at eb
   exact(I.hok b v eb).stay (fun _ _ _ q=>q) (fun c q=>ko c b q) kt
def zaB(Q:VK):VK:=fun v H=>∃ a u,v=.ref a/\H a=some u/\IsDict u/\∀ o,Q v (aQ H a (.frz o u))
theorem zaC{e:Expr}{t:TE}(h:PE X e t):PE X e (fun σ H Q=>t σ H (zaB Q)):=fun pins s σ H Q I q=>
 a9 (h pins s σ H _ I q) fun v s1 ⟨x,H1,I1,r1,a,u,e1,e2,e3,q1⟩=>by
  obtain⟨o,I2⟩:=I1.frzD e2 e3
  exact⟨x,_,I2,r1,q1 o⟩
def tY(a:Addr)(o:Obj)(u:HO)(xs:List V):It:=
 ⟨fun i H=>H a=some (.frz o u)/\i < xs.length,fun i H x H'=>H'=H/\xs[i]? = some x,fun i H=>H a=some (.frz o u)/\xs.length<=i⟩
theorem IK{P:Bo}{w:Ce}{K:Ac}{tg:Expr}(a it:Addr)(o:Obj)(u:HO)(xs:List V)(es:Array Ib)(ep:Nat)(hd:o.data=.dict es ep)(hn:es.size=xs.length)(hx:∀ (i:Nat) (e:Ib),es[i]? = some e->∃ x,xs[i]? = some x/\RelV x e.key) :
  iX P w K tg (tY a o u xs) [it] it (fun i h=>h.IsKeyIter it a i es.size ep) where
 mem:=by simp
 obj:=fun i h st b hb=>by
  have e:b=it:=by simpa using hb
  subst e
  obtain⟨o,e,c,d⟩:=st
  exact⟨o,e,fun v z=>by rw[d] at z;cases z⟩
 keep:=fun i h h' st k=>st.at fun o e=>k it (by simp) o e
 item:=by
  intro X hP hw hK hc i pins s σ H E I hf st hg
  subst hP hw hK
  obtain⟨e1,hi⟩:=hg
  have ho:s.heap.get? a=some o:=(show cN X.prog X.w H s.heap a (.frz o u) from I.hok a _ e1).1
  have hi2:i < es.size:=by omega
  obtain⟨x,hx1,rx⟩:=hx i es[i] (by simp[hi2])
  obtain⟨f0,f1,f2,f3,f4,f5⟩:=hf it (by simp)
  refine R6 st ho hd hi2 fun h' st' sb=>?_
  have I1:Inv X pins σ H {s with heap:=h'}:=I.turned (t':=s.toks) (fun b o hb e=>(sb.2 b hb).trans e) f0 f1 f3 f4 f5
  obtain⟨o',e,c,d⟩:=id st'
  exact⟨_,rfl,rA (s:={s with heap:=h'}) e c d (by decide) ⟨x,H,I1,rx,⟨rfl,hx1⟩,st',fun b hb=>(hf b hb).1⟩⟩
 done:=by
  intro X hP hw hK hc i pins s σ H E I hf st hg
  subst hP hw hK
  obtain⟨e1,hi⟩:=hg
  have ho:s.heap.get? a=some o:=(show cN X.prog X.w H s.heap a (.frz o u) from I.hok a _ e1).1
  refine R7 (I.ok.hd hc) st ho hd (by omega) fun h' hk=>⟨rfl,?_⟩
  exact I.turnedT (tk:=s.toks) hf fun q o hq eq=>hk q o (fun z=>hq (by simp[z])) eq
 self:=fun _ _ _ _ _ st h=>wpAny_pyIter_keyiter st h
end
end L2
namespace L3
open PySem PySem.Spec PyProof.Rows L2
section
variable {X:Cx}{e:Expr}{te:aX}
def IL(t:aX):aX:=fun τ M R=>t τ M fun w M'=>∃ p,w=.ref p/\((∃ kvs,M' p=some (.dK kvs)/\R (.fk kvs) (del M' p))\/∃ kvs,M' p=some (.dT kvs)/\R (.ft kvs) (del M' p))
theorem IM{K:Ac}{H:Hp}{M:Mm}{p:Addr}{o:Obj}{u:HO}{x:MO}(am:AM K H M)(e:M p=some x)(hd:IsDict u)(hu:H p=some u):Go H M (aQ H p (.frz o u)) (del M p)/\AM K (aQ H p (.frz o u)) (del M p)/\Kp H M (aQ H p (.frz o u)) (del M p):=by
 have nn:∀ {b:Addr},M b=none->b≠p:=fun {b} h z=>by subst z;rw[e] at h;cases h
 have go:Go H M (aQ H p (.frz o u)) (del M p):=by
  refine⟨fun b xs eb=>?_,fun b ob v eb=>?_,fun b v n eb=>?_⟩
  ·rw[bH (nn (am.noTup eb))];exact eb
  ·rw[bH (nn (am.noFrz eb))];exact eb
  ·rw[bH (nn n),vR (nn n)];exact⟨eb,n⟩
 refine⟨go,fun a o2 ea=>?_,fun a v n ea=>?_,fun a v ea=>?_⟩
 ·have ne:a≠p:=fun z=>by rw[z,nK] at ea;cases ea
  rw[vR ne] at ea
  exact(am a o2 ea).go go (bH ne)
 ·rw[bH (nn n),vR (nn n)];exact⟨ea,n⟩
 ·by_cases ha:a=p
  ·subst ha;exact⟨_,cU⟩
  ·obtain⟨y,q⟩:=(am a v ea).has
   exact⟨y,by rw[bH ha];exact q⟩
theorem zaD(h:E3 X e te):E3 X e (IL te):=
 (zaC h).weak fun σ H Q z0=>z0.el fun τ M R as am h k=>⟨τ,M,_,as,am,h,fun v H' w M' k' am' av ⟨p,hw,r⟩=>by
  subst hw
  obtain rfl:=av.inv
  rcases r with⟨kvs,e,r⟩ | ⟨kvs,e,r⟩
  ·obtain⟨ks,f,q⟩:=am' _ _ e
   refine⟨p,.dK ks,rfl,f,.inl ⟨_,rfl⟩,fun o=>?_⟩
   obtain⟨g,am2,k2⟩:=IM (o:=o) am' e (.inl ⟨_,rfl⟩) f
   exact k _ _ _ _ (k'.trans k2) am2 (.fk cU q.keys (q.vals.go g)) r
  ·obtain⟨ks,f,q⟩:=am' _ _ e
   refine⟨p,.dT ks,rfl,f,.inr ⟨_,rfl⟩,fun o=>?_⟩
   obtain⟨g,am2,k2⟩:=IM (o:=o) am' e (.inr ⟨_,rfl⟩) f
   exact k _ _ _ _ (k'.trans k2) am2 (.ft cU q.keys (q.vals.go g)) r⟩
def yL:W->Mm->(List W->(Mm->Prop)->Mm->Prop)->Prop
 | .fk kvs,M1,R=>R (kvs.map fun p=>wK p.1) (fun _=>True) M1
 | .ft kvs,M1,R=>R (kvs.map fun p=>.tup (p.1.map wK)) (fun _=>True) M1
 | _,_,_=>False
theorem IP{K:Ac}{H0:Hp}{M0:Mm}{a:Addr}{o:Obj}{u:HO}{xs:List V}{ws:List W}(am0:AM K H0 M0)(e:H0 a=some (.frz o u))(q0:aM K H0 M0 xs ws):g9 K H0 M0 (tY a o u xs) ws fun _=>True:=by
 have st:∀ H M,Kp H0 M0 H M->H a=some (.frz o u):=fun H M k=>(k.fr _ _ (am0.noFrz e) e).1
 refine⟨fun i H M k am _ hi=>⟨st H M k,by rw[q0.length];exact hi⟩,fun H M k am _=>⟨st H M k,by rw[q0.length];exact Aj _⟩,fun i H M x H' k am _ hi y=>?_⟩
 obtain⟨rfl,y⟩:=y
 obtain⟨w,hw,av⟩:=(q0.kp am0 k).getV y
 exact⟨w,hw,Kp.refl am,am,av⟩
theorem zaE{K:Ac}{H:Hp}{M:Mm}:∀ k:aE,AV K H M (kV k) (wK k)
 | .inl i=>.int i
 | .inr x=>.str x
theorem zaF{P:Bo}{w:Ce}{H:Hp}{h:Heap}{a:Addr}{ks:List (aE×V)}{o:Obj}(ok:cR P w H h)(e:H a=some (.frz o (.dK ks))) :
  ∃ es ep,pB h a es ep/\o.data=.dict es ep/\(a == Gb)=false/\es.size=ks.length/\∀ (i:Nat) (en:Ib),es[i]? = some en->∃ p,ks[i]? = some p/\RelV (kV p.1) en.key/\RelV p.2 en.val:=by
 obtain⟨ho,hz,hne,vs,rkv,o2,es,ep,h1,h2,h3,h4,h5,h6⟩:=(show cN P w H h a (.frz o (.dK ks)) from ok a _ e)
 rw[ho] at h1
 cases h1
 have l1:=rkv.length
 have l2:=h5.length
 rw[Bx] at l2
 refine⟨es,ep,⟨o,ho,h2,h3⟩,h3,hne,by omega,fun i en hen=>?_⟩
 have hi:=(Array.getElem?_eq_some_iff.mp hen).1
 obtain⟨⟨k,x⟩,hv⟩:∃ v,vs[i]? = some v:=⟨_,Ak (by omega)⟩
 obtain⟨z1,z2⟩:=h5.get? (by rw[Gj];exact hen) hv
 have:∀ {ks:List (aE×V)} {vs:List (aE×Ae)} {i:Nat},KV ks vs->vs[i]? = some (k,x)->∃ v,ks[i]? = some (k,v)/\RelV v x:=by
  intro ks vs i r
  induction r generalizing i with
  | nil=>intro h;simp at h
  | @cons p q ps qs hq t ih=>
   intro h
   cases i with
   | zero=>simp at h;subst h;obtain⟨p1,p2⟩:=p;cases hq.1;exact⟨p2,rfl,hq.2⟩
   | succ i=>rw[Ft] at h ⊢;exact ih h
 obtain⟨v,q1,q2⟩:=this rkv hv
 exact⟨(k,v),q1,EM z1,by rw[z2];exact q2⟩
theorem zaG{P:Bo}{w:Ce}{H:Hp}{h:Heap}{a:Addr}{ks:List (List aE×V)}{o:Obj}(ok:cR P w H h)(e:H a=some (.frz o (.dT ks))) :
  ∃ es ep,pB h a es ep/\o.data=.dict es ep/\(a == Gb)=false/\es.size=ks.length/\∃ as:List Addr,as.length=ks.length/\(∀ (i:Nat) (p:List aE×V) (b:Addr),ks[i]? = some p->as[i]? = some b->H b=some (.tup (p.1.map kV)))/\
   ∀ (i:Nat) (en:Ib),es[i]? = some en->∃ p b,ks[i]? = some p/\as[i]? = some b/\en.key=.ref b/\RelV p.2 en.val:=by
 obtain⟨ho,hz,hne,xs,rel,o2,es,ep,h1,h2,h3,h4,h5⟩:=(show cN P w H h a (.frz o (.dT ks)) from ok a _ e)
 rw[ho] at h1
 cases h1
 have l1:=Nb h4
 have l2:=Ee rel
 refine⟨es,ep,⟨o,ho,h2,h3⟩,h3,hne,by omega,xs.map fun x=>x.2.1,by rw[Ab];omega,fun i p b hp hb=>?_,fun i en hen=>?_⟩
 ·rw[Av] at hb
  obtain⟨x,hx,rfl⟩:=Bg.mp hb
  have:∀ {ks:List (List aE×V)} {xs:List (List aE×Addr×Ae)} {i:Nat},Gr (fun(p:List aE×V) (q:List aE×Addr×Ae)=>p.1=q.1/\H q.2.1=some (.tup (p.1.map kV))/\RelV p.2 q.2.2) ks xs->ks[i]? = some p->xs[i]? = some x->H x.2.1=some (.tup (p.1.map kV)):=by
   intro ks xs i r
   induction r generalizing i with
   | nil=>intro h;simp at h
   | @cons p q ps qs hq t ih=>
    intro h g
    cases i with
    | zero=>simp at h g;subst h;subst g;exact hq.2.1
    | succ i=>rw[Ft] at h g;exact ih h g
  exact this rel hp hx
 ·rw[entry_at h4 i] at hen
  obtain⟨x,hx,rfl⟩:=Bg.mp hen
  have:∀ {ks:List (List aE×V)} {xs:List (List aE×Addr×Ae)} {i:Nat},Gr (fun(p:List aE×V) (q:List aE×Addr×Ae)=>p.1=q.1/\H q.2.1=some (.tup (p.1.map kV))/\RelV p.2 q.2.2) ks xs->xs[i]? = some x->∃ p,ks[i]? = some p/\RelV p.2 x.2.2:=by
   intro ks xs i r
   induction r generalizing i with
   | nil=>intro h;simp at h
   | @cons p q ps qs hq t ih=>
    intro h
    cases i with
    | zero=>simp at h;subst h;exact⟨p,rfl,hq.2.2⟩
    | succ i=>rw[Ft] at h ⊢;exact ih h
  obtain⟨p,q1,q2⟩:=this rel hx
  exact⟨p,x.2.1,q1,by rw[Av,hx];rfl,rfl,q2⟩
theorem zaH{tg:Expr}:lO X tg (sI X.K yL):=by
 rintro pins s σ H x u R' I r1 ⟨wx,M,R,ax,am,h,k⟩
 cases ax <;> first | exact(show False from h).elim | skip
 case fk a o ks kvs e ke q=>
  cases (show u=Value.ref a from r1)
  obtain⟨es,ep,hr,hd,hne,hsz,hen⟩:=zaF I.hok e
  have fp:∀ b∈[s.heap.objs.size],gM X pins H b:=fun b hb=>by
   have e:b=s.heap.objs.size:=by simpa using hb
   subst e
   exact I.fpOk (Aj _) (I.hok.fresh (Aj _))
  refine ER hne hr ⟨s.heap.objs.size,[s.heap.objs.size],_,tY a o (.dK ks) (ks.map fun p=>kV p.1),H,rfl,I.kept (t':=s.toks) fun b o e=>Af _ e,IK a _ o _ _ es ep hd (by rw[Ab];exact hsz) (fun i en he=>?_),⟨_,Au _ rfl,rfl,rfl⟩,fp,k _ _ _ _ _ (Kp.refl am) am (IP am e ?_) h⟩
  ·obtain⟨p,h1,h2,_⟩:=hen i en he
   exact⟨kV p.1,by rw[Av,h1];rfl,h2⟩
  ·have hk:(ks.map fun p=>kV p.1)=(ks.map Fh).map kV:=by rw[Dl];rfl
   have hw:(kvs.map fun p=>wK p.1)=(kvs.map Fh).map wK:=by rw[Dl];rfl
   rw[hk,hw,ke]
   generalize kvs.map Fh=l
   induction l with
   | nil=>exact .nil
   | cons z l ih=>exact .cons (zaE z) ih
 case ft a o ks kvs e ke q=>
  cases (show u=Value.ref a from r1)
  obtain⟨es,ep,hr,hd,hne,hsz,as,hl,hat,hen⟩:=zaG I.hok e
  have fp:∀ b∈[s.heap.objs.size],gM X pins H b:=fun b hb=>by
   have e:b=s.heap.objs.size:=by simpa using hb
   subst e
   exact I.fpOk (Aj _) (I.hok.fresh (Aj _))
  refine ER hne hr ⟨s.heap.objs.size,[s.heap.objs.size],_,tY a o (.dT ks) (as.map V.ref),H,rfl,I.kept (t':=s.toks) fun b o e=>Af _ e,IK a _ o _ _ es ep hd (by rw[Ab];omega) (fun i en he=>?_),⟨_,Au _ rfl,rfl,rfl⟩,fp,k _ _ _ _ _ (Kp.refl am) am (IP am e ?_) h⟩
  ·obtain⟨p,b,h1,h2,h3,_⟩:=hen i en he
   exact⟨.ref b,by rw[Av,h2];rfl,by rw[h3];rfl⟩
  ·have hw:(kvs.map fun p=>W.tup (p.1.map wK))=(ks.map Fh).map fun z=>W.tup (z.map wK):=by rw[ke,Dl];rfl
   rw[hw]
   have:∀ (ks:List (List aE×V)) (as:List Addr),as.length=ks.length->(∀ (i:Nat) (p:List aE×V) (b:Addr),ks[i]? = some p->as[i]? = some b->H b=some (.tup (p.1.map kV)))->aM X.K H M (as.map V.ref) ((ks.map Fh).map fun z=>W.tup (z.map wK)):=by
    intro ks
    induction ks with
    | nil=>intro as hl _;cases as with
     | nil=>exact .nil
     | cons b r=>simp at hl
    | cons p ks ih=>
     intro as hl hat
     cases as with
     | nil=>simp at hl
     | cons b r=>
      refine .cons (.tup (hat 0 p b rfl rfl) (G1 p.1)) (ih r (by simpa using hl) fun i p b h1 h2=>hat (i + 1) p b (by simpa using h1) (by simpa using h2))
   exact this ks as hl hat
theorem zaI{tg l:Expr}{tl:aX}(hl:E3 X l tl):PI X tg l (gE X.K (d8 yL tl)):=wN hl zaH
end
end L3
namespace PySem
namespace Dt
open PyProof.Rows L2 PySem.Spec
open Zd (TK allH G2 p5)
section
variable {prog:Bo}{w:Ce}{A:Ck}{E:Ae->Ah->Prop}{s:Ah}
theorem loop{d I l:Addr}{items:Array Ae}{ps:List (List aE×Addr×Ae)}{R:Result->Ah->Prop}(hh:A.handled=none)(hu:(TK prog w).room A.in1)(hdI:d≠I)(hdl:d≠l)(hlI:l≠I)(hn:ps.length=items.size)(hz:items.size<=Am)(hk:∀ p∈ps,p.2.1≠I/\p.2.1≠d) :
  ∀ (k i:Nat) (s:Ah) (es:List (List aE×Addr×Ae)),items.size - i=k->i<=items.size->es.length<=i->s.heap.IsListIter I l i->s.heap.IsList l items->s.heap.DictOfH (TK prog w) d es->(∀ e∈es,e∈ps\/∃ p∈ps,p.2.1=e.2.1)->
  (∀ p∈ps,(TK prog w).is s.heap p.1 p.2.1)->
  (∀ (j:Nat) (p:List aE×Addr×Ae),ps[j]? = some p->∃ (a:Addr),items[j]? = some (.ref a)/\a≠d/\a≠I/\s.heap.IsTuple a #[.ref p.2.1,p.2.2])->
  (∀ h' tk,(∀ b o,b≠d->b≠I->s.heap.get? b=some o->h'.get? b=some o)->h'.DictOfH (TK prog w) d (allH es (ps.drop i))->R (.ok (.ret .none)) {s with heap:=h',toks:=tk})->
  Jb (Bj prog w) A (.builtin "dict.update.loop" ⟨[.ref d,.ref I,Fs (i:Int),.none],[]⟩) R s:=by
 intro k
 have dictAt:∀ {h h':Heap} {es:List (List aE×Addr×Ae)},h.DictOfH (TK prog w) d es->(∀ e∈es,e∈ps\/∃ p∈ps,p.2.1=e.2.1)->(∀ c o,c≠I->h.get? c=some o->h'.get? c=some o)->h'.DictOfH (TK prog w) d es:=by
  rintro h h' es ⟨o,en,ep,ho,hc,hdd,he,his,hn⟩ hes hm
  refine⟨o,en,ep,hm d o hdI ho,hc,hdd,he,fun x hx'=>p5 (his x hx') fun o' e=>?_,hn⟩
  have:x.2.1≠I:=by
   rcases hes x hx' with q | ⟨p,q,e'⟩
   ·exact(hk x q).1
   ·have:=(hk p q).1;rw[e'] at this;exact this
  exact hm _ _ this e
 induction k with
 | zero=>
  intro i s es hm hi hl hit hls hd hes hkeys hp hR
  have hin:i=items.size:=by lia
  refine Fm Dp.entry_loop ?_
  rw[Ec Dp.plain_loop _]
  show Ba _ A.in1 (Hh (.ref I) >>= _) _ _ s
  have W:=Ks (prog:=prog) (w:=w) (A:=A.in1) hh I l hlI items
  refine Aa (W.done s _ _ (by rw[<-hin];exact⟨hit,hls⟩) fun h' tk hm=>?_)
  show Ba _ A.in1 (Builtin.Dict.addKeywords d [] >>= _) _ _ _
  refine Aa (Ag (Ag (hR h' tk (fun b o _ hb e=>hm b o (by simp[hb]) e) ?_)))
  rw[List.drop_of_length_le (by lia)]
  exact dictAt hd hes fun c o hc e=>hm c o (by simp[hc]) e
 | succ k ih=>
  intro i s es hm hi hl hit hls hd hes hkeys hp hR
  have hlt:i < items.size:=by lia
  refine Fm Dp.entry_loop ?_
  rw[Ec Dp.plain_loop _]
  show Ba _ A.in1 (Hh (.ref I) >>= _) _ _ s
  have W:=Ks (prog:=prog) (w:=w) (A:=A.in1) hh I l hlI items
  refine Aa (W.item i s _ _ hlt ⟨hit,hls⟩ fun v h' tk hv hst hm=>?_)
  obtain⟨p,hpi⟩:∃ p,ps[i]? = some p:=⟨_,Ak (by lia)⟩
  have hpm:p∈ps:=An hpi
  obtain⟨a,ha,had,haI,hat⟩:=hp i p hpi
  rw[ha] at hv
  cases hv
  have hd':=dictAt hd hes fun c o hc e=>hm c o (by simp[hc]) e
  have hkeys':∀ q∈ps,(TK prog w).is h' q.1 q.2.1:=fun q hq=>p5 (hkeys q hq) fun o e=>hm _ o (by simp[(hk q hq).1]) e
  have hat':h'.IsTuple a #[.ref p.2.1,p.2.2]:=by
   obtain⟨o,ho,rest⟩:=hat
   exact⟨o,hm a o (by simp[haI]) ho,rest⟩
  show Ba _ A.in1 (Ht [Value.ref a] _ >>= _) _ _ _
  refine Aa (Cq (Aa (wpAny_tryCatch ?_)))
  unfold Builtin.Dict.pairItems
  obtain⟨o,ho,hc,n,hd2⟩:=hat'
  refine Aa (Jz (T:="tuple") ⟨o,ho,hc⟩ ?_)
  rw[if_pos (by decide)]
  refine Aa (Fv ho hd2 (Ag ?_))
  show Ba _ _ (Ht [Value.ref p.2.1,p.2.2] (dictSet d (.ref p.2.1) p.2.2)) _ _ _
  refine Cq (wpAny_dictSet_heap (knd:=TK prog w) hu (hkeys' p hpm) hd' (hsz:=by lia) fun h2 hd3 hs2=>?_)
  have e1:ps.drop i=p :: ps.drop (i + 1):=by rw[Gp (by lia)];congr 1;exact(Ai.mp hpi).2
  refine Ag ⟨He Dp.plain_loop _,?_⟩
  refine ih (i + 1) _ (Mw es p.1 p.2.1 p.2.2) (by lia) hlt (by have:=G2 es p.1 p.2.1 p.2.2;lia) (hst.1.at fun o e=>(hs2.2 I (Bp hdI)).trans e) (hst.2.at fun o e=>(hs2.2 l (Bp hdl)).trans e) hd3 (fun e he=>?_) (fun q hq=>p5 (hkeys' q hq) fun o e=>(hs2.2 _ (hk q hq).2).trans e) (fun j q hq=>?_) fun h3 tk3 hk3 hd4=>?_
  ·unfold Mw at he
   split at he
   ·obtain⟨e0,he0,rfl⟩:=Az.mp he
    have:(putAt p.1 p.2.2 e0).2.1=e0.2.1:=by unfold putAt;split <;> rfl
    rw[this]
    rcases hes e0 he0 with q | ⟨p',q,e'⟩
    ·exact .inr ⟨e0,q,rfl⟩
    ·exact .inr ⟨p',q,e'⟩
   ·rcases Bl.mp he with q | q
    ·exact hes e q
    ·obtain rfl:=Aw.mp q
     exact .inl hpm
  ·obtain⟨a,g1,g2,g3,⟨o,g4,g5⟩⟩:=hp j q hq
   exact⟨a,g1,g2,g3,⟨o,(hs2.2 a g2).trans (hm a o (by simp[g3]) g4),g5⟩⟩
  ·refine hR h3 tk3 (fun b o h1 h2 e=>hk3 b o h1 h2 ((hs2.2 b h1).trans (hm b o (by simp[h2]) e))) ?_
   rw[e1];exact hd4
theorem call_pairs{l:Addr}{items:Array Ae}{c:Nat}{ps:List (List aE×Addr×Ae)}{Q:Ae->Ah->Prop}(hh:A.handled=none)(hu:A.units + 2 < Fn)(hx:s.heap.get? l=some {cls:=.type "list",data:=.seq items c})(hn:ps.length=items.size)(hz:items.size<=Am)
  (hkeys:∀ p∈ps,(TK prog w).is s.heap p.1 p.2.1)
  (hp:∀ (j:Nat) (p:List aE×Addr×Ae),ps[j]? = some p->∃ (a:Addr),items[j]? = some (.ref a)/\s.heap.IsTuple a #[.ref p.2.1,p.2.2])
  (h:∀ h' tk,(∀ b o,s.heap.get? b=some o->h'.get? b=some o)->h'.DictOfH (TK prog w) s.heap.objs.size (allH [] ps)->Q (.ref s.heap.objs.size) {s with heap:=h',toks:=tk}) :
  Ba (Bj prog w) A (call (.type "dict") [.ref l]) Q E s:=by
 refine callType_codes (Q₁:=fun obj s₁=>obj=.ref s.heap.objs.size/\s₁ = {s with heap:=s.heap.push {cls:=.type "dict",data:=.dict #[]}}) F.kt_called_dict (F.kt_typeCall_dict_1 _) F.entry_dict_init (kt_code_dict_new _ ⟨rfl,rfl⟩) ?_
 rintro obj s₁ ⟨rfl,rfl⟩
 have lt:l < s.heap.objs.size:=Ap hx
 have hnew:(s.heap.push {cls:=.type "dict",data:=.dict #[]}).DictOfH (TK prog w) s.heap.objs.size []:=Heap.DictOfH.new s.heap
 have hx':(s.heap.push {cls:=.type "dict",data:=.dict #[]}).get? l=some {cls:=.type "list",data:=.seq items c}:=Af _ hx
 have hty:({s with heap:=s.heap.push {cls:=.type "dict",data:=.dict #[]}}:Ah).TypeIs (.ref s.heap.objs.size) "dict":=hnew.typeIs
 refine⟨hty,F.args_dict_init_2 _ _,?_⟩
 unfold Ha.«dict.__init__»
 refine Aa ?_
 unfold Builtin.Dict.selfAndRest
 refine Aa (Ic hty ?_)
 show Ba _ _ (pure (s.heap.objs.size,[Value.ref l])) _ _ _
 refine Ag ?_
 show Ba _ _ (Ig "dict.__init__" s.heap.objs.size (.ref l) [] .none) _ _ _
 unfold Ig
 refine Aa (Jz (T:="list") ⟨_,hx',rfl⟩ ?_)
 rw[if_pos (by decide)]
 refine Aa (Dp.keys_miss hx' hh fun h1 tk1 hk1=>?_)
 rw[if_pos (by decide)]
 have hx1:=hk1 _ _ hx'
 have hd1:h1.DictOfH (TK prog w) s.heap.objs.size []:=by
  obtain⟨o,es,ep,ho,r1,r2,r3,r4,r5⟩:=hnew
  exact⟨o,es,ep,hk1 _ o ho,r1,r2,r3,(fun x hx=>nomatch hx),r5⟩
 refine Aa (Ga (Aa (Gx (items:=items) ⟨_,hx1,rfl,c,rfl⟩ ?_)))
 have gI:(h1.push {cls:=.type "list_iterator",data:=.fields #[.ref l,.int 0 0]}).IsListIter h1.objs.size l 0:=⟨_,Au _ rfl,rfl,rfl⟩
 have up:∀ b o,s.heap.get? b=some o->(h1.push {cls:=.type "list_iterator",data:=.fields #[.ref l,.int 0 0]}).get? b=some o:=fun b o e=>Af _ (hk1 b o (Af _ e))
 have l1:s.heap.objs.size < h1.objs.size:=by
  obtain⟨o,es,ep,ho,rest⟩:=hd1
  exact Ap ho
 have lk:∀ p∈ps,@LT.lt Nat _ p.2.1 s.heap.objs.size:=fun p hp=>by
  obtain⟨o,items,n,e,_⟩:=hkeys p hp
  exact Ap e
 refine Ag ⟨He Dp.plain_loop _,?_⟩
 refine loop (A:=A.in1) (d:=s.heap.objs.size) (I:=h1.objs.size) (l:=l) (items:=items) (ps:=ps) hh (Ew (A:=A.in1) (show(A.units + 1) + 1 < Fn from hu)) (Be l1) (Ct lt) (Be (Gd lt l1)) hn hz (fun p hp=>⟨Be (Gd (lk p hp) l1),Be (lk p hp)⟩) items.size 0 _ [] rfl (Ci _) (Aj _) gI ⟨_,Af _ hx1,rfl,c,rfl⟩ (by
  obtain⟨o,es,ep,ho,r1,r2,r3,r4,r5⟩:=hd1
  exact⟨o,es,ep,Af _ ho,r1,r2,r3,(fun x hx=>nomatch hx),r5⟩) (fun e he=>nomatch he) (fun p hp=>p5 (hkeys p hp) (up _)) (fun j p hj=>?_) fun h2 tk2 hk2 hd2=>?_
 ·obtain⟨a,g1,⟨o,g2,g3⟩⟩:=hp j p hj
  have la:=Ap g2
  exact⟨a,g1,Be la,Be (Gd la l1),⟨o,up a o g2,g3⟩⟩
 ·exact⟨rfl,h h2 tk2 (fun b o e=>hk2 b o (Be (Ap e)) (Be (Gd (Ap e) l1)) (up b o e)) hd2⟩
end
end Dt
end PySem
namespace L3
open PySem PySem.Spec PyProof.Rows L2
section
variable {X:Cx}
def oB(ps:List (List aE×W)):List W:=ps.map fun p=>.tup [.tup (p.1.map wK),p.2]
theorem IQ{pins:List (Addr×Obj)}{σ:L2.St}{H:Hp}{M:Mm}{s:Ah}(I:L2.Inv X pins σ H s):∀ {ps:List (List aE×W)} {vs:List V} {its:List Ae},aM X.K H M vs (oB ps)->aZ vs its->
  ∃ (qs:List (List aE×Addr×V)) (rs:List (List aE×Addr×Ae)),bS X.K H M (List aE) (qs.map fun q=>(q.1,q.2.2)) ps/\(∀ q∈qs,H q.2.1=some (.tup (q.1.map kV)))/\Gr (fun(q:List aE×Addr×V) (p:List aE×Addr×Ae)=>q.1=p.1/\q.2.1=p.2.1/\RelV q.2.2 p.2.2) qs rs/\rs.length=its.length/\
   (∀ z∈rs,H z.2.1=some (.tup (z.1.map kV)))/\∀ (j:Nat) (p:List aE×Addr×Ae),rs[j]? = some p->∃ (a:Addr),its[j]? = some (.ref a)/\s.heap.IsTuple a #[.ref p.2.1,p.2.2]
 | [],_,_,.nil,.nil=>⟨[],[],.nil,(fun q hq=>nomatch hq),.nil,rfl,(fun q hq=>nomatch hq),fun j p h=>by simp at h⟩
 | (k,w) :: ps,_,_,.cons av avs,.cons rv rvs=>by
  obtain⟨qs,rs,h1,h2,h3,h4,h5,h6⟩:=IQ I avs rvs
  obtain⟨a,xs,ev,e,q⟩:=av.inv
  rw[ev] at rv
  obtain⟨u1,u2,ex,a1,a2⟩:=q.two
  obtain⟨b,zs,eu,eb,qb⟩:=a1.inv
  rw[qb.keys] at eb
  obtain⟨its2,r2,pl,_⟩:=I.tuple (bN.of e)
  rw[ex,eu] at r2
  obtain⟨y1,y2,ey,x1,x2⟩:=vals2 r2
  rw[ey,show y1=.ref b from x1] at pl
  refine⟨(k,b,u2) :: qs,(k,b,y2) :: rs,.cons ⟨rfl,a2⟩ h1,List.forall_mem_cons.mpr ⟨eb,h2⟩,.cons ⟨rfl,rfl,x2⟩ h3,congrArg (· + 1) h4,List.forall_mem_cons.mpr ⟨eb,h5⟩,fun j p hj=>?_⟩
  cases j with
  | zero=>rw[<-Cr hj];exact⟨a,congrArg some rv,pl⟩
  | succ j=>exact h6 j p hj
def IS:List W->Mm->K3->Prop
 | [.rl ws],M,R=>∃ ps:List (List aE×W),ws=oB ps/\ws.length<=Am/\iH (nW [] ps) M R
 | _,_,_=>False
theorem zaJ(hc:X.calm=true)(hu:X.A.units + 2 < Fn):dA X (.type "dict") (gC X.K IS):=by
 rintro pins s σ H xs us Q I rs ⟨ws,M,R,am,axs,h,k⟩
 match ws,h with
 | [.rl ws],h=>
  obtain⟨v,rfl,av⟩:=axs.one
  obtain⟨ps,rfl,hz,r⟩:=h
  obtain⟨u,rfl,ru⟩:=vals1 rs
  cases av with
  | rl f n q=>
   cases ru
   obtain⟨z,its,c,rv,hl,e⟩:=I.lstM f
   obtain⟨qs,rs',h1,h2,h3,h4,h5,h6⟩:=IQ I q rv
   have hz2:ps.length<=Am:=by simpa [oB] using hz
   have hql:qs.length=ps.length:=by have:=Ee h1;rwa [Ab] at this
   refine Dt.call_pairs (items:=its.toArray) (ps:=rs') (I.ok.hd hc) hu e (by simpa using h4) (by rw[Bb];lia) (fun p hp=>iY I.hok (h5 p hp)) (fun j p hj=>by simpa using h6 j p hj) fun h' tk hk dd=>?_
   have hfr:=I.hok.fresh (Aj _)
   have len:=G3 (qs.map fun q=>(q.1,q.2.2)) []
   rw[Ab] at len
   have puts:∀ {ps:List (List aE×W)} {qs:List (List aE×V)} {ks:List (List aE×V)} {kvs:List (List aE×W)},bS X.K H M (List aE) qs ps->bS X.K H M (List aE) ks kvs->bS X.K H M (List aE) (mR ks qs) (nW kvs ps):=by
    intro ps qs ks kvs h
    induction h generalizing ks kvs with
    | nil=>intro h;exact h
    | @cons q p qs ps r t ih=>
     intro h
     obtain⟨q1,q2⟩:=q
     obtain⟨p1,p2⟩:=p
     obtain⟨rfl,r2⟩:=r
     exact ih (r9 h q1 r2)
   have g:=puts (ks:=[]) (kvs:=[]) h1 .nil
   refine⟨.ref s.heap.objs.size,aQ H s.heap.objs.size (.dT (mR [] (qs.map fun q=>(q.1,q.2.2)))),I.laid (o:=.dT (mR [] (qs.map fun q=>(q.1,q.2.2)))) (t':=tk) hk (Aj _) ⟨by simp at len;lia,beq_eq_false_iff_ne.mpr (Bp (Be I.big)),_,(VO h3 h2 .nil).keeps fun c ys ec=>?_,?_⟩,rfl,?_⟩
   ·rw[bH (d7 ec hfr)];exact ec
   ·obtain⟨o,en,ep,r1,r2,r3,r4,_,r5⟩:=dd
    exact⟨o,en,ep,r1,r2,r3,r4,r5⟩
   ·obtain⟨am2,k2⟩:=am.laid (o:=.dT (nW [] ps)) (u:=.dT (mR [] (qs.map fun q=>(q.1,q.2.2)))) hfr ⟨_,cU,pD g.keys (g.vals.newL hfr)⟩
    exact k _ _ _ _ k2 am2 (.ref _) (r _ (am.nonM hfr))
end
end L3
namespace Srt
open PySem SetTable
def kU(xs:Array Nat):Prop:=∀ i j (hi:i < xs.size) (hj:j < xs.size),i < j->xs[i] < xs[j]
theorem zaK{l:List Nat}(h:l.Pairwise (· < ·)):kU l.toArray:=by
 intro i j hi hj hij
 simp only[List.getElem_toArray]
 exact Im.mp h i j (by simpa using hi) (by simpa using hj) hij
theorem yM{xs:Array Nat}{j:Nat}(hr:kU xs):∀ (fuel lo hi:Nat),hi - lo<=fuel->lo<=hi->hi<=xs.size->(∀ i (h:i < xs.size),i < lo->xs[i] < j)->(∀ i (h:i < xs.size),hi<=i->j<=xs[i])->
  below.go xs j fuel lo hi<=xs.size/\(∀ i (h:i < xs.size),i < below.go xs j fuel lo hi->xs[i] < j)/\∀ i (h:i < xs.size),below.go xs j fuel lo hi<=i->j<=xs[i]
 | 0,lo,hi,hf,hl,hs,h1,h2=>by
  have:lo=hi:=by lia
  subst this
  exact⟨hs,h1,h2⟩
 | fuel + 1,lo,hi,hf,hl,hs,h1,h2=>by
  unfold below.go
  by_cases h:lo < hi
  ·rw[if_pos h]
   have hm:(lo + hi) / 2 < xs.size:=by lia
   have e:xs.getD ((lo + hi) / 2) j=xs[(lo + hi) / 2]:=by simp[Array.getD,hm]
   dsimp only
   rw[e]
   by_cases c:xs[(lo + hi) / 2] < j
   ·rw[if_pos c]
    refine yM hr fuel _ hi (by lia) (by lia) hs (fun i hi' hlt=>?_) h2
    by_cases hq:i=(lo + hi) / 2
    ·subst hq;exact c
    ·exact Gd (hr i _ hi' hm (by lia)) c
   ·rw[if_neg c]
    refine yM hr fuel lo _ (by lia) (by lia) (by lia) h1 fun i hi' hle=>?_
    by_cases hq:i=(lo + hi) / 2
    ·subst hq;exact Nat.le_of_not_lt c
    ·exact Bc (Nat.le_of_not_lt c) (Jr (hr _ i hm hi' (by lia)))
  ·rw[if_neg h]
   have:lo=hi:=by lia
   subst this
   exact⟨hs,h1,h2⟩
theorem yN{xs:Array Nat}(hr:kU xs)(j:Nat):below xs j<=xs.size/\(∀ i (h:i < xs.size),i < below xs j->xs[i] < j)/\∀ i (h:i < xs.size),below xs j<=i->j<=xs[i]:=
 yM hr xs.size 0 xs.size (by lia) (Ci _) (Aj _) (fun i _ h=>by lia) fun i h1 h2=>by lia
theorem zaL{xs:Array Nat}(hr:kU xs){i:Nat}(h:i < xs.size):below xs (xs[i] + 1)=i + 1:=by
 obtain⟨b1,b2,b3⟩:=yN hr (xs[i] + 1)
 rcases Nat.lt_trichotomy (below xs (xs[i] + 1)) (i + 1) with c | c | c
 ·have:=b3 i h (by lia);lia
 ·exact c
 ·have h':i + 1 < xs.size:=by lia
  have:=b2 (i + 1) h' c
  have:=hr i (i + 1) h h' (by lia)
  lia
theorem zaM{xs:Array Nat}(hr:kU xs):below xs 0=0:=by
 obtain⟨b1,b2,b3⟩:=yN hr 0
 rcases Nat.eq_zero_or_pos (below xs 0) with c | c
 ·exact c
 ·have:=b2 0 (by lia) c;lia
theorem zaN{xs:Array Nat}{j:Nat}(hr:kU xs)(hn:xs[below xs j]?≠some j):kU (insertAt xs (below xs j) j):=by
 obtain⟨b1,b2,b3⟩:=yN hr j
 have hlt:∀ i (h:i < xs.size),below xs j<=i->j < xs[i]:=fun i h hle=>by
  have q:=b3 i h hle
  rcases Nat.lt_or_ge j xs[i] with c | c
  ·exact c
  ·have e:xs[i]=j:=by lia
   by_cases hb:i=below xs j
   ·exact(hn (by rw[<-hb,getElem?_pos xs i h,e])).elim
   ·have hb':below xs j < xs.size:=by lia
    have:=hr (below xs j) i hb' h (by lia)
    have:=b3 (below xs j) hb' (Aj _)
    lia
 have gd:∀ i (h:i < xs.size),xs.getD i 0=xs[i]:=fun i h=>by simp[Array.getD,h]
 have hz:(insertAt xs (below xs j) j).size=xs.size + 1:=by unfold insertAt;simp;lia
 have hget:∀ i (h:i < (insertAt xs (below xs j) j).size),(insertAt xs (below xs j) j)[i]=if i < below xs j then xs.getD i 0 else if i=below xs j then j else xs.getD (i - 1) 0:=by
  intro i h
  have h':i < xs.size + 1:=by rw[<-hz];exact h
  have s1:(xs.extract 0 (below xs j)).size=below xs j:=by simp;lia
  unfold insertAt at h ⊢
  by_cases c1:i < below xs j
  ·rw[if_pos c1,Array.getElem_append_left (by simp;lia),Array.getElem_push_lt (by lia),gd i (by lia)]
   simp
  ·rw[if_neg c1]
   by_cases c2:i=below xs j
   ·rw[if_pos c2,Array.getElem_append_left (by simp;lia),Array.getElem_push,dif_neg (by lia)]
   ·rw[if_neg c2,Array.getElem_append_right (by simp;lia),gd (i - 1) (by lia)]
    simp only[Array.size_push,s1,Array.getElem_extract]
    congr 1
    lia
 intro p q hp hq hpq
 rw[hget p hp,hget q hq]
 rw[hz] at hp hq
 by_cases c1:p < below xs j
 ·rw[if_pos c1,gd p (by lia)]
  by_cases c2:q < below xs j
  ·rw[if_pos c2,gd q (by lia)];exact hr p q _ _ hpq
  ·rw[if_neg c2]
   by_cases c3:q=below xs j
   ·rw[if_pos c3];exact b2 p _ c1
   ·rw[if_neg c3,gd (q - 1) (by lia)]
    exact Gd (b2 p _ c1) (hlt (q - 1) _ (by lia))
 ·rw[if_neg c1,if_neg (show ¬ q < below xs j by lia),if_neg (show ¬ q=below xs j by lia),gd (q - 1) (by lia)]
  by_cases c3:p=below xs j
  ·rw[if_pos c3];exact hlt (q - 1) _ (by lia)
  ·rw[if_neg c3,gd (p - 1) (by lia)];exact hr (p - 1) (q - 1) _ _ (by lia)
def qJ(t:Gz)(j:Nat):Prop:=t.place[below t.place j]?≠some j
theorem IT{t:Gz}{j:Nat}(h:t.slot j=.empty\/t.slot j=.dummy):qJ t j:=by
 intro e
 unfold SetTable.slot at h
 simp[e] at h
theorem yO{t:Gz}{f:Nat->Int}{h:Int}:∀ (fuel:Nat) (p:Probe) {j:Nat} {d:Option Nat},probe.go t f h fuel p=some (.empty j d)->(∀ x,p.dummy=some x->qJ t x)->qJ t j/\∀ x,d=some x->qJ t x
 | 0,p,j,d,e,_=>by simp[probe.go] at e
 | fuel + 1,p,j,d,e,hd=>by
  unfold probe.go at e
  have adv:∀ q:Probe,(t.advance q).dummy=q.dummy:=fun q=>by unfold advance;split <;> rfl
  cases hs:t.slot p.j with
  | empty=>
   rw[hs] at e
   simp only[Eh,Met.empty.injEq] at e
   obtain⟨rfl,rfl⟩:=e
   exact⟨IT (.inl hs),hd⟩
  | dummy=>
   rw[hs] at e
   refine yO fuel _ e fun x hx=>?_
   rw[adv] at hx
   cases hx
   exact IT (.inr hs)
  | live i=>
   rw[hs] at e
   dsimp only at e
   split at e
   ·cases e
   ·exact yO fuel _ e fun x hx=>hd x (by rw[adv] at hx;exact hx)
theorem zaO{t:Gz}{h:Int}{j:Nat}{b:Bool}(e:t.freeSlot h=some (j,b)):qJ t j:=by
 unfold freeSlot at e
 split at e
 ·next j' d hp=>
  simp only[Eh,Dd] at e
  obtain⟨h1,h2⟩:=yO _ _ hp fun x hx=>by simp[probeStart] at hx
  cases d with
  | none=>rw[<-e.1];exact h1
  | some x=>rw[<-e.1];exact h2 x rfl
 ·cases e
def Good(b:Bool)(t:Gz):Prop:=kU t.place/\t.led=b
theorem zaP(n:Nat):kU (Array.range n):=by
 intro i j hi hj hij
 simpa using hij
theorem tZ{b:Bool}{t:Gz}(h:t.led=b)(n:Nat):Good b (t.standIn n):=⟨zaP n,h⟩
theorem zaQ{b:Bool}{t:Gz}(hg:Good b t)(es:Array (Int×Ae))(h:Int)(x:Ae):Good b (layNew t es h x).2.1:=by
 unfold layNew
 split
 ·next j w e=>
  dsimp only
  unfold orStandIn
  split
  ·exact⟨zaN hg.1 (zaO e),hg.2⟩
  ·exact tZ (t:=(t.put j).1) hg.2 _
 ·exact tZ hg.2 _
theorem zaR{b:Bool}{t:Gz}(hg:Good b t)(es:Array (Int×Ae))(n:Nat):Good b (relayAll t es n).2.1:=by
 unfold relayAll
 split
 ·next t' order e=>
  dsimp only
  split
  ·unfold relaid laid at e
   simp only[Option.bind_eq_bind,Option.bind_eq_some_iff] at e
   obtain⟨owner,_,e⟩:=e
   simp only[Option.pure_def,Eh,Dd] at e
   obtain⟨rfl,_⟩:=e
   refine⟨zaK ?_,hg.2⟩
   rw[List.map_filterMap]
   have:∀ l:List Nat,l.Pairwise (· < ·)->∀ f:Nat->Option Nat,(∀ a c,f a=some c->c=a)->(l.filterMap f).Pairwise (· < ·):=by
    intro l hl f hf
    refine List.Pairwise.filterMap (R:=(· < ·)) f (fun a a' haa c hc c' hc'=>?_) hl
    rw[hf a c hc,hf a' c' hc']
    exact haa
   refine this _ List.pairwise_lt_range _ fun a c hc=>?_
   simp only[Option.map_map,Bg] at hc
   obtain⟨_,_,rfl⟩:=hc
   rfl
  ·exact tZ hg.2 _
 ·exact tZ hg.2 _
end Srt
namespace Srt
open PySem PyProof.Rows
def Dj(prog:Bo)(w:Ce)(es:List (Int×Ae)):Prop:=es.Pairwise fun e e'=>∀ k,(Ed prog w).is k e.2=true->(Ed prog w).is k e'.2=true->False
def Nz(prog:Bo)(w:Ce)(es:Array (Int×Ae))(n:Nat):Prop:=es.size<=n/\Dj prog w es.toList
theorem Dj.perm{prog:Bo}{w:Ce}{es es':List (Int×Ae)}(h:Dj prog w es)(p:es'.Perm es):Dj prog w es':=p.symm.pairwise h fun q k a b=>q k b a
def f7(prog:Bo)(w:Ce)(h:Heap)(a:Addr)(S:Int->Prop)(n:Nat)(b:Bool):Prop:=
 ∃ o es ep t,h.get? a=some o/\o.ExactSet/\o.data=.set es ep t/\ElemsOf (Ed prog w) es.toList/\(∀ k,S k↔∃ e∈es.toList,(Ed prog w).is k e.2=true)/\Nz prog w es n/\t.fits es.size=true/\Good b t
section
variable {prog:Bo}{w:Ce}{A:Ck}{E:Ae->Ah->Prop}{s:Ah}{a:Addr}{b:Bool}
theorem f7.at{h h':Heap}{S:Int->Prop}{n:Nat}(x:f7 prog w h a S n b)(e:∀ o,h.get? a=some o->h'.get? a=some o):f7 prog w h' a S n b:=
 let ⟨o,es,ep,t,ho,r⟩:=x;⟨o,es,ep,t,e o ho,r⟩
theorem IU{o:Obj}{es es':Array (Int×Ae)}{ep:Nat}{t t':Gz}{S:Int->Prop}{n:Nat}{Q:Unit->Ah->Prop}(ho:s.heap.get? a=some o)(hx:o.ExactSet)(hd:o.data=.set es ep t)(he:ElemsOf (Ed prog w) es'.toList)
  (hm:∀ k,S k↔∃ e∈es'.toList,(Ed prog w).is k e.2=true) (hz:es'.size<=n) (hb:es'.size < Nk) (hf:t'.fits es'.size=true) (hg:Good b t')
  (h:∀ h' o',Dn a s.heap h'->h'.get? a=some o'->o'.ExactSet->(∃ ep',o'.data=.set es' ep' t')->Q () {s with heap:=h'}):Ba (Bj prog w) A (storeSet a es' t') Q E s:=by
 refine wpAny_storeSet_of ho hd ?_ (fits_of_scanBound hb)
 obtain⟨ho1,_⟩:=SetOf_store (knd:=Ed prog w) (S':=fun k=>es'.toList.any fun e=>(Ed prog w).is k e.2) ho hx hd he (fun k=>by rw[Ij]) hb hf
 exact h _ _ (Bt s.heap a (Obj.putSet es' t')) ho1 hx ⟨_,rfl⟩
theorem zaS{S:Int->Prop}{n:Nat}{k:Int}{x:Ae}{Q:Bool->Ah->Prop}(hk:(Ed prog w).is k x=true)(hc:x.scannable=true)(hS:f7 prog w s.heap a S n b)(hn:n + 1 < Nk)
  (h:∀ c h',Dn a s.heap h'->f7 prog w h' a (fun k'=>S k'\/k'=k) (n + 1) b->Q c {s with heap:=h'}):Ba (Bj prog w) A (setAddHashed a x ((Ed prog w).hash k)) Q E s:=by
 obtain⟨o,es,ep,t,ho,hx,hd,he,hm,hz,hf,hg⟩:=hS
 unfold setAddHashed setAddHashedIn
 refine Cq (Aa (Ff ho hd hf ?_))
 dsimp only
 have hz0:=hz.1
 rw[byScan_of hc (by lia) he]
 simp only[↓reduceIte]
 unfold setAddByScan
 refine Aa (Aa (Ga (Aa (wpAny_setScan_of hk ho hd hf he ?_))))
 cases hr:List.findIdx? (fun e=>(Ed prog w).is k e.2) es.toList with
 | some j=>
  obtain⟨hj,hpj,_⟩:=List.findIdx?_eq_some_iff_getElem.mp hr
  have hSk:S k:=(hm k).mpr ⟨es.toList[j],List.getElem_mem hj,hpj⟩
  refine Ag (Ag ?_)
  exact h false s.heap (Heap.SameBut.refl a s.heap) ⟨o,es,ep,t,ho,hx,hd,he,fun k'=>⟨fun q=>(hm k').mp (q.elim id fun e=>e ▸ hSk),fun q=>.inl ((hm k').mpr q)⟩,⟨by have:=hz.1;lia,hz.2⟩,hf,hg⟩
 | none=>
  dsimp only
  have hp:=layNew_perm t es ((Ed prog w).hash k) x
  have hl:=layNew_fits t es ((Ed prog w).hash k) x
  have hgl:=zaQ hg es ((Ed prog w).hash k) x
  generalize layNew t es ((Ed prog w).hash k) x=L at hp hl hgl ⊢
  obtain⟨e1,t1,wd,gv⟩:=L
  dsimp only at hp hl hgl ⊢
  rw[Array.toList_push] at hp
  have he1:ElemsOf (Ed prog w) e1.toList:=(he.push hk hc).perm hp
  have hz1:e1.size=es.size + 1:=by rw[<-Bx,hp.length_eq,Ao,Bx];rfl
  have hm1:∀ k',(S k'\/k'=k)↔∃ e∈e1.toList,(Ed prog w).is k' e.2=true:=fun k'=>by
   have q:=mem_push_iff (S:=fun k=>es.toList.any fun e=>(Ed prog w).is k e.2) hk (fun k'=>by rw[Ij]) hp k'
   rw[<-q,Bool.or_eq_true,decide_eq_true_eq,Ij,hm k']
  have dj1:Dj prog w e1.toList:=Dj.perm (List.pairwise_append.mpr ⟨hz.2,List.pairwise_singleton _ _,fun e he e' he' k1 a1 a2=>by
   cases Aw.mp he'
   have:k1=k:=of_decide_eq_true ((KeyKind.is_eq_decide hk k1).symm.trans a2)
   subst this
   have:=List.findIdx?_eq_none_iff.mp hr e he
   rw[a1] at this
   cases this⟩) hp
  have gw:∀ (c:Bool) {s₁:Ah} {Q':Unit->Ah->Prop},Q' () s₁->Ba (Bj prog w) A (match c with | true=>rule "set.scan.the-table-gave-way" | false=>pure ()) Q' E s₁:=
   fun c s₁ Q' q=>by cases c <;> first | exact Ag q | exact Ga q
  refine Aa (gw _ ?_)
  have fin:∀ t2:Gz,t2.fits e1.size=true->Good b t2->∀ h' o',Dn a s.heap h'->h'.get? a=some o'->o'.ExactSet->(∃ ep',o'.data=.set e1 ep' t2)->f7 prog w h' a (fun k'=>S k'\/k'=k) (n + 1) b:=
   fun t2 hf2 hg2 h' o' _ h1 h2 ⟨ep',h3⟩=>⟨o',e1,ep',t2,h1,h2,h3,he1,hm1,⟨by lia,dj1⟩,hf2,hg2⟩
  have hb1:e1.size < Nk:=by lia
  have tl:∀ {t2:Gz} {R:Option Bool->Ah->Prop} {g:Bool->Sem Unit},(∀ (c:Bool) (s₁:Ah) (Q':Unit->Ah->Prop),Q' () s₁->Ba (Bj prog w) A (g c) Q' E s₁)->t2.fits e1.size=true->Good b t2->
    (∀ h',Dn a s.heap h'->f7 prog w h' a (fun k'=>S k'\/k'=k) (n + 1) b->R (some true) {s with heap:=h'})->Ba (Bj prog w) A (do
     storeSet a e1 t2
     if (!wd && t2.tooFull)=true then do
       g (relayAll t2 e1 (Ho e1.size)).2.2
       storeSet a (relayAll t2 e1 (Ho e1.size)).1 (relayAll t2 e1 (Ho e1.size)).2.1
       pure (some true)
      else pure (some true)) R E s:=by
   intro t2 R g hgo hf2 hg2 hR
   refine Aa (IU (S:=fun k'=>S k'\/k'=k) (n:=n + 1) ho hx hd he1 hm1 (by lia) hb1 hf2 hg2 fun h1 o1 sb1 ho1 hx1 hd1=>?_)
   obtain⟨ep1,hd1⟩:=hd1
   split
   ·have hp2:=relayAll_perm t2 e1 (Ho e1.size)
    have hf3:=relayAll_fits t2 e1 (Ho e1.size)
    have hg3:=zaR hg2 e1 (Ho e1.size)
    generalize relayAll t2 e1 (Ho e1.size)=L2 at hp2 hf3 hg3 ⊢
    obtain⟨e2,t3,gv2⟩:=L2
    dsimp only at hp2 hf3 hg3 ⊢
    have hz2:e2.size=e1.size:=by rw[<-Bx,hp2.length_eq,Bx]
    have hm2:∀ k',(S k'\/k'=k)↔∃ e∈e2.toList,(Ed prog w).is k' e.2=true:=fun k'=>(hm1 k').trans ⟨fun⟨e,q1,q2⟩=>⟨e,hp2.mem_iff.mpr q1,q2⟩,fun⟨e,q1,q2⟩=>⟨e,hp2.mem_iff.mp q1,q2⟩⟩
    refine Aa (hgo _ _ _ ?_)
    refine Aa (IU (s:={s with heap:=h1}) (S:=fun k'=>S k'\/k'=k) (n:=n + 1) ho1 hx1 hd1 (he1.perm hp2) hm2 (by lia) (by lia) hf3 hg3 fun h2 o2 sb2 ho2 hx2 hd2=>Ag ?_)
    obtain⟨ep2,hd2⟩:=hd2
    exact hR h2 (sb1.trans sb2) ⟨o2,e2,ep2,t3,ho2,hx2,hd2,he1.perm hp2,hm2,⟨by lia,dj1.perm hp2⟩,hf3,hg3⟩
   ·exact Ag (hR h1 sb1 (fin t2 hf2 hg2 h1 o1 sb1 ho1 hx1 ⟨ep1,hd1⟩))
  have gw2:∀ (c:Bool) (s₁:Ah) (Q':Unit->Ah->Prop),Q' () s₁->Ba (Bj prog w) A (match c with | true=>rule "set.scan.the-table-gave-way" | false=>pure ()) Q' E s₁:=fun c s₁ Q' q=>gw c q
  split
  ·refine Aa ?_
   rw[hashByValue_scannable 8 hc]
   refine Ag (tl gw2 ?_ ?_ fun h' sb r=>Ag (h true h' sb r))
   ·split
    ·exact hl
    ·exact SetTable.fits_plain_off hl
   ·split
    ·exact hgl
    ·exact hgl
  ·refine Aa (Ag ?_)
   simp only[↓reduceIte]
   exact tl gw2 hl hgl fun h' sb r=>Ag (h true h' sb r)
end
def jF(w:Ce):Bool:=!w.params.followText "set-order"
abbrev j7(w:Ce):Obj:={cls:=.type "set",dict:=none,data:=.set #[] 0 (.fresh 0 0 (jF w))}
section
variable {prog:Bo}{w:Ce}{A:Ck}{E:Ae->Ah->Prop}{s:Ah}
theorem zaT{h:Heap}{a:Addr}(e:h.get? a=some (j7 w)):f7 prog w h a (fun _=>False) 0 (jF w):=
 ⟨_,#[],0,_,e,⟨rfl,rfl,rfl⟩,rfl,fun e he=>by simp at he,fun k=>by simp,⟨Aj _,.nil⟩,by rfl,fun i j hi=>by simp[SetTable.fresh] at hi,rfl⟩
theorem zaU(a:Ae){Q₁:Ae->Ah->Prop}(h:Q₁ (.ref s.heap.objs.size) {s with heap:=s.heap.push (j7 w)}) :
  Jb (Bj prog w) A (.call (.builtin "set.__new__") ⟨[.type "set",a],[]⟩) (wants Q₁ E) s:=by
 refine codeAny_of_tree ?_
 show Ba _ A.in1 (checkBuiltinCall "set.__new__" ⟨[.type "set",a],[]⟩ >>= fun _=>again (.builtin "set.__new__" ⟨[.type "set",a],[]⟩)) _ _ s
 refine Aa (wpAny_of_eq (F.newCall_set_1 a) (Ag ⟨He F.plain_set_new _,Fm F.entry_set_new ?_⟩))
 rw[Ec F.plain_set_new _]
 unfold Ha.«set.__new__» Builtin.Frozenset.newClass
 have hsub:=sub_set_self
 obtain⟨hp,g,d,tk,os⟩:=s
 dsimp only
 wp_walk
 refine Fb (Ag ?_)
 dsimp only
 simp only[newObj]
 exact Aa (wpAny_alloc (Ag (Ag h)))
end
section
variable {prog:Bo}{w:Ce}{A:Ck}{R:Result->Ah->Prop}{I:Addr}{fp wr:List Addr}{G:Array GenState->Array GenState->Prop}{n:Nat}{P:Nat->Ae->Prop}{St:Nat->Ah->Prop}{b:Bool}
theorem zaV(W:WalksS prog w A.in1 I fp wr G n P St)(S:Addr)(hSf:S∉fp)(val:Nat->Int)(vl:∀ i v,P i v->∃ t,v=.int (val i) t)(hb:n + 1 < Nk):∀ (k i:Nat) (s:Ah),n - i=k->i<=n->St i s->
  f7 prog w s.heap S (fun x=>∃ j,j < i/\x=val j) i b->(∀ s',Moved (S :: wr) G s s'->f7 prog w s'.heap S (fun x=>∃ j,j < n/\x=val j) n b->R (.ok (.ret .none)) s')->
  Jb (Bj prog w) A (.builtin "set.update.loop" ⟨[.ref S,.ref I],[]⟩) R s:=by
 have nw:S∉wr:=fun h=>hSf (W.sub _ h)
 have sb:∀ c∈wr,c∈S :: wr:=fun c hc=>Bd _ hc
 intro k
 induction k with
 | zero=>
  intro i s hk hi at0 hS hR
  cases (show i=n by lia)
  refine Fm F.entry_set_update_loop ?_
  rw[Ec Md _]
  refine Aa (W.done s _ _ at0 fun s' hm=>?_)
  exact Ag (hR s' (hm.mono sb) (hS.at fun o e=>hm.heap S o nw e))
 | succ k ih=>
  intro i s hk hi at0 hS hR
  refine Fm F.entry_set_update_loop ?_
  rw[Ec Md _]
  refine Aa (W.item i s _ _ (by lia) at0 fun v s' hP hst' hm=>?_)
  obtain⟨t,rfl⟩:=vl i v hP
  show Ba _ A.in1 (Ht [Value.int (val i) t] (setAdd S (.int (val i) t)) >>= _) _ _ s'
  refine Aa (Cq ?_)
  unfold setAdd
  refine Cq (Aa ((Ed prog w).pyHash (k:=val i) (intKind_is _ _ _ _) ?_))
  refine zaS (b:=b) (s:={s' with toks:=s'.toks + 1}) (intKind_is _ _ _ _) rfl (hS.at fun o e=>hm.heap S o nw e) (by lia) fun c h' hsb hS2=>?_
  have hS3:f7 prog w h' S (fun x=>∃ j,j < i + 1/\x=val j) (i + 1) b:=by
   obtain⟨o,es,ep,tb,q1,q2,q3,q4,q5,q6⟩:=hS2
   refine⟨o,es,ep,tb,q1,q2,q3,q4,fun x=>(show _↔_ from ?_).trans (q5 x),q6⟩
   constructor
   ·rintro⟨j,hj,rfl⟩
    by_cases e:j=i
    ·exact .inr (by rw[e])
    ·exact .inl ⟨j,by lia,rfl⟩
   ·rintro(⟨j,hj,rfl⟩ | rfl)
    ·exact⟨j,by lia,rfl⟩
    ·exact⟨i,by lia,rfl⟩
  refine Ag ⟨He Md _,ih (i + 1) _ (by lia) (by lia) (W.frame _ s' _ _ hst' (Kj _) fun c hc o e=>?_) hS3 fun s'' hm'' hS''=>?_⟩
  ·rw[hsb.2 c (fun h:c=S=>hSf (by rw[<-h];exact hc))];exact e
  ·refine hR s'' (Moved.trans W.gtrans ((hm.mono sb).then_heap (Kj _) fun c o hc e=>?_) hm'') hS''
   rw[hsb.2 c (fun h:c=S=>hc (by rw[h];exact Bf))];exact e
end
section
variable {prog:Bo}{w:Ce}{A:Ck}{E:Ae->Ah->Prop}{s:Ah}
theorem zaW{l:Addr}{items:Array Ae}{ns:List Int}{Q:Ae->Ah->Prop}(hh:A.handled=none)(hl:s.heap.IsList l items)(hi:Hv items.toList ns)(hb:items.size + 1 < Nk)
  (h:∀ (h':Heap) (tk:Nat),f7 prog w h' s.heap.objs.size (fun x=>x∈ns) items.size (jF w)->(∀ c o,c < s.heap.objs.size->s.heap.get? c=some o->h'.get? c=some o)->Q (.ref s.heap.objs.size) {s with heap:=h',toks:=tk}) :
  Ba (Bj prog w) A (call (.type "set") [.ref l]) Q E s:=by
 obtain⟨c,ml0,mr0⟩:=Iv.mro
 have md0:=Iv.made
 have hsub:=Iv.sub
 refine wpAny_call (codeAny_of_tree ?_)
 show Ba _ _ (callAny (.type "set") _) _ _ _
 refine Ag ⟨Code.quiet_builtin _ (by decide +kernel),Fm F.entry_type_call ?_⟩
 rw[Around.under_plain (weight_type_call_type "set" [.ref l] []) rfl]
 have h1:=Iv.notType
 have h2:=Iv.canCreate
 have tc0:=F.typeCall_set_1 (.ref l)
 repeat (any_goals (first | assumption | wp_step))
 refine Kb (zaU (w:=w) (.ref l) (E:=E) (Q₁:=fun obj s₁=>obj=.ref s.heap.objs.size/\s₁ = {s with heap:=s.heap.push (j7 w)}) ⟨rfl,rfl⟩) fun r s₁ hr=>?_
 cases r with
 | error e=>exact hr
 | ok fl=>
  cases fl with
  | ret obj=>
   obtain⟨rfl,rfl⟩:=hr
   have hS:(s.heap.push (j7 w)).get? s.heap.objs.size=some (j7 w):=Au _ rfl
   have hT:Shared.TypeIs {s with heap:=s.heap.push (j7 w)} (.ref s.heap.objs.size) "set":=⟨_,hS,rfl⟩
   have in1:=Iv.init.lookup
   have in2:=Iv.init.bind (.ref s.heap.objs.size)
   repeat (any_goals (first | assumption | wp_step))
   refine Kb (codeAny_call_builtin (R:=wants (fun r s₂=>r=.none/\∃ h' tk,s₂ = {s with heap:=h',toks:=tk}/\f7 prog w h' s.heap.objs.size (fun x=>x∈ns) items.size (jF w)/\(∀ c o,c < s.heap.objs.size->s.heap.get? c=some o->h'.get? c=some o)) E)
    Iv.init.plain F.entry_set_init (check_set_init_1 hT ?_)) fun r₂ s₂ rz=>?_
   ·have hlt:l < s.heap.objs.size:=by obtain⟨ol,hol,_⟩:=hl;exact Ap hol
    have hl1:(s.heap.push (j7 w)).IsList l items:=hl.push _
    obtain⟨ol,hol,hcl,nl,hdl⟩:=id hl1
    obtain⟨oc,od,oda,os⟩:=ol
    simp only at hcl hdl
    subst hcl;subst hdl
    have sl1:=F.sub_list_set
    have sl2:=F.sub_list_frozenset
    have nld:(Value.type "list" == Value.type "dict")=false:=by decide
    unfold Ha.«set.__init__» noKeywords Builtin.Frozenset.updateFrom
    generalize hPI:Nh=PI
    wp_walk
    subst hPI
    refine Gx hl1 (Aa (wpAny_runValue ?_))
    have hd3:A.in1.in1.in1.handled=none:=by simp[hh]
    have hsz:(s.heap.push (j7 w)).objs.size=s.heap.objs.size + 1:=Cz _ _
    have ni:l≠(s.heap.push (j7 w)).objs.size:=by rw[hsz];exact Be (Gu hlt)
    have nf:s.heap.objs.size∉[(s.heap.push (j7 w)).objs.size,l]:=by
     simp only[Ax,Ej,or_false,not_or]
     exact⟨by rw[hsz];exact Be (Gh _),Ct hlt⟩
    have vl:∀ (i:Nat) (v:Ae),items[i]? = some v->∃ t,v=.int ((fun i=>ns.getD i 0) i) t:=fun i v hv=>IntsAre.int_at hi i v (by rw[Gj];exact hv)
    refine zaV (b:=jF w) ((Ks hd3 _ l ni items).toS) s.heap.objs.size nf (fun i=>ns.getD i 0) vl hb (items.size - 0) 0 _ (by lia) (Ci _) ⟨⟨_,Au _ rfl,rfl,rfl⟩,hl1.push _⟩ ?hS0 ?hR
    case hS0=>
     obtain⟨o,es,ep,tb,q1,q2,q3,q4,q5,q6⟩:=zaT (prog:=prog) (Af {cls:=.type "list_iterator",data:=.fields #[.ref l,.int 0 0]} hS)
     exact⟨o,es,ep,tb,q1,q2,q3,q4,fun x=>⟨fun⟨j,hj,_⟩=>by lia,fun q=>((q5 x).mpr q).elim⟩,q6⟩
    case hR=>
     intro s' hm hS'
     obtain⟨h',g',d',tk',os'⟩:=s'
     cases (show g'=s.gens from hm.gens)
     cases (show d'=s.drawn from hm.drawn)
     cases (show os'=s.os from hm.os)
     refine Ag (Ag ⟨rfl,h',tk',rfl,?_,fun c o hc e=>hm.heap c o ?_ (Af _ (Af _ e))⟩)
     ·have hlen:items.size=ns.length:=by
       have:∀ {vs:List Ae} {ns:List Int},Hv vs ns->vs.length=ns.length:=by
        intro vs ns q
        induction q with
        | nil=>rfl
        | cons _ _ _ ih=>simp[ih]
       rw[<-this hi,Bx]
      obtain⟨o,es,ep,tb,q1,q2,q3,q4,q5,q6⟩:=hS'
      refine⟨o,es,ep,tb,q1,q2,q3,q4,fun x=>(show _↔_ from ?_).trans (q5 x),q6⟩
      constructor
      ·intro hx
       obtain⟨j,hj,e⟩:=Kg.mp hx
       exact⟨j,by lia,by simp[hj,e]⟩
      ·rintro⟨j,hj,rfl⟩
       have:j < ns.length:=by lia
       simp[this]
     ·simp only[Ax,Ej,or_false,not_or]
      exact⟨Be hc,by rw[hsz];exact Be (Gu hc)⟩
   ·cases r₂ with
    | error e=>exact rz
    | ok fl₂=>
     cases fl₂ with
     | ret r=>
      obtain⟨rfl,h',tk,rfl,hS',kz⟩:=rz
      repeat (any_goals (first | assumption | wp_step))
      exact h _ _ hS' kz
     | _=>exact rz.elim
  | _=>exact hr.elim
end
end Srt
namespace Srt
open PySem
theorem yP{α:Type}:∀ {l:List α} {i:Nat} (h:i < l.length),(l[i] :: l.eraseIdx i).Perm l
 | x :: l,0,_=>List.Perm.refl _
 | x :: l,i + 1,h=>by
  have:=yP (l:=l) (i:=i) (by simpa using h)
  exact(List.Perm.swap _ _ _).trans (this.cons x)
theorem IV{α:Type}{next:Nat->Nat}:∀ (fuel k:Nat) (left:List α) (out:Array α),fuel=left.length->(pickOrder.go next fuel k left out).toList.Perm (out.toList ++ left)
 | 0,k,left,out,h=>by
  cases left with
  | nil=>simp[pickOrder.go]
  | cons _ _=>simp at h
 | fuel + 1,k,left,out,h=>by
  have hi:next k % left.length < left.length:=Nat.mod_lt _ (by lia)
  unfold pickOrder.go
  rw[Ak hi]
  dsimp only
  refine(IV fuel (k + 1) _ _ (by rw[List.length_eraseIdx,if_pos hi];lia)).trans ?_
  rw[Array.toList_push,Fu]
  exact Lp _ (yP hi)
theorem t5{α:Type}(next:Nat->Nat)(xs:Array α):(Lf next xs).toList.Perm xs.toList:=by
 have:=IV (next:=next) xs.size 0 xs.toList #[] (by simp)
 show(pickOrder.go next xs.size 0 xs.toList #[]).toList.Perm _
 simpa using this
section
variable {M:Model}{A:Ck}{E:Ae->Ah->Prop}
theorem zaX{src:Source}{n:Nat}{s:Ah}{Q:Nat->Ah->Prop}(hn:n≠0)(h:∀ i d,i < n->Q i {s with drawn:=d}):Ba M A (choose src n) Q E s:=fun Γ p _=>by
 unfold choose
 rw[Sem.wp_choose]
 exact⟨hn,by rw[Sem.wp_pure];exact h _ _ (Nat.mod_lt _ (Nat.pos_of_ne_zero hn))⟩
theorem IW{α:Type}:∀ {n:Nat} {xs:List α} {s:Ah} {Q:List α->Ah->Prop},n=xs.length->(∀ ys d,ys.Perm xs->Q ys {s with drawn:=d})->Ba M A (drawOrder n xs) Q E s
 | 0,xs,s,Q,hn,h=>by
  cases xs with
  | nil=>unfold drawOrder;exact Ag (h [] s.drawn (List.Perm.refl _))
  | cons _ _=>simp at hn
 | n + 1,[],s,Q,hn,h=>by simp at hn
 | n + 1,x :: xs,s,Q,hn,h=>by
  unfold drawOrder
  refine Aa (zaX (by simp) fun i d hi=>?_)
  rw[Ak hi]
  dsimp only
  refine Aa (IW (by rw[List.length_eraseIdx,if_pos hi];simpa using hn) fun ys d' hp=>Ag (h _ d' ((hp.cons _).trans (yP hi))))
end
end Srt
namespace Srt
open PySem PySem.Calls PyProof.Rows
theorem m8:Slot "set_iterator" "__next__" "set_iterator.__next__":=
 .of (owner:="set_iterator") (n:="__next__") (by rw[Kw,Ie];kernel_rfl) (by decide +kernel) (by decide +kernel) (by decide +kernel)
  (by first | exact .inl (by decide +kernel) | exact .inr (by decide +kernel)) (by rw[Lk];kernel_rfl)
theorem IX:entryFor table "set_iterator.__next__" = some Ha.«set_iterator.__next__»:=entryFor_of_tree (by kernel_rfl)
theorem IY(a:Ae):argsOk "set_iterator.__next__" ⟨[a],[]⟩:=by unfold argsOk;kernel_rfl
theorem IZ:Slot "set" "__iter__" "set.__iter__":=
 .of (owner:="set") (n:="__iter__") (by rw[Kw,Ie];kernel_rfl) (by decide +kernel) (by decide +kernel) (by decide +kernel)
  (by first | exact .inl (by decide +kernel) | exact .inr (by decide +kernel)) (by rw[Lk];kernel_rfl)
theorem zaY:entryFor table "set.__iter__" = some Ha.«frozenset.__iter__»:=entryFor_alias (id':="frozenset.__iter__") (by kernel_rfl) rfl (by decide +kernel) (by kernel_rfl)
theorem zaZ(a:Ae):argsOk "set.__iter__" ⟨[a],[]⟩:=by unfold argsOk;kernel_rfl
abbrev qK(w:Ce):Bool:=w.params.followText "set-order"
def Drawn(es:Array (Int×Ae))(t:Gz):Bool:=!t.plain && es.size > 1
def za0(w:Ce)(h:Heap)(a:Addr)(es:Array (Int×Ae))(ep:Nat)(t:Gz)(vals:List Ae)(bs:List Addr)(first:Ae)(i:Nat):Prop:=
 (qK w=true/\(∃ k u,first=.int k u)/\vals=(Lf (w.params.setOrder a ep) es).toList.map (·.2))\/
 (qK w=false/\Drawn es t=false/\Good true t/\(∃ (k:Nat) (u:Tok),first=.int k u/\SetTable.below t.place k=i)/\vals=es.toList.map (·.2))\/
 (qK w=false/\∃ (b:Addr) (o:Obj) (js:List Nat) (m:Nat),first=.ref b/\b∈bs/\h.get? b=some o/\o.cls=.type "tuple"/\o.data=.seq (js.map fun(j:Nat)=>Fs j).toArray m/\(∀ j∈js,j < es.size)/\js.length=es.size/\vals=js.map fun j=>(es.getD j (0,.none)).2)
structure jG(w:Ce)(h:Heap)(I a:Addr)(es:Array (Int×Ae))(ep:Nat)(t:Gz)(vals:List Ae)(bs:List Addr)(i:Nat):Prop where
 it:∃ o first,h.get? I=some o/\o.cls=.type "set_iterator"/\o.data=.fields #[first,Fs i,.ref a,Fs es.size,Fs ep]/\za0 w h a es ep t vals bs first i
 set:∃ o,h.get? a=some o/\o.ExactSet/\o.data=.set es ep t/\t.fits es.size=true
 ne:I≠a
 len:vals.length=es.size
section
variable {prog:Bo}{w:Ce}{A:Ck}{E:Ae->Ah->Prop}{s:Ah}{I a:Addr}{es:Array (Int×Ae)}{ep:Nat}{t:Gz}{vals:List Ae}{bs:List Addr}{i:Nat}
theorem jG.typeIs(h:jG w s.heap I a es ep t vals bs i):s.TypeIs (.ref I) "set_iterator":=let ⟨o,f,ho,hc,_⟩:=h.it;⟨o,ho,hc⟩
theorem oC{h:Heap}{o:Obj}{fs:Array Ae}(ho:h.get? I=some o)(hc:o.cls=.type "set_iterator")(hd:o.data=.fields fs)(k:Nat)(v:Ae) :
  ∃ o',(h.update I (Ei (·.setIfInBounds k v))).get? I=some o'/\o'.cls=.type "set_iterator"/\o'.data=.fields (fs.setIfInBounds k v):=
 ⟨_,Er _ ho (Mj (Hi hd _)),(Obj.cls_mapFields ..).trans hc,by rw[Hi hd]⟩
theorem next_item{Q:Option Ae->Ah->Prop}(h:jG w s.heap I a es ep t vals bs i)(hi:i < vals.length)
  (hQ:∀ h',jG w h' I a es ep t vals bs (i + 1)->Dn I s.heap h'->Q (some vals[i]) {s with heap:=h'}):Ba (Bj prog w) A (Hh (.ref I)) Q E s:=by
 have hT:=h.typeIs
 obtain⟨⟨o,first,ho,hc,hd,hm⟩,⟨oa,hoa,hxa,hda,hfa⟩,hne,hlen⟩:=h
 unfold Hh
 refine Aa (Kq (Dv (name:=Cs "__next__") hT m8 (Dh m8 hT IX ?_ (IY _))))
 unfold Ha.«set_iterator.__next__»
 refine Aa (Ag (Aa (Ng ho hd ?_)))
 dsimp only[Fs]
 refine Aa (Nm hoa hda hfa ?_)
 rw[if_neg (by simp)]
 have put:∀ {h':Heap},Dn I s.heap h'->∃ o,h'.get? a=some o/\o.ExactSet/\o.data=.set es ep t/\t.fits es.size=true:=fun sb=>⟨oa,(sb.2 a (Bp hne)).trans hoa,hxa,hda,hfa⟩
 rcases hm with⟨bt,⟨k,u,rfl⟩,hv⟩ | ⟨bt,hdr,hg,⟨k,u,rfl,hk⟩,hv⟩ | ⟨bt,b,ob,js,m,rfl,hbs,h1,h2,h3,h4,h5,hv⟩
 ·have hi':i < (Lf (w.params.setOrder a ep) es).size:=by
   have:=(t5 (w.params.setOrder a ep) es).length_eq
   rw[Bx,Bx] at this
   lia
  have hge:(Lf (w.params.setOrder a ep) es)[i]? = some (Lf (w.params.setOrder a ep) es)[i]:=getElem?_pos _ i hi'
  have hx:vals[i]=((Lf (w.params.setOrder a ep) es)[i]).2:=by simp[hv]
  dsimp only
  unfold setNext
  refine Aa (Aa (Ff hoa hda hfa ?_))
  unfold Lj
  refine Aa (Aa (Fb (Ag ?_)))
  refine Dc (fun _=>?_) fun c=>(c bt).elim
  refine Dc (fun c=>by simp at c) fun _=>?_
  unfold setWalk
  refine Aa (Aa (Ff hoa hda hfa ?_))
  unfold Lj
  refine Aa (Aa (Fb (Ag ?_)))
  refine Dc (fun _=>?_) fun c=>(c bt).elim
  refine Aa (Fb (Ag (Ag ?_)))
  rw[Bz]
  erw [hge]
  dsimp only[Kf]
  obtain⟨o1,q1,q2,q3⟩:=oC ho hc hd 0 (.int ((k.toNat:Nat):Int) 0)
  refine Aa (Ek ho hd (by simp) (Aa (Ek (s:={s with heap:=s.heap.update I (Ei (·.setIfInBounds 0 (.int ((k.toNat:Nat):Int) 0)))}) q1 q3 (by simp) (Ag ?_))))
  obtain⟨o2,p1,p2,p3⟩:=oC q1 q2 q3 1 (.int ((i:Int) + 1) 0)
  have sb:=(Bt s.heap I (Ei (·.setIfInBounds 0 (.int ((k.toNat:Nat):Int) 0)))).trans (Bt _ I (Ei (·.setIfInBounds 1 (.int ((i:Int) + 1) 0))))
  refine⟨_,rfl,Ag ?_⟩
  rw[<-hx]
  exact hQ _ ⟨⟨o2,.int ((k.toNat:Nat):Int) 0,p1,p2,by rw[p3];simp[Fs],.inl ⟨bt,⟨_,_,rfl⟩,hv⟩⟩,put sb,hne,hlen⟩ sb
 ·have hi2:i < es.size:=by lia
  have hps:t.place.size=es.size:=by
   simp only[SetTable.fits,Cj,beq_iff_eq] at hfa
   exact hfa.1
  have hi3:i < t.place.size:=by lia
  have hx:vals[i]=es[i].2:=by simp[hv]
  dsimp only
  unfold setNext
  refine Aa (Aa (Ff hoa hda hfa ?_))
  unfold Lj
  refine Aa (Aa (Fb (Ag ?_)))
  refine Dc (fun c=>absurd (Eq.trans (Eq.symm bt) c) Ar) fun _=>?_
  refine Dc (fun c=>absurd (Eq.trans (Eq.symm hdr) c) Ar) fun _=>?_
  refine Aa (Dc (fun c=>by rw[hg.2] at c;simp at c) fun _=>Ag ?_)
  refine Ag ?_
  rw[Bz,hk,getElem?_pos es i hi2,getElem?_pos t.place i hi3]
  dsimp only
  obtain⟨o1,q1,q2,q3⟩:=oC ho hc hd 0 (.int (((t.place[i] + 1:Nat)):Int) 0)
  refine Aa (Ek ho hd (by simp) (Aa (Ek (s:={s with heap:=s.heap.update I (Ei (·.setIfInBounds 0 (.int (((t.place[i] + 1:Nat)):Int) 0)))}) q1 q3 (by simp) (Ag ?_))))
  obtain⟨o2,p1,p2,p3⟩:=oC q1 q2 q3 1 (.int ((i:Int) + 1) 0)
  have sb:=(Bt s.heap I (Ei (·.setIfInBounds 0 (.int (((t.place[i] + 1:Nat)):Int) 0)))).trans (Bt _ I (Ei (·.setIfInBounds 1 (.int ((i:Int) + 1) 0))))
  refine⟨_,rfl,Ag ?_⟩
  rw[<-hx]
  exact hQ _ ⟨⟨o2,.int (((t.place[i] + 1:Nat)):Int) 0,p1,p2,by rw[p3];simp[Fs],.inr (.inl ⟨bt,hdr,hg,⟨_,_,rfl,zaL hg.1 hi3⟩,hv⟩)⟩,put sb,hne,hlen⟩ sb
 ·have hi2:i < js.length:=by lia
  have hj:js[i] < es.size:=h4 _ (List.getElem_mem hi2)
  have hx:vals[i]=es[js[i]].2:=by simp[hv,Array.getD,hj]
  have hIb:b≠I:=fun z=>by subst z;rw[h1] at ho;cases ho;rw[h3] at hd;cases hd
  dsimp only
  unfold seqItems?
  refine Aa (Aa (wpAny_load h1 ?_))
  rw[h3]
  refine Ag ?_
  dsimp only
  have hge:(js.map fun(j:Nat)=>Fs j).toArray[((i:Nat):Int).toNat]? = some (.int (js[i]:Nat) 0):=by
   rw[Bz,Mf,Av,Ak hi2]
   rfl
  rw[hge]
  dsimp only
  unfold setNextDrawn
  refine Aa (Aa (Ff hoa hda hfa ?_))
  refine Dc (fun c=>by simp at c) fun _=>?_
  rw[Bz,getElem?_pos es js[i] hj]
  refine Ag ?_
  obtain⟨o2,p1,p2,p3⟩:=oC ho hc hd 1 (.int ((i:Int) + 1) 0)
  have sb:=Bt s.heap I (Ei (·.setIfInBounds 1 (.int ((i:Int) + 1) 0)))
  refine Aa (Ek ho hd (by simp) (Ag ⟨_,rfl,Ag ?_⟩))
  have g:=hQ _ ⟨⟨o2,.ref b,p1,p2,by rw[p3];simp[Fs],.inr (.inr ⟨bt,b,ob,js,m,rfl,hbs,(sb.2 b hIb).trans h1,h2,h3,h4,h5,hv⟩)⟩,put sb,hne,hlen⟩ sb
  rw[hx] at g
  exact g
theorem yQ{Q:Option Ae->Ah->Prop}(hh:A.handled=none)(h:∀ h',(∀ b o,s.heap.get? b=some o->h'.get? b=some o)->Q none {s with heap:=h'}) :
  Ba (Bj prog w) A.in1 (newExc (.type "StopIteration") [] >>= fun e=>raiseNew e) (fun(fin:PySem.Fin) s'=>∃ v,fin=Fin.done (Flow.ret v)/\Ba (Bj prog w) A (pure (some v)) Q E s')
   (fun e s'=>Ba (Bj prog w) A (isInstance e (.type "StopIteration") >>= fun c=>if c=true then pure none else throw e) Q E s') s:=by
 refine Aa ?_
 simp only[newExc,newTuple]
 refine Aa (Cy (Aa (m:=Ka _ _) (wpAny_of_eq (a:=Value.none) (by first | rfl | (simp only[Ka];rfl)) (Cy ?_ (by size_fits)))) (by size_fits))
 simp only[raiseNew]
 refine Aa (wpAny_handled ?_)
 rw[show A.in1.handled=none from hh]
 refine Aa (Ag (wpAny_throw ?_))
 refine Aa (Ja (T:="StopIteration") (b:=true) ⟨_,Au _ rfl,rfl⟩ isSubtype_stop ?_)
 exact Ag (h _ fun b o e=>Af _ (Af _ e))
theorem za1{Q:Option Ae->Ah->Prop}(hh:A.handled=none)(h:jG w s.heap I a es ep t vals bs i)(hi:vals.length<=i)
  (hQ:∀ h',(∀ b o,b≠I->s.heap.get? b=some o->h'.get? b=some o)->Q none {s with heap:=h'}):Ba (Bj prog w) A (Hh (.ref I)) Q E s:=by
 have hT:=h.typeIs
 obtain⟨⟨o,first,ho,hc,hd,hm⟩,⟨oa,hoa,hxa,hda,hfa⟩,hne,hlen⟩:=h
 unfold Hh
 refine Aa (Kq (Dv (name:=Cs "__next__") hT m8 (Dh m8 hT IX ?_ (IY _))))
 unfold Ha.«set_iterator.__next__»
 refine Aa (Ag (Aa (Ng ho hd ?_)))
 dsimp only[Fs]
 refine Aa (Nm hoa hda hfa ?_)
 rw[if_neg (by simp)]
 have oth:∀ {h':Heap},Dn I s.heap h'->∀ b o,b≠I->s.heap.get? b=some o->h'.get? b=some o:=fun sb b o hb e=>(sb.2 b hb).trans e
 rcases hm with⟨bt,⟨k,u,rfl⟩,hv⟩ | ⟨bt,hdr,hg,⟨k,u,rfl,hk⟩,hv⟩ | ⟨bt,b,ob,js,m,rfl,hbs,h1,h2,h3,h4,h5,hv⟩
 ·have hge:(Lf (w.params.setOrder a ep) es)[i]? = none:=by
   have:=(t5 (w.params.setOrder a ep) es).length_eq
   rw[Bx,Bx] at this
   exact getElem?_neg _ i (by lia)
  dsimp only
  unfold setNext
  refine Aa (Aa (Ff hoa hda hfa ?_))
  unfold Lj
  refine Aa (Aa (Fb (Ag ?_)))
  refine Dc (fun _=>?_) fun c=>(c bt).elim
  refine Dc (fun c=>by simp at c) fun _=>?_
  unfold setWalk
  refine Aa (Aa (Ff hoa hda hfa ?_))
  unfold Lj
  refine Aa (Aa (Fb (Ag ?_)))
  refine Dc (fun _=>?_) fun c=>(c bt).elim
  refine Aa (Fb (Ag (Ag ?_)))
  rw[Bz]
  erw [hge]
  dsimp only[Option.map_none]
  have sb:=Bt s.heap I (Ei (·.setIfInBounds 2 Value.none))
  exact Aa (Ek ho hd (by simp) (yQ (s:={s with heap:=_}) hh fun h' kp=>hQ h' fun b o hb e=>kp b o (oth sb b o hb e)))
 ·have hps:t.place.size=es.size:=by
   simp only[SetTable.fits,Cj,beq_iff_eq] at hfa
   exact hfa.1
  dsimp only
  unfold setNext
  refine Aa (Aa (Ff hoa hda hfa ?_))
  unfold Lj
  refine Aa (Aa (Fb (Ag ?_)))
  refine Dc (fun c=>absurd (Eq.trans (Eq.symm bt) c) Ar) fun _=>?_
  refine Dc (fun c=>absurd (Eq.trans (Eq.symm hdr) c) Ar) fun _=>?_
  refine Aa (Dc (fun c=>by rw[hg.2] at c;simp at c) fun _=>Ag ?_)
  refine Ag ?_
  rw[Bz,hk,getElem?_neg es i (by lia)]
  dsimp only
  have sb:=Bt s.heap I (Ei (·.setIfInBounds 2 Value.none))
  exact Aa (Ek ho hd (by simp) (yQ (s:={s with heap:=_}) hh fun h' kp=>hQ h' fun b o hb e=>kp b o (oth sb b o hb e)))
 ·dsimp only
  unfold seqItems?
  refine Aa (Aa (wpAny_load h1 ?_))
  rw[h3]
  refine Ag ?_
  dsimp only
  have hge:(js.map fun(j:Nat)=>Fs j).toArray[((i:Nat):Int).toNat]? = none:=by
   rw[Bz,Mf]
   exact Jw (by rw[Ab];lia)
  rw[hge]
  dsimp only
  obtain⟨o2,p1,p2,p3⟩:=oC ho hc hd 0 (.int 0 0)
  have sb:=(Bt s.heap I (Ei (·.setIfInBounds 0 (Value.int 0 0)))).trans (Bt _ I (Ei (·.setIfInBounds 2 Value.none)))
  exact Aa (Ek ho hd (by simp) (Aa (Ek (s:={s with heap:=_}) p1 p3 (by simp) (yQ (s:={s with heap:=_}) hh fun h' kp=>hQ h' fun b o hb e=>kp b o (oth sb b o hb e)))))
end
theorem JA:Slot "set_iterator" "__iter__" "set_iterator.__iter__":=
 .of (owner:="set_iterator") (n:="__iter__") (by rw[Kw,Ie];kernel_rfl) (by decide +kernel) (by decide +kernel) (by decide +kernel)
  (by first | exact .inl (by decide +kernel) | exact .inr (by decide +kernel)) (by rw[Lk];kernel_rfl)
theorem za2:entryFor table "set_iterator.__iter__" = some Ha.«dict_keyiterator.__iter__»:=entryFor_alias (id':="dict_keyiterator.__iter__") (by kernel_rfl) rfl (by decide +kernel) (by kernel_rfl)
theorem za3(a:Ae):argsOk "set_iterator.__iter__" ⟨[a],[]⟩:=by unfold argsOk;kernel_rfl
section
variable {prog:Bo}{w:Ce}{A:Ck}{E:Ae->Ah->Prop}{s:Ah}{I a:Addr}{es:Array (Int×Ae)}{ep:Nat}{t:Gz}{vals:List Ae}{bs:List Addr}{i:Nat}
theorem jG.at{h h':Heap}(x:jG w h I a es ep t vals bs i)(k:∀ b,b=I\/b=a\/b∈bs->∀ o,h.get? b=some o->h'.get? b=some o):jG w h' I a es ep t vals bs i:=by
 obtain⟨⟨o,f,ho,hc,hd,hm⟩,⟨oa,hoa,r⟩,hne,hl⟩:=x
 refine⟨⟨o,f,k I (.inl rfl) o ho,hc,hd,?_⟩,⟨oa,k a (.inr (.inl rfl)) oa hoa,r⟩,hne,hl⟩
 rcases hm with hm | hm | ⟨bt,b,ob,js,m,e,hb,h1,hm⟩
 ·exact .inl hm
 ·exact .inr (.inl hm)
 ·exact .inr (.inr ⟨bt,b,ob,js,m,e,hb,k b (.inr (.inr hb)) ob h1,hm⟩)
theorem za4(hh:A.handled=none):Walks prog w A I (I :: a :: bs) [I] vals.length (fun j v=>vals[j]? = some v) (fun j h=>jG w h I a es ep t vals bs j) where
 sub:=fun b hb=>by simp at hb;simp[hb]
 frame:=fun _ _ _ st hk=>st.at fun b hb o e=>hk b (by simpa using hb) o e
 item:=fun j s Q E hj st hQ=>next_item st hj fun h' st' sb=>hQ _ h' s.toks (by simp[hj]) st' fun b o hb e=>(sb.2 b (fun z=>hb (by simp[z]))).trans e
 done:=fun s Q E st hQ=>za1 hh st (Aj _) fun h' kp=>hQ h' s.toks fun b o hb e=>kp b o (fun z=>hb (by simp[z])) e
 self:=fun _ s _ _ st hQ=>by
  have hT:=st.typeIs
  refine wpAny_pyIter_slot hT JA (Dh JA hT za2 ?_ (za3 _))
  show Ba _ _ (ret (.ref I)) _ _ s
  exact Ag ⟨_,rfl,"set_iterator",_,hT,m8.lookup,hQ⟩
theorem za5{S:Int->Prop}{n:Nat}{Q:Ae->Ah->Prop}(hS:f7 prog w s.heap a S n (jF w))(hz:n<=Am)
  (h:∀ (I:Addr) (h':Heap) d es ep t vals bs,jG w h' I a es ep t vals bs 0->(∀ b o,s.heap.get? b=some o->h'.get? b=some o)->s.heap.objs.size<=I->(∀ b∈bs,s.heap.objs.size<=b)->vals.Perm (es.toList.map (·.2))->
   ElemsOf (Ed prog w) es.toList->(∀ k,S k↔∃ e∈es.toList,(Ed prog w).is k e.2=true)->Nz prog w es n->Q (.ref I) {s with heap:=h',drawn:=d}):Ba (Bj prog w) A (Nh (.ref a)) Q E s:=by
 obtain⟨o,es,ep,t,ho,hx,hd,he,hm,hn,hf,hg⟩:=hS
 have hn0:=hn.1
 have hT:s.TypeIs (.ref a) "set":=⟨o,ho,hx.1⟩
 refine wpAny_pyIter_slot hT IZ (Dh IZ hT zaY ?_ (zaZ _))
 unfold Ha.«frozenset.__iter__»
 refine Aa (Ag (Aa (Aa (Nm ho hd hf (Ag ?_)))))
 unfold setDrawn Lj
 refine Aa (Aa (Ff ho hd hf (Aa (Aa (Fb (Ag (Ag ?_)))))))
 have ha:a < s.heap.objs.size:=Ap ho
 refine Dc (fun c=>?_) fun c=>?_
 ·have bt:qK w=false:=by
   have:=(Kh.mp c).1
   exact Bool.not_eq_true' _ ▸ this
  refine Aa (IW (by simp) fun js d hp=>?_)
  have hjl:js.length=es.size:=by rw[hp.length_eq];simp
  refine Aa (wpAny_newTuple (s:={s with drawn:=d}) ?_ (by rw[Ab,hjl];lia))
  have ho1:=Af {cls:=.type "tuple",data:=.seq (js.map fun(j:Nat)=>Fs j).toArray 0} ho
  refine Aa (wpAny_setEpoch_of (s:={s with heap:=_,drawn:=d}) ho1 hd hf ?_)
  unfold newFields
  refine Aa (Cy (Ag ⟨_,rfl,"set_iterator",_,⟨_,Au _ rfl,rfl⟩,m8.lookup,?_⟩))
  refine h _ _ d es ep t (js.map fun j=>(es.getD j (0,.none)).2) [s.heap.objs.size] ⟨⟨_,.ref s.heap.objs.size,Au _ rfl,rfl,rfl,.inr (.inr ⟨bt,_,_,js,0,rfl,by simp,Af _ (Au _ rfl),rfl,rfl,fun j hj=>by simpa using hp.mem_iff.mp hj,hjl,rfl⟩)⟩,
   ⟨o,Af _ ho1,hx,hd,hf⟩,?_,by rw[Ab,hjl]⟩ (fun b o e=>Af _ (Af _ e)) ?_ (fun b hb=>by simp at hb;rw[hb];exact Aj _) ?_ he hm hn
  ·show(s.heap.push _).objs.size≠a
   rw[Cz]
   exact Ct (Gu ha)
  ·show s.heap.objs.size<=(s.heap.push _).objs.size
   rw[Cz]
   exact Kj _
  ·have e:es.toList.map (·.2)=(Bu es.size).map fun j=>(es.getD j (0,.none)).2:=by
    refine List.ext_getElem (by simp) fun k h1 h2=>?_
    have:k < es.size:=by simpa using h1
    simp[Array.getD,this]
   rw[e]
   exact hp.map _
 ·refine Aa (Ag (Aa (wpAny_setEpoch_of ho hd hf ?_)))
  unfold newFields
  refine Aa (Cy (Ag ⟨_,rfl,"set_iterator",_,⟨_,Au _ rfl,rfl⟩,m8.lookup,?_⟩))
  have ne:s.heap.objs.size≠a:=Ct ha
  have st:∀ {o1:Obj},∃ o,(s.heap.push o1).get? a=some o/\o.ExactSet/\o.data=.set es ep t/\t.fits es.size=true:=⟨o,Af _ ho,hx,hd,hf⟩
  cases bt:qK w with
  | true=>
   exact h _ _ s.drawn es ep t ((Lf (w.params.setOrder a ep) es).toList.map (·.2)) [] ⟨⟨_,Fs 0,Au _ rfl,rfl,rfl,.inl ⟨bt,⟨_,_,rfl⟩,rfl⟩⟩,st,ne,by rw[Ab,(t5 _ _).length_eq,Bx]⟩
    (fun b o e=>Af _ e) (Aj _) (fun b hb=>nomatch hb) ((t5 _ _).map _) he hm hn
  | false=>
   have hdr:Drawn es t=false:=by
    cases hq:Drawn es t with
    | false=>rfl
    | true=>exact(c (Kh.mpr ⟨(Bool.not_eq_true' _).mpr bt,hq⟩)).elim
   have hg':Good true t:=by
    have:jF w=true:=by unfold jF;rw[show w.params.followText "set-order" = false from bt];rfl
    rw[this] at hg
    exact hg
   exact h _ _ s.drawn es ep t (es.toList.map (·.2)) [] ⟨⟨_,Fs 0,Au _ rfl,rfl,rfl,.inr (.inl ⟨bt,hdr,hg',⟨0,0,rfl,zaM hg'.1⟩,rfl⟩)⟩,st,ne,by rw[Ab,Bx]⟩
    (fun b o e=>Af _ e) (Aj _) (fun b hb=>nomatch hb) (List.Perm.refl _) he hm hn
end
theorem za6:Slot "set" "__len__" "set.__len__":=
 .of (owner:="set") (n:="__len__") (by rw[Kw,Ie];kernel_rfl) (by decide +kernel) (by decide +kernel) (by decide +kernel)
  (by first | exact .inl (by decide +kernel) | exact .inr (by decide +kernel)) (by rw[Lk];kernel_rfl)
section
variable {prog:Bo}{w:Ce}{A:Ck}{E:Ae->Ah->Prop}{s:Ah}{a:Addr}
theorem za7{Q:Bool->Ah->Prop}(hT:s.TypeIs (.ref a) "set")(h:Q false s):Ba (Bj prog w) A (Builtin.List.listLengthHint (.ref a)) Q E s:=by
 unfold Builtin.List.listLengthHint
 refine Aa (wpAny_specialOf hT za6.lookup ?_)
 generalize hid:("set.__len__" : String)=id0
 wp_delta
 rw[show splitId id0=some ("set","__len__") from by subst hid;decide +kernel]
 subst hid
 refine Aa (Ja (T:="set") (b:=true) hT (by rw[Lk];kernel_rfl) ?_)
 refine Dc (fun hab=>absurd hab (by decide)) (fun _=>?_)
 refine Dc (fun _=>?_) (fun hab=>absurd (by decide +kernel) hab)
 refine Aa (Jz hT ?_)
 exact Ag h
theorem za8{S:Int->Prop}{n:Nat}{R:Result->Ah->Prop}(hh:A.handled=none)(hS:f7 prog w s.heap a S n (jF w))(hz:n<=Am)(D:Addr)(hDa:D≠a)(res:Ae)(c₀:Nat)(hD:s.heap.get? D=some {cls:=.type "list",data:=.seq #[] c₀})
  (hR:∀ h' tk d acc' c' (es:Array (Int×Ae)),(∀ b o,b≠D->s.heap.get? b=some o->h'.get? b=some o)->h'.get? D=some {cls:=.type "list",dict:=none,data:=.seq acc' c',slots:=#[]}->acc'.toList.Perm (es.toList.map (·.2))->
   ElemsOf (Ed prog w) es.toList->(∀ k,S k↔∃ e∈es.toList,(Ed prog w).is k e.2=true)->Nz prog w es n->R (.ok (.ret res)) {s with heap:=h',toks:=tk,drawn:=d}) :
  Ba (Bj prog w) A.in1 (Ju (.ref D) (.ref a) res)
   (fun fin s'=>match fin with | .done f=>R (.ok f) s' | .again c'=>c'.quiet=true/\Jb (Bj prog w) A c' R s') (fun e s'=>R (.error e) s') s:=by
 have hT:s.TypeIs (.ref a) "set":=let ⟨o,_,_,_,ho,hx,_⟩:=hS;⟨o,ho,hx.1⟩
 unfold Ju
 refine Aa (Jz (T:="set") hT ?_)
 have h1:Builtin.List.listSameRef (.ref D) (.ref a)=false:=by simp[Builtin.List.listSameRef,hDa]
 simp only[h1,show(Value.type "set" == Value.type "list")=false by decide,show(Value.type "set" == Value.type "tuple")=false by decide,Bool.or_false,Eg,if_false]
 refine Aa (za5 hS hz fun I h2 d es ep t vals bs st kp hI hb hp he hm hn=>?_)
 have hD2:=kp _ _ hD
 have hDI:D≠I:=fun z=>absurd (Ap hD) (by rw[z];exact Nat.not_lt.mpr hI)
 have hDf:D∉I :: a :: bs:=by
  simp only[Ax,not_or]
  exact⟨hDI,hDa,fun z=>absurd (Ap hD) (Nat.not_lt.mpr (hb D z))⟩
 have hvl:vals.length<=Am:=by have:=hn.1;rw[st.len];lia
 have key:∀ (h:Heap) (c₁ tk:Nat),jG w h I a es ep t vals bs 0->(∀ b o,b≠D->s.heap.get? b=some o->h.get? b=some o)->
   h.get? D=some {cls:=.type "list",data:=.seq #[] c₁}->Jb (Bj prog w) A (.builtin "list.extend.loop" ⟨[.ref D,.ref I,res],[]⟩) R {s with heap:=h,toks:=tk,drawn:=d}:=by
  intro h c₁ tk hst hk hS₁
  refine codeAny_extend_loopS (za4 (by exact hh)).toS hvl D hDf res vals.length 0 _ #[] c₁ rfl (Ci _) hst hS₁ (ItemsOf.nil _) fun s' acc' c' hm' hS' hacc=>?_
  have eq:acc'.toList=vals:=by
   refine List.ext_getElem? fun i=>?_
   rw[Gj]
   by_cases hi:i < acc'.size
   ·have:=hacc.2 i _ (getElem?_pos acc' i hi)
    rw[getElem?_pos acc' i hi,this]
   ·rw[getElem?_neg acc' i hi,Jw (by have:=hacc.1;lia)]
  rw[Moved.eq_with hm']
  refine hR s'.heap s'.toks d acc' c' es (fun b o hb' e=>hm'.heap b o (fun hmem=>?_) (hk b o hb' e)) hS' (by rw[eq];exact hp) he hm hn
  rcases Ax.mp hmem with e' | hmem
  ·exact hb' e'
  ·exact absurd (Ap e) (by rw[Aw.mp hmem];exact Nat.not_lt.mpr hI)
 have hT2:Shared.TypeIs {s with heap:=h2,drawn:=d} (.ref a) "set":=let ⟨o,ho,hc⟩:=hT;⟨o,kp _ _ ho,hc⟩
 refine Aa (Cq (za7 (s:={s with heap:=h2,drawn:=d}) hT2 ?_))
 refine Dc (fun _=>?_) (fun _=>Ag ⟨He PySem.F.plain_extend_loop _,key _ c₀ _ st (fun b o _ e=>kp b o e) hD2⟩)
 refine Aa (Ga (Aa ?_))
 show Ba _ _ (updateSeq D (·.push .none) >>= fun _=>updateSeq D (·.pop)) _ _ _
 refine Aa (wpAny_updateSeq hD2 rfl ?_)
 have q2:=Er (Ji (·.push Value.none)) hD2 rfl
 refine wpAny_updateSeq (hz:=by seq_fits) q2 rfl ?_
 have q3:=Er (Ji (·.pop)) q2 rfl
 have oth:∀ b o,b≠D->h2.get? b=some o->((h2.update D (Ji (·.push Value.none))).update D (Ji (·.pop))).get? b=some o:=fun b o hb' e=>
  (Fz _ _ (Bp hb')).trans ((Fz _ _ (Bp hb')).trans e)
 exact Ag ⟨He PySem.F.plain_extend_loop _,key _ _ _ (st.at fun b hb' o e=>oth b o (fun z=>hDf (by rw[<-z];simpa using hb')) e) (fun b o hb' e=>oth b o hb' (kp b o e)) q3⟩
end
section
variable {prog:Bo}{w:Ce}{A:Ck}{E:Ae->Ah->Prop}{s:Ah}{a:Addr}
theorem JB:∀ (vs:List Ae),(∀ v∈vs,∃ k,(Ed prog w).is k v=true)->∃ ns,Hv vs ns/\∀ k,k∈ns↔∃ v∈vs,(Ed prog w).is k v=true
 | [],_=>⟨[],.nil,fun k=>by simp⟩
 | v :: vs,h=>by
  obtain⟨ns,h1,h2⟩:=JB vs fun v hv=>h v (Bd _ hv)
  obtain⟨k,hk⟩:=h v Bf
  obtain⟨t,rfl⟩:=Value.isInt_shape (k:=k) (v:=v) hk
  refine⟨k :: ns,.cons k t h1,fun k'=>?_⟩
  have e:(Ed prog w).is k' (.int k t)=decide (k'=k):=KeyKind.is_eq_decide hk k'
  simp only[Ax,h2,exists_eq_or_imp,e,decide_eq_true_eq]
theorem JC:∀ {vs:List Ae} {ns:List Int},Hv vs ns->vs.Pairwise (fun v v'=>∀ k,(Ed prog w).is k v=true->(Ed prog w).is k v'=true->False)->ns.Nodup
 | _,_,.nil,_=>.nil
 | _,_,.cons n t r,h=>by
  have h':=List.pairwise_cons.mp h
  have g:∀ {vs:List Ae} {ns:List Int},Hv vs ns->n∈ns->∃ v∈vs,(Ed prog w).is n v=true:=by
   intro vs ns q
   induction q with
   | nil=>exact fun z=>nomatch z
   | cons m t _ ih=>exact fun z=>(Ax.mp z).elim (fun e=>⟨_,Bf,by rw[e];exact intKind_is _ _ _ _⟩) fun z=>let ⟨v,a,b⟩:=ih z;⟨v,Bd _ a,b⟩
  exact Dg.mpr ⟨fun z=>let ⟨v,a,b⟩:=g r z;h'.1 v a n (intKind_is _ _ _ _) b,JC r h'.2⟩
theorem za9{S:Int->Prop}{n:Nat}{R:List Ae->Ah->Prop}(hh:A.handled=none)(hS:f7 prog w s.heap a S n (jF w))(hz:n<=Am)
  (h:∀ (h':Heap) (tk:Nat) d (vs:List Ae) (ns:List Int),(∀ b o,s.heap.get? b=some o->h'.get? b=some o)->Hv vs ns->(∀ k,k∈ns↔S k)->ns.length<=n->ns.Nodup->R vs {s with heap:=h',toks:=tk,drawn:=d}) :
  Ba (Bj prog w) A (collect (.ref a)) R E s:=by
 have ha:a < s.heap.objs.size:=let ⟨o,_,_,_,ho,_⟩:=hS;Ap ho
 unfold collect
 refine Aa (wpAny_runValue (Fm entry_proto_collect' ?_))
 rw[Ec PySem.F.plain_proto_collect _]
 show Ba _ A.in1 (newList [] >>= fun l=>again (.builtin "list.__iadd__" ⟨[l,.ref a],[]⟩)) _ _ s
 refine Aa (Cy ?_)
 refine Ag ⟨He PySem.F.plain_list_iadd _,Fm entry_list_iadd' ?_⟩
 rw[Ec PySem.F.plain_list_iadd _]
 have q1:(s.heap.push {cls:=.type "list",data:=.seq ([]:List Ae).toArray}).get? s.heap.objs.size=some {cls:=.type "list",data:=.seq #[]}:=Au _ rfl
 show Ba _ A.in1 (Ju (.ref s.heap.objs.size) (.ref a) (.ref s.heap.objs.size)) _ _ _
 have key:=za8 (prog:=prog) (w:=w) (A:=A) (s:={s with heap:=s.heap.push {cls:=.type "list",data:=.seq ([]:List Ae).toArray}})
  (R:=fun(q:Result) (s':Ah)=>∃ (h':Heap) (tk:Nat) (d:_) (acc':Array Ae) (c':Nat) (ns:List Int),q=.ok (.ret (.ref s.heap.objs.size))/\s' = {s with heap:=h',toks:=tk,drawn:=d}/\
   (∀ b o,s.heap.get? b=some o->h'.get? b=some o)/\h'.get? s.heap.objs.size=some {cls:=.type "list",dict:=none,data:=.seq acc' c',slots:=#[]}/\Hv acc'.toList ns/\(∀ k,k∈ns↔S k)/\ns.length<=n/\ns.Nodup)
  hh (hS.at fun o e=>Af _ e) hz s.heap.objs.size (Ct ha) (.ref s.heap.objs.size) 0 q1
  (fun h' tk d acc' c' es hk hD hp he hm hn=>by
   obtain⟨ns,n1,n2⟩:=JB (prog:=prog) (w:=w) acc'.toList fun v hv=>by
    obtain⟨e,h1,rfl⟩:=Az.mp (hp.mem_iff.mp hv)
    obtain⟨⟨k,hk',_⟩,_⟩:=he e h1
    exact⟨k,hk'⟩
   refine⟨h',tk,d,acc',c',ns,rfl,rfl,fun b o e=>hk b o (Be (Ap e)) (Af _ e),hD,n1,fun k=>(n2 k).trans ((hm k).trans ?_).symm,?_,?_⟩
   ·constructor
    ·rintro⟨e,h1,h2⟩
     exact⟨e.2,hp.mem_iff.mpr (Fx h1),h2⟩
    ·rintro⟨v,h1,h2⟩
     obtain⟨e,h3,rfl⟩:=Az.mp (hp.mem_iff.mp h1)
     exact⟨e,h3,h2⟩
   ·have e1:∀ {vs:List Ae} {ns:List Int},Hv vs ns->vs.length=ns.length:=by
     intro vs ns q
     induction q with
     | nil=>rfl
     | cons _ _ _ ih=>simp[ih]
    have l1:=e1 n1
    have l2:=hp.length_eq
    simp only[Ab,Bx] at l1 l2
    have:=hn.1
    lia
   ·exact JC n1 (hp.symm.pairwise (Ld.mpr hn.2) fun q k a b=>q k b a))
 refine Hs key (fun fin s' x=>?_) fun e s' x=>?_
 ·cases fin with
  | done f=>
   obtain⟨h',tk,d,acc',c',ns,e,rfl,hk,hS',y1,y2,y3⟩:=x
   cases e
   show Ba _ A (load s.heap.objs.size >>= _) _ _ _
   exact Aa (wpAny_load hS' (Ag (h h' tk d _ ns hk y1 y2 y3.1 y3.2)))
  | again c₁=>
   refine⟨x.1,Kb x.2 fun q s₂ y=>?_⟩
   obtain⟨h',tk,d,acc',c',ns,rfl,rfl,hk,hS',y1,y2,y3⟩:=y
   show Ba _ A (load s.heap.objs.size >>= _) _ _ _
   exact Aa (wpAny_load hS' (Ag (h h' tk d _ ns hk y1 y2 y3.1 y3.2)))
 ·obtain⟨_,_,_,_,_,_,e',_⟩:=x
  cases e'
theorem zba{S:Int->Prop}{n:Nat}{Q:Ae->Ah->Prop}(hh:A.handled=none)(hS:f7 prog w s.heap a S n (jF w))(h64:n < 64)
  (h:∀ (h1 h':Heap) (tk:Nat) d (out:Array Ae) (ms:List Int) (e:Nat),(∀ b o,s.heap.get? b=some o->h1.get? b=some o)->(∀ b o,h1.get? b=some o->h'.get? b=some o)->Hv out.toList ms->(∀ k,k∈ms↔S k)->ms.length<=n->ms.Pairwise (·<=·)->ms.Nodup->h'.get? h1.objs.size=some (seqObj "list" out e)->
   Q (.ref h1.objs.size) {s with heap:=h',toks:=tk,drawn:=d}):Ba (Bj prog w) A (call (.builtin "sorted") [.ref a]) Q E s:=by
 refine Calls.call_function_entry kind_sorted plain_sorted entry_sorted (args_sorted1 _) ?_
 unfold Ha.«sorted»
 refine Aa (m:=checkCount "sorted" 1 1 _) (Ag (Aa (za9 (A:=A.in1) hh hS (by rw[Ir];lia) fun h' tk d vs ns kp hI hm hn hnd=>?_)))
 have e1:∀ {vs:List Ae} {ns:List Int},Hv vs ns->vs.length=ns.length:=by
  intro vs ns q
  induction q with
  | nil=>rfl
  | cons _ _ _ ih=>simp[ih]
 have hl:=e1 hI
 refine Aa (wpAny_newList (s:={s with heap:=h',toks:=tk,drawn:=d}) ?_ (by rw[hl,Ir];lia))
 have ho:(h'.push (seqObj "list" vs.toArray 0)).get? h'.objs.size=some (seqObj "list" vs.toArray 0):=Au _ rfl
 refine Aa (Cq (Dh slot_list_sort ⟨_,ho,rfl⟩ entry_list_sort (list_sort_tree ho hI (by lia) fun out ns' a1 a2 a3=>⟨_,rfl,?_⟩) (args_list_sort _)))
 obtain⟨e,he⟩:=sortedHeap_at (out:=out) ho
 refine Ag ⟨_,rfl,h h' _ tk d out ns' e kp (fun b o eb=>?_) a1 (fun k=>a2.mem_iff.trans (hm k)) (by rw[a2.length_eq];exact hn) a3 (a2.nodup_iff.mpr hnd) he⟩
 have hlt:b < h'.objs.size:=Ap eb
 exact(sortedHeap_old (Be hlt) (by rw[Cz];exact Gu hlt)).trans (Af _ eb)
end
end Srt
namespace L2
open PySem PySem.Spec PyProof.Rows Srt
section
variable {X:Cx}{a:Expr}{ta:TA}{p p2 pos pos2:Pos}
theorem Inv.dr{pins:List (Addr×Obj)}{σ:St}{H:Hp}{s:Ah}(I:Inv X pins σ H s)(d:_):Inv X pins σ H {s with drawn:=d}:=by
 refine I.step (h':=s.heap) (g':=s.gens) (d':=d) (t':=s.toks) (ch:=[]) (fun _ z=>nomatch z) (fun b o _ _ _ e1 _=>e1) (fun b o _ _ _ e1 _=>⟨o.slots,e1⟩) (fun b o _ _ n=>n) (fun b o _ e1=>⟨o,e1⟩)
  (fun b xs eb=>eb) (fun b o u eb=>eb) (fun b ps eb=>⟨#[],by rw[eb];simp⟩) (fun m hm=>hm) (fun b v eb=>I.hok b v eb) I.bare
theorem JD:∀ {vs:List Ae} {ns:List Int},Hv vs ns->aZ (ns.map V.int) vs
 | _,_,.nil=>.nil
 | _,_,.cons n t r=>.cons ⟨t,rfl⟩ (JD r)
def zbb(ta:TA):TE:=fun σ H Q=>ta σ H fun vs H1=>∃ (l:Addr) (ns:List Int),vs=[.ref l]/\H1 l=some (.lst (ns.map V.int))/\ns.length < 64/\∀ ms:List Int,(∀ k,k∈ms↔k∈ns)->ms.length<=ns.length->ms.Pairwise (·<=·)->ms.Nodup->∀ q,H1 q=none->Q (.ref q) (aQ H1 q (.lst (ms.map V.int)))
theorem zbc:Co "set" = some (.type "set"):=by decide +kernel
theorem zbd:Co "sorted" = some (.builtin "sorted"):=by decide +kernel
theorem zbe(hc:X.calm=true)(hg:Gl X "sorted")(hm:X.mg "sorted" = none)(hg2:Gl X "set")(hm2:X.mg "set" = none)(ha:PA X [a] ta)
  (hs1:Bh [.Call (.Name "set" p2) [a] [] pos2] X.env=[(false,eval (.Call (.Name "set" p2) [a] [] pos2) X.env)]:=by rfl) (hs2:Bh [a] X.env=[(false,eval a X.env)]:=by rfl) :
  PE X (.Call (.Name "sorted" p) [.Call (.Name "set" p2) [a] [] pos2] [] pos) (zbb ta):=by
 intro pins s σ H Q I h
 refine El (iC I hg hm zbd (PyProof.Rows.callWith_builtin1 ?_ hs1 rfl))
 rw[hs1]
 refine Calls.spliced_cons (El (iC I hg2 hm2 zbc (Cu (a9 (ha pos2 pins s σ H _ I h) fun us s1 ⟨vs,H1,I1,r1,q1⟩=>?_) hs2 rfl)))
 obtain⟨l,ns,rfl,hl,h64,q⟩:=q1
 obtain⟨u,rfl,ru⟩:=vals1 r1
 cases ru
 obtain⟨hz,its,n,rv,hlen,ho⟩:=I1.lstM hl
 have hil:its.length=ns.length:=by rw[<-hlen];simp
 refine zaW (items:=its.toArray) (ns:=ns) (I1.ok.hd hc) ⟨_,ho,rfl,n,rfl⟩ (by simpa using intsAre_of rv) (by rw[Bb,hil];unfold Nk;lia) fun h1 tk1 hS hk1=>Calls.spliced_nil ?_
 have kp1:∀ b o,s1.heap.get? b=some o->h1.get? b=some o:=fun b o e=>hk1 b o (Ap e) e
 have I2:Inv X pins σ H1 {s1 with heap:=h1,toks:=tk1}:=I1.kept (t':=tk1) kp1
 refine zba (s:={s1 with heap:=h1,toks:=tk1}) (I1.ok.hd hc) hS (by rw[Bb,hil];exact h64) fun h2 h3 tk d out ms e k1 k2 i1 i2 i3 i4 i6 i5=>?_
 have I3:Inv X pins σ H1 {s1 with heap:=h2,toks:=tk,drawn:=d}:=(I2.kept (t':=tk) k1).dr d
 rw[Bb,hil] at i3
 refine⟨.ref h2.objs.size,_,I3.laid (o:=.lst (ms.map V.int)) (t':=tk) k2 (Aj _) ⟨by rw[Ab,Ir];lia,out.toList,e,JD i1,by rw[Mo];exact i5⟩,rfl,q ms i2 i3 i4 i6 _ (I3.hok.fresh (Aj _))⟩
end
end L2
namespace L3
open PySem PySem.Spec PyProof.Rows L2
section
variable {X:Cx}{a:Expr}{ta:aX}
def JE:W->Mm->K3->Prop
 | .rl ws,M,R=>∃ ns:List Int,ws=ns.map W.int/\ns.length < 64/\∀ ms:List Int,(∀ k,k∈ms↔k∈ns)->ms.length<=ns.length->ms.Pairwise (·<=·)->ms.Nodup->R (.rl (ms.map W.int)) M
 | _,_,_=>False
def JF(ta:aX):aX:=fun τ M R=>ta τ M fun w M1=>JE w M1 R
theorem zbf{K:Ac}{H:Hp}{M:Mm}(ms:List Int):aM K H M (ms.map V.int) (ms.map W.int):=by
 induction ms with
 | nil=>exact .nil
 | cons s r ih=>exact .cons (.int s) ih
theorem zbg{p p2 pos pos2:Pos}(hg:Gl X "sorted")(hm:X.mg "sorted" = none)(hg2:Gl X "set")(hm2:X.mg "set" = none)(ha:E3 X a ta)(hc:X.calm=true:=by rfl)
  (hs1:Bh [.Call (.Name "set" p2) [a] [] pos2] X.env=[(false,eval (.Call (.Name "set" p2) [a] [] pos2) X.env)]:=by rfl) (hs2:Bh [a] X.env=[(false,eval a X.env)]:=by rfl) :
  E3 X (.Call (.Name "sorted" p) [.Call (.Name "set" p2) [a] [] pos2] [] pos) (JF ta):=
 (zbe hc hg hm hg2 hm2 (aC ha aG (by rw[hs2];rfl)) hs1 hs2).weak fun σ H Q z0=>z0.el fun τ M R as am h k=>⟨τ,M,fun ws M1=>match ws with | [w]=>JE w M1 R | _=>False,as,am,h,fun vs H1 ws M1 k1 am1 ax r=>by
  match ws,r with
  | [w],r=>
   obtain⟨v,rfl,av⟩:=ax.one
   cases av <;> first | exact(show False from r).elim | skip
   case rl a xs ws e n q=>
    obtain⟨ns,rfl,h64,r⟩:=r
    rw[q.intsL] at e
    exact⟨a,ns,rfl,e,h64,fun ms h1 h2 h3 h4 p hp=>GA am1 (k.kp k1) hp (zbf ms) (r ms h1 h2 h3 h4)⟩⟩
end
end L3
namespace L2
open PySem PySem.Spec PyProof.Rows
section
variable {X:Cx}{a:Expr}{ta:TA}{p p2 pos pos2:Pos}
def zbh(ta:TA):TE:=fun σ H Q=>ta σ H fun vs H1=>∃ n:Nat,vs=[.int n]/\n<=1000/\∀ q,H1 q=none->Q (.ref q) (aQ H1 q (.lst ((Bu n).map fun(i:Nat)=>V.int i)))
theorem zbi(hc:X.calm=true)(hg:Gl X "list")(hm:X.mg "list" = none)(hg2:Gl X "range")(hm2:X.mg "range" = none)(ha:PA X [a] ta)
  (hs1:Bh [.Call (.Name "range" p2) [a] [] pos2] X.env=[(false,eval (.Call (.Name "range" p2) [a] [] pos2) X.env)]:=by rfl) (hs2:Bh [a] X.env=[(false,eval a X.env)]:=by rfl) :
  PE X (.Call (.Name "list" p) [.Call (.Name "range" p2) [a] [] pos2] [] pos) (zbh ta):=by
 intro pins s σ H Q I h
 refine El (iC I hg hm (by decide +kernel:Co "list" = some (.type "list")) (Cu ?_ hs1 rfl))
 rw[hs1]
 refine Calls.spliced_cons (El (iC I hg2 hm2 (by decide +kernel:Co "range" = some (.type "range")) (Cu (a9 (ha pos2 pins s σ H _ I h) fun us s1 ⟨vs,H1,I1,r1,q1⟩=>?_) hs2 rfl)))
 obtain⟨n,rfl,hn,q⟩:=q1
 obtain⟨u,rfl,ru⟩:=vals1 r1
 obtain⟨t,rfl⟩:=ru
 refine call_range_1 (Calls.spliced_nil ?_)
 have sz:Builtin.Range.rangeSize 0 (n:Int) 1=(n:Nat):=by rw[rangeSize_one];split <;> lia
 refine call_list_range (n:=n) (b:=(n:Int)) (I1.ok.hd hc) (IsRange.new _ _ _ _ _ _ _) (PySem.small_one (by decide) (by decide) (by lia) (by lia)) sz (by lia) fun h' tk acc c hk hS hacc=>?_
 have up:∀ b o,s1.heap.get? b=some o->h'.get? b=some o:=fun b o e=>hk b o (Af _ e)
 have ez:(s1.heap.push {cls:=.type "range",data:=.fields #[.int 0 0,.int (n:Int) t,.int 1 0]}).objs.size=s1.heap.objs.size + 1:=Cz _ _
 refine⟨.ref _,_,I1.laid (o:=.lst ((Bu n).map fun(i:Nat)=>V.int i)) (t':=tk) up ?_ ⟨by simp[Ir];lia,acc.toList,c,?_,by rw[Mo];exact hS⟩,rfl,q _ (I1.hok.fresh ?_)⟩
 ·first | exact Jr (Nat.lt_of_lt_of_eq (Gh _) (Cz _ _).symm) | (rw[Cz];exact Kj _)
 ·refine vP (by simp[hacc.1]) fun j v hv=>?_
  have hv':acc[j]? = some v:=by simpa using hv
  obtain⟨t',rfl⟩:=hacc.2 j v hv'
  have hj:j < n:=by have:=(Array.getElem?_eq_some_iff.mp hv').1;rw[hacc.1] at this;exact this
  refine⟨.int j,?_,t',by simp⟩
  simp[hj]
 ·first | exact Jr (Nat.lt_of_lt_of_eq (Gh _) (Cz _ _).symm) | (rw[Cz];exact Kj _)
end
end L2
namespace L3
open PySem PySem.Spec PyProof.Rows L2
section
variable {X:Cx}{a:Expr}{ta:aX}
def JG(ta:aX):aX:=fun τ M R=>ta τ M fun w M1=>∃ n:Nat,w=.int n/\n<=1000/\bA ((Bu n).map fun(i:Nat)=>W.int i) M1 R
theorem zbj{p p2 pos pos2:Pos}(hg:Gl X "list")(hm:X.mg "list" = none)(hg2:Gl X "range")(hm2:X.mg "range" = none)(ha:E3 X a ta)(hc:X.calm=true:=by rfl)
  (hs1:Bh [.Call (.Name "range" p2) [a] [] pos2] X.env=[(false,eval (.Call (.Name "range" p2) [a] [] pos2) X.env)]:=by rfl) (hs2:Bh [a] X.env=[(false,eval a X.env)]:=by rfl) :
  E3 X (.Call (.Name "list" p) [.Call (.Name "range" p2) [a] [] pos2] [] pos) (JG ta):=
 (zbi hc hg hm hg2 hm2 (aC ha aG (by rw[hs2];rfl)) hs1 hs2).weak fun σ H Q z0=>z0.el fun τ M R as am h k=>⟨τ,M,fun ws M1=>∃ n:Nat,ws=[.int n]/\n<=1000/\bA ((Bu n).map fun(i:Nat)=>W.int i) M1 R,as,am,(show aB ta aF τ M _ from(show ta τ M _ from by
  refine(id h:ta τ M _) |> fun z=>?_
  exact Eq.mp (congrArg (ta τ M) (funext fun w=>funext fun M1=>propext ⟨fun⟨n,e,r⟩=>⟨n,by rw[e],r⟩,fun⟨n,e,r⟩=>⟨n,(List.cons.inj e).1,r⟩⟩)) z)),fun vs H1 ws M1 k1 am1 ax ⟨n,e,hn,r⟩=>by
  subst e
  obtain⟨v,rfl,av⟩:=ax.one
  obtain rfl:=av.inv
  refine⟨n,rfl,hn,fun q hq=>iK am1 (k.kp k1) hq ?_ r⟩
  have:∀ l:List Nat,aM X.K H1 M1 (l.map fun(i:Nat)=>V.int i) (l.map fun(i:Nat)=>W.int i):=by
   intro l
   induction l with
   | nil=>exact .nil
   | cons i r ih=>exact .cons (.int _) ih
  exact this _⟩
end
end L3
namespace Rg
open PySem PySem.Spec PyProof.Rows L2 L3
def NM:List Str:=["S","A","BB","C_1"]
def W3:List Str:=["a","b","cat"]
def W4:List Str:=["a","b","cat","dog"]
def isN(t:Str):Bool:=decide (t∈NM)
theorem yR{t:Str}(h:t∈W4):isN t=false:=by
 have:∀ t∈W4,isN t=false:=by decide +kernel
 exact this t h
theorem lW{t:Str}(h:t∈W3):t∈W4:=by
 have:∀ t∈W3,t∈W4:=by decide +kernel
 exact this t h
structure e8(rs:List aW):Prop where
 ne:rs≠[]
 few:rs.length<=8
 nm:∀ r∈rs,r.name∈NM
 fp:∀ r∈rs,r.parts.length<=4
 prt:∀ r∈rs,∀ t∈r.parts,t∈W3\/(t∈NM/\∃ q∈rs,q.name=t)
 lo:∀ r∈rs,0<=r.cost
 hi:∀ r∈rs,r.cost < 10 ^ 60
structure Rw(row:List Str):Prop where
 few:row.length<=6
 wd:∀ t∈row,t∈W4
def eP(rs:List aW)(t:Str):Bool:=decide (t∈namesOf rs)
theorem JH{rs:List aW}{t:Str}:eP rs t=true↔∃ r∈rs,r.name=t:=by
 unfold eP;rw[decide_eq_true_eq,G8]
theorem e8.own{rs:List aW}(g:e8 rs){r:aW}(hr:r∈rs){t:Str}(ht:t∈r.parts):eP rs t=isN t:=by
 rcases g.prt r hr t ht with h | ⟨h1,h2⟩
 ·rw[yR (lW h)]
  cases z:eP rs t with
  | false=>rfl
  | true=>
   obtain⟨q,hq,rfl⟩:=JH.mp z
   have:=yR (lW h)
   unfold isN at this
   rw[decide_eq_true (g.nm q hq)] at this;cases this
 ·rw[JH.mpr h2];unfold isN;rw[decide_eq_true h1]
def lX(row:List Str)(t:Str)(p:Int):List (Int×Int):=if 0<=p/\row[p.toNat]? = some t then [(p + 1,0)] else []
def dJ(rs:List aW)(row:List Str):Sr:=⟨rs,eP rs,(Bu (row.length + 1)).map fun(i:Nat)=>(i:Int),lX row,fun _=>0⟩
theorem qL{row:List Str}{t:Str}{p e c:Int}:(e,c)∈lX row t p↔0<=p/\row[p.toNat]? = some t/\e=p + 1/\c=0:=by
 unfold lX
 split
 ·rename_i h;simp[h]
 ·rename_i h
  simp only[Ej,false_iff]
  exact fun z=>h ⟨z.1,z.2.1⟩
theorem yS{n:Nat}{p:Int}:p∈((Bu (n + 1)).map fun(i:Nat)=>(i:Int))↔0<=p/\p<=n:=by
 rw[Az]
 constructor
 ·rintro⟨i,hi,rfl⟩
  have:=Dy.mp hi
  lia
 ·intro h
  exact⟨p.toNat,Dy.mpr (by lia),by lia⟩
inductive Rc(row:List Str)(K:aY->Prop)(b:Int):List Str->Int->Prop
 | nil:Rc row K b [] b
 | word {ps:List Str} {m:Int} {t:Str}:Rc row K b ps m->isN t=false->0<=m->row[m.toNat]? = some t->Rc row K b (ps ++ [t]) (m + 1)
 | name {ps:List Str} {m e:Int} {t:Str}:Rc row K b ps m->isN t=true->m<=e->e<=row.length->K (t,m,e)->Rc row K b (ps ++ [t]) e
theorem Rc.mono{row:List Str}{K K':aY->Prop}(h:∀ f,K f->K' f){b e:Int}{ps:List Str}(r:Rc row K b ps e):Rc row K' b ps e:=by
 induction r with
 | nil=>exact .nil
 | word _ a b c ih=>exact .word ih a b c
 | name _ a b c d ih=>exact .name ih a b c (h _ d)
theorem Rc.in_{row:List Str}{K:aY->Prop}{b e:Int}{ps:List Str}(hb:0<=b/\b<=row.length)(r:Rc row K b ps e):b<=e/\e<=row.length:=by
 induction r with
 | nil=>exact⟨Lh _,hb.2⟩
 | word _ _ h1 h2 ih=>
  have:=(Ai.mp h2).1
  lia
 | name _ _ h1 h2 _ ih=>lia
def jH(rs:List aW)(row:List Str)(f:aY):Prop:=∃ n cut c,DI (dJ rs row) n cut c/\dH (dJ rs row) n cut=none/\f=cL (dJ rs row) n cut
theorem yT{rs:List aW}{row:List Str}{n:Nat}{cut:List Int}{r:aW}(h:rs[n]? = some r):dH (dJ rs row) n cut=r.parts[cut.length - 1]?:=part_of (G:=dJ rs row) h
theorem JI(l:List Int)(z:Int):(l ++ [z]).getLastD 0=z:=by simp[Gn]
theorem zbk{rs:List aW}{row:List Str}(g:e8 rs){n:Nat}{r:aW}(hr:rs[n]? = some r){b:Int}(hb:0<=b/\b<=row.length){ps:List Str}{e:Int}(h:Rc row (jH rs row) b ps e) :
  ∀ k,ps=r.parts.take k->k<=r.parts.length->∃ cut c,DI (dJ rs row) n cut c/\cut.length=k + 1/\cut.headD 0=b/\cut.getLastD 0=e:=by
 have hrm:r∈rs:=An hr
 have step:∀ {k:Nat} {ps:List Str} {t:Str},ps ++ [t]=r.parts.take k->k<=r.parts.length->∃ j,k=j + 1/\ps=r.parts.take j/\r.parts[j]? = some t:=fun {k ps t} e1 e2=>by
  have hl:ps.length + 1=k:=by have:=congrArg Ds e1;simp at this;lia
  refine⟨ps.length,hl.symm,?_,?_⟩
  ·have:=congrArg (List.take ps.length) e1
   rw[List.take_left,List.take_take,Me (by lia)] at this
   exact this
  ·have:=congrArg (fun l=>l[ps.length]?) e1
   simp only[List.getElem?_concat_length] at this
   rw[List.getElem?_take_of_lt (by lia)] at this
   exact this.symm
 have snoc:∀ {cut:List Int} {z:Int},cut≠[]->(cut ++ [z]).headD 0=cut.headD 0/\(cut ++ [z]).getLastD 0=z:=fun {cut z} h=>by
  cases cut with
  | nil=>exact absurd rfl h
  | cons x cut=>exact⟨rfl,JI _ _⟩
 induction h with
 | nil=>
  intro k e1 e2
  have:k=0:=by have:=congrArg Ds e1;rw[Cb,List.length_nil] at this;lia
  subst this
  exact⟨[b],_,.start hr (yS.mpr hb),rfl,rfl,rfl⟩
 | @word ps m t h1 h2 h3 h4 ih=>
  intro k e1 e2
  obtain⟨j,rfl,e3,e4⟩:=step e1 e2
  obtain⟨cut,c,d,l,a1,a2⟩:=ih j e3 (by lia)
  have ho:eP rs t=false:=by rw[g.own hrm (An e4)];exact h2
  refine⟨cut ++ [m + 1],_,.word (e:=m + 1) (pr:=0) d hr (by rw[l];exact e4) ho (by rw[a2];exact qL.mpr ⟨h3,h4,rfl,rfl⟩),by simp[l],?_,?_⟩
  ·rw[(snoc d.ne).1,a1]
  ·exact(snoc d.ne).2
 | @name ps m e t h1 h2 h3 h4 h5 ih=>
  intro k e1 e2
  obtain⟨j,rfl,e3,e4⟩:=step e1 e2
  obtain⟨cut,c,d,l,a1,a2⟩:=ih j e3 (by lia)
  have ho:eP rs t=true:=by rw[g.own hrm (An e4)];exact h2
  obtain⟨n',cut',c',d',p',f'⟩:=h5
  unfold cL at f'
  simp only[Dd] at f'
  obtain⟨f1,f2,f3⟩:=f'
  refine⟨cut ++ [cut'.getLastD 0],_,.name d hr (by rw[l];exact e4) ho d' p' f1.symm (by rw[a2,f2]),by simp[l],?_,?_⟩
  ·rw[(snoc d.ne).1,a1]
  ·rw[(snoc d.ne).2,f3]
theorem zbl{rs:List aW}{row:List Str}(g:e8 rs){r:aW}(hr:r∈rs){b e:Int}(hb:0<=b/\b<=row.length)(h:Rc row (jH rs row) b r.parts e):jH rs row (r.name,b,e):=by
 obtain⟨n,hn,rfl⟩:=Kg.mp hr
 have hn':rs[n]? = some rs[n]:=Ak hn
 obtain⟨cut,c,d,l,a1,a2⟩:=zbk g hn' hb h _ (De.symm) (Aj _)
 refine⟨n,cut,c,d,?_,?_⟩
 ·rw[yT hn',l];simp
 ·unfold cL
  rw[a1,a2]
  have:cG (dJ rs row) n=rs[n].name:=by unfold cG;rw[show(dJ rs row).rs[n]? = some rs[n] from hn']
  rw[this]
theorem JJ{rs:List aW}{row:List Str}(g:e8 rs){K:aY->Prop}(hK:∀ r∈rs,∀ b e:Int,0<=b->b<=e->e<=row.length->Rc row K b r.parts e->K (r.name,b,e)){f:aY}(h:jH rs row f):K f:=by
 have inn:∀ {n:Nat} {cut:List Int} {c:aK},DI (dJ rs row) n cut c->∀ r,rs[n]? = some r->(0<=cut.headD 0/\cut.headD 0<=row.length)/\cut.length - 1<=r.parts.length/\Rc row K (cut.headD 0) (r.parts.take (cut.length - 1)) (cut.getLastD 0):=by
  intro n cut c h
  have snoc:∀ {cut:List Int} {z:Int},cut≠[]->(cut ++ [z]).headD 0=cut.headD 0/\(cut ++ [z]).getLastD 0=z/\(cut ++ [z]).length - 1=(cut.length - 1) + 1:=fun {cut z} h=>by
   cases cut with
   | nil=>exact absurd rfl h
   | cons x cut=>exact⟨rfl,JI _ _,by simp⟩
  induction h with
  | start h1 h2=>intro r _;exact⟨yS.mp h2,Ci _,by simpa using Rc.nil⟩
  | @word n r' cut c part e pr d h1 h2 h3 h4 ih=>
   intro r hr
   have h1:rs[n]? = some r':=h1
   rw[h1] at hr;cases hr
   obtain⟨i1,i2,i3⟩:=ih r' h1
   obtain⟨s1,s2,s3⟩:=snoc (z:=e) d.ne
   have hl:=(Ai.mp h2).1
   obtain⟨m1,m2,rfl,m4⟩:=qL.mp h4
   rw[s1,s2,s3]
   refine⟨i1,by lia,?_⟩
   rw[Du,h2]
   exact .word i3 (by rw[<-g.own (An h1) (An h2)];exact h3) m1 m2
  | @name n n' r' cut cut' c m part d h1 h2 h3 d' h4 h5 h6 ih ih'=>
   intro r hr
   have h1:rs[n]? = some r':=h1
   rw[h1] at hr;cases hr
   obtain⟨i1,i2,i3⟩:=ih r' h1
   obtain⟨s1,s2,s3⟩:=snoc (z:=cut'.getLastD 0) d.ne
   have hl:=(Ai.mp h2).1
   obtain⟨q,hq⟩:∃ q,rs[n']? = some q:=by
    cases z:rs[n']? with
    | some q=>exact⟨q,rfl⟩
    | none=>
     have:cG (dJ rs row) n'=part:=h5
     have hi:∀ {n:Nat} {cut:List Int} {c:aK},DI (dJ rs row) n cut c->∃ q,rs[n]? = some q:=fun h=>by
      cases h with
      | start a _=>exact⟨_,a⟩
      | word _ a _ _ _=>exact⟨_,a⟩
      | name _ a _ _ _ _ _ _=>exact⟨_,a⟩
     obtain⟨q,e⟩:=hi d'
     rw[z] at e;cases e
   obtain⟨j1,j2,j3⟩:=ih' q hq
   have fq:q.name=part:=by
    have h5:cG (dJ rs row) n'=part:=h5
    unfold cG at h5
    rw[show(dJ rs row).rs[n']? = some q from hq] at h5;exact h5
   rw[yT hq] at h4
   have full:r'.parts.length=r'.parts.length:=rfl
   have hfull:q.parts.take (cut'.length - 1)=q.parts:=Fc (La.mp h4)
   rw[hfull] at j3
   obtain⟨k1,k2⟩:=j3.in_ j1
   have kk:=hK q (An hq) _ _ j1.1 k1 k2 j3
   rw[s1,s2,s3]
   refine⟨i1,by lia,?_⟩
   rw[Du,h2]
   rw[fq,h6] at kk
   rw[h6] at k1
   exact .name i3 (by rw[<-g.own (An h1) (An h2)];exact h3) k1 k2 kk
 obtain⟨n,cut,c,d,p,rfl⟩:=h
 obtain⟨r,hr⟩:∃ r,rs[n]? = some r:=by
  cases d with
  | start a _=>exact⟨_,a⟩
  | word _ a _ _ _=>exact⟨_,a⟩
  | name _ a _ _ _ _ _ _=>exact⟨_,a⟩
 obtain⟨j1,j2,j3⟩:=inn d r hr
 rw[yT hr] at p
 rw[Fc (La.mp p)] at j3
 obtain⟨k1,k2⟩:=j3.in_ j1
 have:=hK r (An hr) _ _ j1.1 k1 k2 j3
 unfold cL
 have e:cG (dJ rs row) n=r.name:=by unfold cG;rw[show(dJ rs row).rs[n]? = some r from hr]
 rw[e];exact this
structure lY(n:Nat)(f:aY):Prop where
 nm:f.1∈NM
 lo:0<=f.2.1
 le:f.2.1<=f.2.2
 hi:f.2.2<=n
theorem t6{rs:List aW}{row:List Str}(g:e8 rs){f:aY}(h:jH rs row f):lY row.length f:=JJ g (K:=lY row.length) (fun r hr b e h1 h2 h3 _=>⟨g.nm r hr,h1,h2,h3⟩) h
def yU:List aY:=NM.flatMap fun s=>(Bu 7).flatMap fun b=>((Bu 7).filter fun(e:Nat)=>decide (b<=e)).map fun(e:Nat)=>(s,(b:Int),(e:Int))
theorem zbm{n:Nat}(hn:n<=6){f:aY}(h:lY n f):f∈yU:=by
 obtain⟨s,b,e⟩:=f
 obtain⟨h1,h2,h3,h4⟩:=h
 simp only at h1 h2 h3 h4
 refine Hc.mpr ⟨s,h1,Hc.mpr ⟨b.toNat,Dy.mpr (by lia),Az.mpr ⟨e.toNat,Cv.mpr ⟨Dy.mpr (by lia),by rw[decide_eq_true_eq];lia⟩,?_⟩⟩⟩
 simp only[Dd,true_and]
 lia
theorem JK{n:Nat}(hn:n<=6){l:List aY}(nd:l.Nodup)(h:∀ f∈l,lY n f):l.length < 128:=by
 have:=len_sub (b:=yU) nd fun f hf=>zbm hn (h f hf)
 have e:yU.length=112:=by decide +kernel
 lia
theorem t7{G:Sr}{B:bR}(h:iT G B):(B.map (·.1)).Nodup:=by
 obtain⟨S,I0,st,P,cur,T,A,hq,rfl,_⟩:=h
 have o:=A.ob.ord
 generalize st.best=B at o
 rw[Ku,Ld]
 refine Im.mpr fun i j hi hj hij e=>?_
 have sp:B=B.take j ++ B[j] :: B.drop (j + 1):=by rw[<-Gp hj,List.take_append_drop]
 have hn:=(o _ _ _ sp).2
 have hm:B[i]∈B.take j:=by
  rw[Kg]
  exact⟨i,by rw[Cb];lia,by rw[List.getElem_take]⟩
 unfold aH at hn
 rw[Option.map_eq_none_iff,List.find?_eq_none] at hn
 have:=hn _ hm
 rw[decide_eq_true_eq] at this
 exact this e
theorem qM{rs:List aW}{row:List Str}{B:bR}(h:iT (dJ rs row) B)(f:aY):f∈B.map (·.1)↔jH rs row f:=by
 have nd:=t7 h
 obtain⟨S,I0,st,P,cur,T,A,hq,rfl,_⟩:=h
 constructor
 ·intro hf
  obtain⟨e,he,rfl⟩:=Az.mp hf
  obtain⟨a,b,sp⟩:=List.append_of_mem he
  have d:=HD A.ob _ a e b rfl sp
  have at_:aH st.best e.1=some e.2:=by
   rw[sp] at nd ⊢
   rw[Bi,Ay,Ea] at nd
   unfold aH
   rw[List.find?_append,List.find?_eq_none.mpr fun x hx=>by
    rw[decide_eq_true_eq]
    exact nd.2.2 _ (Fx hx) _ Bf]
   simp
  obtain⟨⟨f⟩,c,n,cut⟩:=e
  obtain⟨d1,d2,d3⟩:=tD A.ob at_
  exact⟨_,_,_,d1,d2,d3⟩
 ·rintro⟨n,cut,c,d,p,rfl⟩
  obtain⟨m,k,e,_⟩:=WE A.inv A.ob A.ini hq d p
  unfold aH at e
  obtain⟨x,hx,_⟩:=Bg.mp e
  have:=List.find?_some hx
  rw[decide_eq_true_eq] at this
  rw[<-this]
  exact Fx (List.mem_of_find?_eq_some hx)
theorem yV{G:Sr}{i:Nat}(h:(mY G i).q=[]):∀ k,mY G (i + k)=mY G i
 | 0=>rfl
 | k + 1=>by
  show jC G (mY G (i + k))=_
  rw[yV h k]
  unfold jC
  rw[h];rfl
theorem iT.uniq{G:Sr}{B B':bR}(h:iT G B)(h':iT G B'):B=B':=by
 obtain⟨_,_,_,_,_,T,_,hq,rfl,rfl⟩:=h
 obtain⟨_,_,_,_,_,T',_,hq',rfl,rfl⟩:=h'
 rcases Nat.le_total T T' with z | z
 ·obtain⟨k,rfl⟩:=Lu z
  rw[yV hq k]
 ·obtain⟨k,rfl⟩:=Lu z
  rw[yV hq' k]
theorem oE{l:List Int}{e:Int}{k:Nat}(h:k < l.length):(l ++ [e]).getD k 0=l.getD k 0:=by
 rw[Ef,Ef,List.getElem?_append_left h]
theorem JL{l:List Int}{e:Int}:(l ++ [e]).getD l.length 0=e:=by
 rw[Ef,List.getElem?_concat_length];rfl
theorem getD_last{l:List Int}:l.getD (l.length - 1) 0=l.getLastD 0:=by
 rw[Ef,Gn,List.getLast?_eq_getElem?]
theorem zbn{l:List Int}:l.getD 0 0=l.headD 0:=by cases l <;> rfl
abbrev En:=aY×aK×Nat×List Int
structure t9(G:Sr)(pre:bR)(e:En)(r:aW):Prop where
 no:aH pre e.1=none
 ru:G.rs[e.2.2.1]? = some r
 fa:e.1=(r.name,e.2.2.2.headD 0,e.2.2.2.getLastD 0)
 ln:e.2.2.2.length=r.parts.length + 1
 pn:∀ k t,r.parts[k]? = some t->G.own t=true->(aH pre (t,e.2.2.2.getD k 0,e.2.2.2.getD (k + 1) 0)).isSome=true
 pw:∀ k t,r.parts[k]? = some t->G.own t=false->∃ pr,(e.2.2.2.getD (k + 1) 0,pr)∈G.steps t (e.2.2.2.getD k 0)
def uA(G:Sr)(B:bR):Prop:=∀ pre e post,B=pre ++ e :: post->∃ r,t9 G pre e r
theorem zbo{G:Sr}{B:bR}{n:Nat}{cut:List Int}{c:aK}(g:GI G B n cut c):∀ r,G.rs[n]? = some r->cut.length<=r.parts.length + 1/\0 < cut.length/\
  ∀ k t,k + 1 < cut.length->r.parts[k]? = some t->(G.own t=true->(aH B (t,cut.getD k 0,cut.getD (k + 1) 0)).isSome=true)/\(G.own t=false->∃ pr,(cut.getD (k + 1) 0,pr)∈G.steps t (cut.getD k 0)):=by
 induction g with
 | start h1 h2=>exact fun r _=>⟨Nat.le_add_left _ _,Nat.zero_lt_one,fun k t h=>by simp at h⟩
 | @word r' cut c part e pr g h1 h2 h3 h4 ih=>
  intro r hr
  rw[h1] at hr;cases hr
  obtain⟨i1,i2,i3⟩:=ih r' h1
  have hl:=(Ai.mp h2).1
  refine⟨by simp;lia,by simp,fun k t hk ht=>?_⟩
  rw[Ao,Cd] at hk
  by_cases z:k + 1 < cut.length
  ·rw[oE (by lia),oE z];exact i3 k t z ht
  ·obtain rfl:k=cut.length - 1:=by lia
   rw[h2] at ht;cases ht
   rw[oE (by lia),getD_last,show cut.length - 1 + 1=cut.length by lia,JL]
   exact⟨fun z=>(by rw[h3] at z;cases z),fun _=>⟨_,h4⟩⟩
 | @name r' cut c m part e k' g h1 h2 h3 h4 ih=>
  intro r hr
  rw[h1] at hr;cases hr
  obtain⟨i1,i2,i3⟩:=ih r' h1
  have hl:=(Ai.mp h2).1
  refine⟨by simp;lia,by simp,fun k t hk ht=>?_⟩
  rw[Ao,Cd] at hk
  by_cases z:k + 1 < cut.length
  ·rw[oE (by lia),oE z];exact i3 k t z ht
  ·obtain rfl:k=cut.length - 1:=by lia
   rw[h2] at ht;cases ht
   rw[oE (by lia),getD_last,show cut.length - 1 + 1=cut.length by lia,JL]
   exact⟨fun _=>(by rw[h4];rfl),fun z=>(by rw[h3] at z;cases z)⟩
theorem uB{κ β:Type}[DecidableEq κ](a b:List (κ×β))(k:κ):aH (a ++ b) k=(aH a k).or (aH b k):=by
 unfold aH
 rw[List.find?_append,Option.map_or]
theorem JM{G:Sr}{B:bR}(h:iT G B):uA G B:=by
 obtain⟨S,I0,st,P,cur,T,A,hq,rfl,_⟩:=h
 intro pre e post hb
 obtain⟨g,hn⟩:=A.ob.ord pre e post hb
 have hat:aH st.best e.1=some e.2:=by rw[hb,uB,hn,dG,if_pos rfl];rfl
 obtain⟨p1,p2,_⟩:=A.ob.bst e.1 e.2.1 e.2.2.1 e.2.2.2 hat
 obtain⟨r,hr⟩:=g.rule
 obtain⟨i1,i2,i3⟩:=zbo g r hr
 rw[part_of hr] at p1
 have p1:=La.mp p1
 have hl:e.2.2.2.length=r.parts.length + 1:=by lia
 refine⟨r,hn,hr,?_,hl,fun k t ht=>(i3 k t ?_ ht).1,fun k t ht=>(i3 k t ?_ ht).2⟩
 ·rw[p2];unfold cL cG;rw[hr]
 all_goals have:=(Ai.mp ht).1;lia
section
variable (G:Sr)(fw:Str->Int->Int->W)(fr:Nat->List W->W)
def kW(T:aY->W)(cut:List Int)(ps:List Str):List W:=ps.zipIdx.map fun x=>if G.own x.1=true then T (x.1,cut.getD x.2 0,cut.getD (x.2 + 1) 0) else fw x.1 (cut.getD x.2 0) (cut.getD (x.2 + 1) 0)
def kX(n:Nat):List Str:=((G.rs[n]?).map aW.parts).getD []
def uC(T:List (aY×W))(e:En):aY×W:=(e.1,fr e.2.2.1 (kW G fw (fun f=>(aH T f).getD .non) e.2.2.2 (kX G e.2.2.1)))
def stepT(T:List (aY×W))(e:En):List (aY×W):=T ++ [uC G fw fr T e]
def j8(B:bR):List (aY×W):=B.foldl (stepT G fw fr) []
def uD(B:bR)(f:aY):W:=(aH (j8 G fw fr B) f).getD .non
end
section
variable {G:Sr}{fw:Str->Int->Int->W}{fr:Nat->List W->W}
theorem JN(B:bR)(T:List (aY×W)):∃ m,B.foldl (stepT G fw fr) T=T ++ m/\m.map Fh=B.map (·.1):=by
 induction B generalizing T with
 | nil=>exact⟨[],by simp,rfl⟩
 | cons e B ih=>
  obtain⟨m,h1,h2⟩:=ih (stepT G fw fr T e)
  refine⟨uC G fw fr T e :: m,?_,congrArg (e.1 :: ·) h2⟩
  rw[Fd,h1,stepT,Fu];rfl
theorem jI{κ β:Type}[DecidableEq κ]{t:List (κ×β)}{k:κ}:(aH t k).isSome=true↔k∈t.map (·.1):=by
 rw[<-lT,Ij,Az]
 exact⟨fun⟨x,h,e⟩=>⟨x,h,of_decide_eq_true e⟩,fun⟨x,h,e⟩=>⟨x,h,decide_eq_true e⟩⟩
theorem JO{B pre post:bR}{e:En}{r:aW}(hb:B=pre ++ e :: post)(E:t9 G pre e r):uD G fw fr B e.1=fr e.2.2.1 (kW G fw (uD G fw fr B) e.2.2.2 r.parts):=by
 obtain⟨m0,a1,a2⟩:=JN (G:=G) (fw:=fw) (fr:=fr) pre []
 rw[Kk] at a1
 obtain⟨m,h1,h2⟩:=JN (G:=G) (fw:=fw) (fr:=fr) post (stepT G fw fr (j8 G fw fr pre) e)
 have ht:j8 G fw fr B=j8 G fw fr pre ++ (uC G fw fr (j8 G fw fr pre) e :: m):=by
  unfold j8 at h1 ⊢
  rw[hb,List.foldl_append,Fd,h1,stepT,Fu];rfl
 have hk:(j8 G fw fr pre).map Fh=pre.map (·.1):=by unfold j8;rw[a1];exact a2
 have hn:aH (j8 G fw fr pre) e.1=none:=by
  rw[<-Option.not_isSome_iff_eq_none,jI,hk,<-jI,E.no];exact Ar
 have hp:kX G e.2.2.1=r.parts:=by unfold kX;rw[E.ru];rfl
 unfold uD
 rw[ht,uB,hn,dG,if_pos (show(uC G fw fr (j8 G fw fr pre) e).1=e.1 from rfl)]
 show fr e.2.2.1 (kW G fw _ e.2.2.2 (kX G e.2.2.1))=_
 rw[hp]
 refine congrArg _ (Ko fun x hx=>?_)
 obtain⟨t,k⟩:=x
 have hx:=Hk.mp hx
 by_cases ho:G.own t=true
 ·rw[if_pos ho,if_pos ho]
  dsimp only
  rw[uB]
  have hs:=E.pn k t hx ho
  rw[jI,<-hk,<-jI] at hs
  obtain⟨v,hv⟩:=Gs.mp hs
  rw[hv];rfl
 ·rw[if_neg ho,if_neg ho]
end
abbrev iA(G:Sr)(B:bR)(f:aY):W:=uD G (fun t _ _=>.str t) (fun n vs=>.tup [.int n,.tup vs]) B f
def oF(B:bR)(f:aY):Nat:=(B.map (·.1)).idxOf f
def Tr(rs:List aW)(row:List Str)(B:bR):Nat->aY->W->Prop
 | 0,_,_=>False
 | d + 1,f,w=>∃ (n:Nat) (r:aW) (cut:List Int) (kids:List W),w=.tup [.int n,.tup kids]/\rs[n]? = some r/\f=(r.name,cut.getD 0 0,cut.getD r.parts.length 0)/\kids.length=r.parts.length/\
   ∀ k t,r.parts[k]? = some t->cut.getD k 0<=cut.getD (k + 1) 0/\(isN t=false->kids[k]? = some (.str t)/\0<=cut.getD k 0/\row[(cut.getD k 0).toNat]? = some t/\cut.getD (k + 1) 0=cut.getD k 0 + 1)/\
    (isN t=true->∃ w',kids[k]? = some w'/\Tr rs row B d (t,cut.getD k 0,cut.getD (k + 1) 0) w'/\oF B (t,cut.getD k 0,cut.getD (k + 1) 0) < oF B f)
def mW:Nat->W->Int
 | _,.str _=>1
 | d + 1,.tup [.int _,.tup kids]=>(kids.map (mW d)).sum
 | _,_=>0
section
variable {rs:List aW}{row:List Str}{B:bR}
theorem Tr.up:∀ {d:Nat} {f:aY} {w:W},Tr rs row B d f w->Tr rs row B (d + 1) f w
 | 0,_,_,h=>h.elim
 | d + 1,f,w,⟨n,r,cut,kids,h1,h2,h3,h4,h5⟩=>⟨n,r,cut,kids,h1,h2,h3,h4,fun k t ht=>⟨(h5 k t ht).1,(h5 k t ht).2.1,fun ho=>let ⟨w',a,b,c⟩:=(h5 k t ht).2.2 ho;⟨w',a,b.up,c⟩⟩⟩
theorem Tr.mono{d:Nat}{f:aY}{w:W}(h:Tr rs row B d f w):∀ k,Tr rs row B (d + k) f w
 | 0=>h
 | k + 1=>(Tr.mono h k).up
def lZ(f:aY)(e:En):Bool:=decide (e.1.2=f.2)
def uE(pre:bR)(f:aY):Nat:=4 * (f.2.2 - f.2.1).toNat + ((pre.filter (lZ f)).length + 1)
theorem JP{pre post:bR}{e:En}(hb:B=pre ++ e :: post)(nd:(B.map (·.1)).Nodup):oF B e.1=pre.length:=by
 unfold oF
 rw[hb,Bi,Ay] at nd ⊢
 rw[Ea] at nd
 rw[List.idxOf_append,if_neg (fun h=>nd.2.2 _ h _ Bf rfl),List.idxOf_cons_self,Ab,Jq]
theorem JQ(nd:(B.map (·.1)).Nodup)(hin:∀ f∈B.map (·.1),lY row.length f){pre post:bR}{e:En}(hb:B=pre ++ e :: post):(pre.filter (lZ e.1)).length + 1<=4:=by
 have h1:(((pre ++ [e]).filter (lZ e.1)).map fun e=>e.1.1).Nodup:=by
  have hp:((pre ++ [e]).map (·.1)).Nodup:=by
   rw[hb,List.append_cons,Bi] at nd
   exact(Ea.mp nd).1
  rw[Ku,Ld] at hp ⊢
  refine List.Pairwise.imp_of_mem (fun ha hb hne hn=>?_) (hp.filter _)
  have h1:=of_decide_eq_true (Cv.mp ha).2
  have h2:=of_decide_eq_true (Cv.mp hb).2
  exact hne (Mp hn (h1.trans h2.symm))
 have h2:=len_sub (b:=NM) h1 fun x hx=>by
  obtain⟨y,hy,rfl⟩:=Az.mp hx
  have:=(Cv.mp hy).1
  exact(hin y.1 (Fx (by rw[hb,List.append_cons];exact Bv _ this))).nm
 rw[Ab,List.filter_append,Ao] at h2
 have h3:([e].filter (lZ e.1)).length=1:=by rw[Dk,if_pos (show lZ e.1 e=true from decide_eq_true rfl)];rfl
 rw[h3] at h2
 exact h2
theorem zbp(g:e8 rs)(hB:iT (dJ rs row) B):∀ (m:Nat) (pre post:bR) (e:En),B=pre ++ e :: post->uE pre e.1<=m->Tr rs row B m e.1 (iA (dJ rs row) B e.1):=by
 have nd:=t7 hB
 have hin:∀ f∈B.map (·.1),lY row.length f:=fun f hf=>t6 g ((qM hB f).mp hf)
 intro m
 induction m with
 | zero=>intro pre post e _ hm;unfold uE at hm;lia
 | succ m ih=>
  intro pre post e hb hm
  obtain⟨r,E⟩:=JM hB pre e post hb
  have hru:rs[e.2.2.1]? = some r:=E.ru
  have hrm:=An hru
  obtain⟨cut,hcut⟩:∃ cut,cut=e.2.2.2:=⟨_,rfl⟩
  have hl:=E.ln
  have hfa:=E.fa
  rw[<-hcut] at hl hfa
  rw[<-zbn,<-getD_last,hl,Nat.add_sub_cancel] at hfa
  have nm:∀ k t,r.parts[k]? = some t->isN t=true->∃ pre' v post',pre=pre' ++ ((t,cut.getD k 0,cut.getD (k + 1) 0),v) :: post':=fun k t ht ho=>by
   have:=E.pn k t ht (show eP rs t=true by rw[g.own hrm (An ht)];exact ho)
   rw[<-hcut] at this
   obtain⟨v,hv⟩:=Gs.mp this
   obtain⟨a,b,h⟩:=qC hv
   exact⟨a,v,b,h⟩
  have wd:∀ k t,r.parts[k]? = some t->isN t=false->0<=cut.getD k 0/\row[(cut.getD k 0).toNat]? = some t/\cut.getD (k + 1) 0=cut.getD k 0 + 1:=fun k t ht ho=>by
   obtain⟨pr,h⟩:=E.pw k t ht (show eP rs t=false by rw[g.own hrm (An ht)];exact ho)
   rw[<-hcut] at h
   obtain⟨h1,h2,h3,_⟩:=qL.mp h
   exact⟨h1,h2,h3⟩
  have inn:∀ k t,r.parts[k]? = some t->isN t=true->lY row.length (t,cut.getD k 0,cut.getD (k + 1) 0):=fun k t ht ho=>by
   obtain⟨a,v,b,h⟩:=nm k t ht ho
   exact hin _ (by rw[hb,h];simp)
  have mo:∀ k t,r.parts[k]? = some t->cut.getD k 0<=cut.getD (k + 1) 0:=fun k t ht=>by
   cases ho:isN t with
   | true=>exact(inn k t ht ho).le
   | false=>have:=(wd k t ht ho).2.2;lia
  have up:∀ j i,i + j<=r.parts.length->cut.getD i 0<=cut.getD (i + j) 0:=fun j=>by
   induction j with
   | zero=>exact fun i _=>Lh _
   | succ j ihj=>
    intro i hi
    exact Int.le_trans (ihj i (by lia)) (mo (i + j) _ (Ak (by lia)))
  refine⟨e.2.2.1,r,cut,_,JO hb E,hru,hfa,by unfold kW;rw[Ab,List.length_zipIdx],fun k t ht=>⟨mo k t ht,fun ho=>⟨?_,wd k t ht ho⟩,fun ho=>?_⟩⟩
  ·unfold kW
   rw[Av,Mr,ht]
   show some (if eP rs t=true then _ else _)=_
   rw[g.own hrm (An ht),ho];rfl
  ·obtain⟨pre',v,post',hp⟩:=nm k t ht ho
   have hb':B=pre' ++ ((t,cut.getD k 0,cut.getD (k + 1) 0),v) :: (post' ++ e :: post):=by rw[hb,hp,Fu];rfl
   refine⟨iA (dJ rs row) B (t,cut.getD k 0,cut.getD (k + 1) 0),?_,ih pre' _ _ hb' ?_,?_⟩
   ·unfold kW
    rw[Av,Mr,ht]
    show some (if eP rs t=true then _ else _)=_
    rw[g.own hrm (An ht),ho,<-hcut,Jq];rfl
   ·have hk:=(Ai.mp ht).1
    have l1:=up k 0 (by lia)
    have l2:=up (r.parts.length - (k + 1)) (k + 1) (by lia)
    rw[Jq] at l1
    rw[show k + 1 + (r.parts.length - (k + 1))=r.parts.length by lia] at l2
    have l3:=mo k t ht
    have c4:=JQ nd hin hb'
    unfold uE at hm ⊢
    rw[hfa] at hm
    simp only at hm ⊢
    by_cases hs:cut.getD k 0=cut.getD 0 0/\cut.getD (k + 1) 0=cut.getD r.parts.length 0
    ·have hsame:lZ (t,cut.getD k 0,cut.getD (k + 1) 0)=lZ (r.name,cut.getD 0 0,cut.getD r.parts.length 0):=by unfold lZ;rw[hs.1,hs.2]
     rw[hsame,hs.1,hs.2]
     rw[hp,List.filter_append,Dk,if_pos (by rw[<-hsame];exact decide_eq_true rfl),Ao,Bn] at hm
     lia
    ·lia
   ·rw[JP hb' nd,JP hb nd,hp,Ao,Bn]
    lia
theorem zbq(g:e8 rs)(w:Rw row)(hB:iT (dJ rs row) B){f:aY}(hf:f∈B.map (·.1)):Tr rs row B 28 f (iA (dJ rs row) B f):=by
 obtain⟨e,he,rfl⟩:=Az.mp hf
 obtain⟨a,b,sp⟩:=List.append_of_mem he
 have hin:∀ f∈B.map (·.1),lY row.length f:=fun f hf=>t6 g ((qM hB f).mp hf)
 refine zbp g hB 28 a b e sp ?_
 have:=JQ (t7 hB) hin sp
 have h1:=hin _ hf
 have h2:=h1.lo
 have h3:=h1.hi
 have h4:=w.few
 unfold uE
 lia
theorem Tr.le{d e:Nat}{f:aY}{w:W}(h:Tr rs row B d f w)(hd:d<=e):Tr rs row B e f w:=by
 obtain⟨k,rfl⟩:=Lu hd
 exact h.mono k
theorem Tr.many:∀ {d:Nat} {f:aY} {w:W},Tr rs row B d f w->mW d w=f.2.2 - f.2.1
 | 0,_,_,h=>h.elim
 | d + 1,f,w,⟨n,r,cut,kids,h1,h2,h3,h4,h5⟩=>by
  rw[h1,h3]
  show(kids.map (mW d)).sum=cut.getD r.parts.length 0 - cut.getD 0 0
  have:∀ k,k<=r.parts.length->((kids.map (mW d)).take k).sum=cut.getD k 0 - cut.getD 0 0:=fun k=>by
   induction k with
   | zero=>intro _;simp
   | succ k ih=>
    intro hk
    obtain⟨t,ht⟩:∃ t,r.parts[k]? = some t:=⟨_,Ak (by lia)⟩
    obtain⟨_,a,b⟩:=h5 k t ht
    have:(kids.map (mW d))[k]? = some (cut.getD (k + 1) 0 - cut.getD k 0):=by
     rw[Av]
     cases ho:isN t with
     | false=>
      obtain⟨y,_,_,z⟩:=a ho
      rw[y,z]
      show some (mW d (.str t))=_
      rw[show mW d (.str t)=1 by unfold mW;cases d <;> rfl]
      congr 1;lia
     | true=>
      obtain⟨w',y,z,_⟩:=b ho
      rw[y]
      exact congrArg some z.many
    rw[Du,this,List.sum_append,ih (by lia)]
    simp;lia
  have z:=this _ (Aj _)
  rw[Fc (by rw[Ab,h4];exact Aj _)] at z
  exact z
theorem Tr.pl(g:e8 rs):∀ {d:Nat} {f:aY} {w:W},Tr rs row B d f w->Pl (2 * d) w
 | 0,_,_,h=>h.elim
 | d + 1,f,w,⟨n,r,cut,kids,h1,h2,h3,h4,h5⟩=>by
  rw[h1]
  intro x hx
  rcases Ax.mp hx with rfl | hx
  ·trivial
  ·cases Aw.mp hx
   intro y hy
   obtain⟨k,hk⟩:=Jv.mp hy
   have hkl:=(Ai.mp hk).1
   obtain⟨t,ht⟩:∃ t,r.parts[k]? = some t:=⟨_,Ak (by lia)⟩
   cases ho:isN t with
   | false=>
    rw[((h5 k t ht).2.1 ho).1] at hk
    cases hk
    have w3:∀ t∈W3,PyData.strOk t=true:=by unfold W3;decide +kernel
    rcases g.prt r (An h2) t (An ht) with z | z
    ·exact(show Pl 0 (.str t) from w3 t z).mono (Ci _)
    ·unfold isN at ho;rw[decide_eq_true z.1] at ho;cases ho
   | true=>
    obtain⟨w',a,b,_⟩:=(h5 k t ht).2.2 ho
    rw[a] at hk;cases hk
    exact b.pl g
end
end Rg
namespace L3
open PySem PySem.Spec PyProof.Rows L2
section
variable {X:Cx}{tg a b c:Expr}
def yW:List W->Mm->K3->Prop
 | [.bl b],M,R=>R (.int (if b then 1 else 0)) M
 | _,_,_=>False
theorem zbr:dA X (.type "int") (gC X.K yW):=by
 rintro pins s σ H xs us Q I rs ⟨ws,M,R,am,axs,h,k⟩
 match ws,h with
 | [.bl b],h=>
  obtain⟨v,rfl,av⟩:=axs.one
  obtain rfl:=av.inv
  cases rs with
  | cons r rr=>
   cases rr
   cases r
   exact call_int_bool ⟨.int _,H,I.kept fun _ _ e=>e,⟨_,rfl⟩,k.at am (.int _) h⟩
end
end L3
namespace Rg
open PySem PySem.Spec PyProof.Rows L2 L3
abbrev fL(row:List Str):W:=.rl (row.map W.str)
def zbs(L:List (List aE)):List W:=L.map fun k=>.tup (k.map wK)
def eI(fs:List aY):List (List aE×W):=fs.map fun f=>(fK f,.bl true)
def iU(row:List Str):List (List aE×W):=(row.zipIdx).map fun x=>([Sum.inr x.1,Sum.inl (x.2:Int)],.rl [.tup [.int ((x.2:Int) + 1),.int 0]])
def yX:bK:=fun ws M R=>∃ row:List Str,ws=[fL row]/\row.length<=6/\bA ((Bu (row.length + 1)).map fun(i:Nat)=>W.int i) M R
def yY:bK:=fun ws M R=>∃ row:List Str,ws=[fL row]/\row.length<=6/\iH (iU row) M R
def yZ(C:Cc):bK:=fun ws M R=>∃ (rs:List aW) (row:List Str),ws=[cP rs,fL row,.rl (rs.map fun _=>W.int 0)]/\e8 rs/\Rw row/\∀ B,iT (dJ rs row) B->iH (d6 fK f6 B) M R
def y0:bK:=fun ws M R=>∃ rs:List aW,ws=[cP rs]/\rs.length<=100/\bA (rs.map fun _=>W.int 0) M R
def oG:bK:=fun ws M R=>∃ (zs:List Int) (k:Int),ws=[.sc (zs.map W.int),.int k]/\zs.length<=63/\∀ i,R (.int i) M
def y6:bK:=fun ws M R=>∃ c k:Int,ws=[.int c,.int k]/\0<=k/\k<=1000/\∀ z:Int,R (.int z) M
def oH:bK:=fun ws M R=>∃ (c:Int) (ss:List Int),ws=[.int c,.rl (ss.map W.int)]/\ss.length<=100/\(∀ s∈ss,0 < s/\s<=10 ^ 59)/\∀ ds,Drawn ds ss->bA (ds.map W.int) M R
def y7:bK:=fun ws M R=>∃ zs:List Int,ws=[.sc (zs.map W.int)]/\zs.length<=63/\∀ rs:List aW,e8 rs->bA (rs.map cY) M R
def oI:bK:=fun ws M R=>∃ t:Str,ws=[.str t]/\(t∈NM\/t∈W4)/\R (.bl (isN t)) M
def y8:bK:=fun ws M R=>∃ (zs:List Int) (rs:List aW),ws=[.sc (zs.map W.int),cP rs,.int 6]/\zs.length<=63/\e8 rs/\∀ row,Rw row->bA (row.map W.str) M R
def y9:bK:=fun ws M R=>∃ (ps row:List Str) (p:Addr) (b e:Int) (fs:List aY),ws=[.tup (ps.map W.str),fL row,.ref p,.int b,.int e]/\ps.length<=4/\(∀ t∈ps,t∈NM\/t∈W4)/\Rw row/\M p=some (.dT (eI fs))/\(0<=b/\b<=row.length)/\
 ∀ c:Bool,(c=true↔Rc row (fun f=>f∈fs) b ps e)->R (.bl c) M
def zA:bK:=fun ws M R=>∃ (rs:List aW) (row:List Str),ws=[cP rs,fL row]/\e8 rs/\Rw row/\∀ fs:List aY,fs.Nodup->(∀ f,f∈fs↔jH rs row f)->iH (eI fs) M R
abbrev zbt:List Str:=["row"]
def zbu:aJ:=
   (bW (JG (aD cF (bT cX (aB (aA 0) aF)) (vC (.int 1)))))
abbrev zbv:List Str:=["row"]
def zbw:aJ:=
   (bW (bT IS (aB (dB (fH (w6 (aB (aA 0) aF)) (iN 2 (d9 (bP 0) (d9 (bP 1) iM))) iO (cS (aB (cS (aB (aA 1) (aB (aA 0) aF))) (aB (eW (aB (cS (aB (aD cF (aA 0) (vC (.int 1))) (aB (vC (.int 0)) aF))) aF)) aF))) [none,none])) aF)))
abbrev zbx:List Str:=["grammar","row","weights"]
def zby(C:Cc):aJ:=
   (bW (bQ (yI C) (aB (aA 0) (aB (dB (bQ yX (aB (aA 1) aF))) (aB (dB (bQ yY (aB (aA 1) aF))) (aB (aA 2) aF))))))
abbrev zbz:List Str:=["grammar"]
def zbA:aJ:=
   (bW (fH (d8 e6 (aA 0)) (bP 0) iO (vC (.int 0)) [none]))
abbrev zbB:List Str:=["script","k"]
def JR:aJ:=
   (aS (dD (cD (sL v5 lH (vC (.int 0)) (aA 1) (bT cX (aB (aA 0) aF))))
    (bW (aD aN (aA 0) (aA 1)))
    eL)
   (bW (aA 1)))
abbrev zbC:List Str:=["cell","k","number"]
def zbD:aJ:=
   (bE 2 (aD jZ (aD cF (aD cF (aD iL (aA 0) (aD rY (vC (.int 10)) (vC (.int 60)))) (aD jZ (vC (.int 7919)) (aA 1))) (vC (.int 1))) (vC (.int 27182818284590452353602874713527))))
def zbE:aJ:=
   (bE 2 (aD iL (aA 2) (vC (.int 170141183460469231731687303715884105727))))
def zbF:aJ:=
   (bE 2 (aD iL (aD cF (aD cF (aD jZ (aA 2) (aA 2)) (aD jZ (vC (.int 104729)) (aA 1))) (vC (.int 1))) (vC (.int 170141183460469231731687303715884105727))))
def zbG:aJ:=
   (bW (aD nO (aD iL (aD jZ (aA 2) (aA 2)) (vC (.int 170141183460469231731687303715884105727))) (vC (.int 5))))
def zbH:aJ:=(aS zbD (aS zbE (aS zbF zbG)))
abbrev zbI:List Str:=["cell","sizes","found","rest","k","size"]
def zbJ:aJ:=
   (bE 2 (iJ aF))
def zbK:aJ:=
   (bE 3 (aD nN (aA 0) (aD rY (vC (.int 10)) (vC (.int 18)))))
def zbL:aJ:=
   (dD (cD (aD v7 (aA 3) (vC (.int 0))))
    (aS (eA (eE "list" fG (aA 2) (aB (aD iL (aA 3) (aA 5)) aF)))
   (bE 3 (aD nO (aA 3) (aA 5))))
    (eA (eE "list" fG (aA 2) (aB (aD iL (bQ y6 (aB (aA 0) (aB (aA 4) aF))) (aA 5)) aF))))
def zbM:aJ:=
   (eV (w6 (aB (aA 1) aF)) (iN 2 (d9 (bP 4) (d9 (bP 5) iM))) zbL)
def zbN:aJ:=
   (bW (aA 2))
def zbO:aJ:=(aS zbJ (aS zbK (aS zbM zbN)))
abbrev zbP:List Str:=["script","cells","heads","used","rules","head","cell","d","parts","number"]
def zbQ:aJ:=
   (bE 1 (dB (fH (mN (aB (aD cF (vC (.int 1)) (aD iL (bQ oG (aB (aA 0) (aB (vC (.int 0)) aF))) (vC (.int 8)))) aF)) (bP 0) iO (bQ oG (aB (aA 1) (aB (aD cF (vC (.int 1)) (aA 0)) aF))) [none,some 0])))
def zbR:aJ:=
   (bE 2 (dB (fH (d8 e6 (aA 1)) (bP 0) iO (aD aN (eW (aB (vC (.str "S")) (aB (vC (.str "A")) (aB (vC (.str "BB")) (aB (vC (.str "C_1")) aF))))) (aD aN (dB (bQ oH (aB (aA 0) (aB (eW (aB (vC (.int 4)) aF)) aF)))) (vC (.int 0)))) [none])))
def zbS:aJ:=
   (bE 3 (dB (fH (mN (aB (bT cX (aB (aA 2) aF)) aF)) (bP 0) (cD (aD (rIn true) (aD aN (aA 1) (aA 0)) (nS (aA 1) pP (kO (aA 0))))) (aD aN (aA 1) (aA 0)) [none,some 2])))
def zbT:aJ:=
   (bE 4 (iJ aF))
def zbU:aJ:=
   (aS (bE 7 (dB (bQ oH (aB (aA 6) (aB (eW (aB (vC (.int 4)) (aB (vC (.int 5)) (aB (vC (.int 8)) (aB (vC (.int 8)) (aB (vC (.int 8)) (aB (vC (.int 8)) (aB (vC (.int 4)) (aB (aD rY (vC (.int 10)) (vC (.int 6))) aF))))))))) aF)))))
   (aS (bE 8 (iJ aF))
   (aS (eV (d8 e6 (nS (aA 7) (kO (vC (.int 2))) (kO (aD cF (vC (.int 2)) (aD aN (aA 7) (vC (.int 1))))))) (bP 9)
    (dD (cD (aD lH (aA 9) (vC (.int 3))))
    (eA (eE "list" fG (aA 8) (aB (aD aN (eW (aB (vC (.str "a")) (aB (vC (.str "b")) (aB (vC (.str "cat")) aF)))) (aA 9)) aF)))
    (eA (eE "list" fG (aA 8) (aB (aD aN (aA 3) (aD iL (aD nN (aA 9) (vC (.int 3))) (bT cX (aB (aA 3) aF)))) aF)))))
   (eA (eE "list" fG (aA 4) (aB (cS (aB (aA 5) (aB (bT sF (aB (aA 8) aF)) (aB (aD aN (eW (aB (vC (.int 0)) (aB (vC (.int 1)) (aB (aD iL (aD aN (aA 7) (vC (.int 7))) (vC (.int 10))) (aB (aD aN (aA 7) (vC (.int 7))) aF))))) (aD aN (aA 7) (vC (.int 6)))) aF)))) aF))))))
def zbV:aJ:=
   (eV (w9 (aB (aA 2) (aB (aA 1) aF))) (iN 2 (d9 (bP 5) (d9 (bP 6) iM))) zbU)
def zbW:aJ:=
   (bW (aA 4))
def zbX:aJ:=(aS zbQ (aS zbR (aS zbS (aS zbT (aS zbV zbW)))))
abbrev zbY:List Str:=["part"]
def zbZ:aJ:=
   (bW (aD (rIn false) (aD aN (aA 0) (vC (.int 0))) (vC (.str "ABCS"))))
abbrev zb0:List Str:=["script","rules","most","cells","row","k","open_now","at","own","rule"]
def zb1:aJ:=
   (bE 3 (nS (aA 0) (kO (vC (.int 9))) (kO (aD cF (vC (.int 9)) (aA 2)))))
def zb2:aJ:=
   (dD (cD (aD (rEq false) (aD iL (aD nO (bQ oG (aB (aA 0) (aB (vC (.int 0)) aF))) (vC (.int 8))) (vC (.int 3))) (vC (.int 0))))
    (bW (fH (d8 e6 (aA 3)) (bP 0) iO (aD aN (eW (aB (vC (.str "a")) (aB (vC (.str "b")) (aB (vC (.str "cat")) (aB (vC (.str "dog")) aF))))) (aD aN (dB (bQ oH (aB (aA 0) (aB (eW (aB (vC (.int 4)) aF)) aF)))) (vC (.int 0)))) [none]))
    eL)
def zb3:aJ:=
   (bE 4 (eW (aB (aD aN (aD aN (aA 1) (vC (.int 0))) (vC (.int 0))) aF)))
def zb4:aJ:=
   (aS (bE 6 (dB (fH (mN (aB (bT cX (aB (aA 4) aF)) aF)) (bP 0) (fQ (bQ oI (aB (aD aN (aA 1) (aA 0)) aF))) (aA 0) [none,some 4])))
   (dD (rW (cD (aD (rEq true) (aA 6) (eW aF))) (cD (aD lH (bT cX (aB (aA 4) aF)) (aD jZ (vC (.int 2)) (aA 2)))))
    (aS (bE 7 (aD aN (aA 6) (vC (.int 0))))
   (aS (bE 8 (dB (fH (d8 e6 (aA 1)) (bP 0) (cD (aD (rEq false) (aD aN (aA 0) (vC (.int 0))) (aD aN (aA 1) (aA 2)))) (aA 0) [none,some 4,some 7])))
   (aS (bE 9 (aD aN (aA 8) (aD aN (dB (bQ oH (aB (aD cF (bQ oG (aB (aA 0) (aB (aD cF (vC (.int 9)) (aD iL (aA 5) (vC (.int 12)))) aF))) (aD jZ (aD nO (aA 5) (vC (.int 12))) (vC (.int 7919)))) (aB (eW (aB (bT cX (aB (aA 8) aF)) aF)) aF)))) (vC (.int 0)))))
   (bE 4 (aD cF (aD cF (nS (aA 4) pP (kO (aA 7))) (bT sM (aB (aD aN (aA 9) (vC (.int 1))) aF))) (nS (aA 4) (kO (aD cF (aA 7) (vC (.int 1)))) pP))))))
    eL))
def zb5:aJ:=
   (eV (mN (aB (vC (.int 24)) aF)) (bP 5) zb4)
def zb6:aJ:=
   (bW (FE (dB (fH (d8 e6 (aA 4)) (bP 0) (iI (fQ (bQ oI (aB (aA 0) aF)))) (aA 0) [none])) pP (kO (aA 2))))
def zb7:aJ:=(aS zb1 (aS zb2 (aS zb3 (aS zb5 zb6))))
abbrev zb8:List Str:=["parts","row","known","begin","end","places","part","further","place"]
def zb9:aJ:=
   (bE 5 (eW (aB (aA 3) aF)))
def zca:aJ:=
   (aS (bE 7 (eW aF))
   (aS (eV (d8 e6 (aA 5)) (bP 8)
    (dD (iI (fQ (bQ oI (aB (aA 6) aF))))
    (bE 7 (aD cF (aA 7) (aD jZ (eW (aB (aD cF (aA 8) (vC (.int 1))) aF)) (bT yW (aB (pI (aD lH (aA 8) (bT cX (aB (aA 1) aF))) (aD (rEq false) (aD aN (aA 1) (aA 8)) (aA 6))) aF)))))
    (bE 7 (aD cF (aA 7) (dB (fH (wO (aB (aA 8) (aB (aD cF (bT cX (aB (aA 1) aF)) (vC (.int 1))) aF))) (bP 0) (cD (aD (rIn false) (cS (aB (aA 2) (aB (aA 3) (aB (aA 0) aF)))) (aA 1))) (aA 0) [none,some 2,some 6,some 8]))))))
   (bE 5 (JF (aA 7)))))
def zcb:aJ:=
   (eV (d8 e6 (aA 0)) (bP 6) zca)
def zcc:aJ:=
   (bW (aD (rIn false) (aA 4) (aA 5)))
def zcd:aJ:=(aS zb9 (aS zcb zcc))
abbrev zce:List Str:=["rules","row","known","more","name","parts","cost","begin","end"]
def zcf:aJ:=
   (bE 2 lM)
def zcg:aJ:=
   (bE 3 (vC (.bl true)))
def zch:aJ:=
   (aS (bE 3 (vC (.bl false)))
   (eV (d8 mM (aA 0)) (iN 3 (d9 (bP 4) (d9 (bP 5) (d9 (bP 6) iM))))
    (eV (mN (aB (aD cF (bT cX (aB (aA 1) aF)) (vC (.int 1))) aF)) (bP 7)
    (eV (wO (aB (aA 7) (aB (aD cF (bT cX (aB (aA 1) aF)) (vC (.int 1))) aF))) (bP 8)
    (dD (rW (cD (aD (rIn true) (cS (aB (aA 4) (aB (aA 7) (aB (aA 8) aF)))) (aA 2))) (fQ (bQ y9 (aB (aA 5) (aB (aA 1) (aB (aA 2) (aB (aA 7) (aB (aA 8) aF))))))))
    (aS (jY (vC (.bl true)) (kP (aA 2) (cS (aB (aA 4) (aB (aA 7) (aB (aA 8) aF))))))
   (bE 3 (vC (.bl true))))
    eL)))))
def zci:aJ:=
   (pQ (fQ (aA 3)) zch)
def zcj:aJ:=
   (bW (aA 2))
def zck:aJ:=(aS zcf (aS zcg (aS zci zcj)))
theorem zcl:∀ ws M R,yX ws M R->ws.length=1:=by rintro ws M R ⟨_,rfl,_⟩;rfl
theorem zcm:∀ ws M R,yY ws M R->ws.length=1:=by rintro ws M R ⟨_,rfl,_⟩;rfl
theorem zcn{C:Cc}:∀ ws M R,yZ C ws M R->ws.length=3:=by rintro ws M R ⟨_,_,rfl,_⟩;rfl
theorem zco:∀ ws M R,y0 ws M R->ws.length=1:=by rintro ws M R ⟨_,rfl,_⟩;rfl
theorem zcp:∀ ws M R,oG ws M R->ws.length=2:=by rintro ws M R ⟨_,_,rfl,_⟩;rfl
theorem zcq:∀ ws M R,y6 ws M R->ws.length=2:=by rintro ws M R ⟨_,_,rfl,_⟩;rfl
theorem zcr:∀ ws M R,oH ws M R->ws.length=2:=by rintro ws M R ⟨_,_,rfl,_⟩;rfl
theorem zcs:∀ ws M R,y7 ws M R->ws.length=1:=by rintro ws M R ⟨_,rfl,_⟩;rfl
theorem zct:∀ ws M R,oI ws M R->ws.length=1:=by rintro ws M R ⟨_,rfl,_⟩;rfl
theorem zcu:∀ ws M R,y8 ws M R->ws.length=3:=by rintro ws M R ⟨_,_,rfl,_⟩;rfl
theorem zcv:∀ ws M R,y9 ws M R->ws.length=5:=by rintro ws M R ⟨_,_,_,_,_,_,rfl,_⟩;rfl
theorem zcw:∀ ws M R,zA ws M R->ws.length=2:=by rintro ws M R ⟨_,_,rfl,_⟩;rfl
theorem z0:0<=Am:=Ci _
theorem z8:8<=Am:=dX (by decide)
theorem qN{ws:List W}{M:Mm}{R:K3}(r:bA ws M R):bA ws M fun w M'=>∃ M'',L3.Sub M'' M'/\R w M'':=fun p hp=>⟨_,Sub.refl _,r p hp⟩
theorem JS{ws:List (List aE×W)}{M:Mm}{R:K3}(r:iH ws M R):iH ws M fun w M'=>∃ M'',L3.Sub M'' M'/\R w M'':=fun p hp=>⟨_,Sub.refl _,r p hp⟩
theorem zcx{ws:List W}{M:Mm}{R:K3}(h:yX ws M R):zbu (bU R) (bX zbt ws) M:=by
 obtain⟨row,rfl,hl,r⟩:=h
 exact⟨_,rfl,row.length + 1,by rw[Ab];rfl,by lia,qN r⟩
theorem zcy{ws:List W}{M:Mm}{R:K3}(h:y0 ws M R):zbA (bU R) (bX zbz ws) M:=by
 obtain⟨rs,rfl,hl,r⟩:=h
 refine⟨_,rfl,sO (rest:=[]) (fun _=>.int 0) (dX (by rw[Ab];lia)) (fun _ _=>trivial) (fun w hw M' C sb h1=>h1) ?_⟩
 rw[Dl]
 exact qN r
theorem enum_zip(ws:List Str):∀ n:Nat,gF n (ws.map W.str)=(ws.zipIdx n).map fun x=>W.tup [.int (x.2:Int),.str x.1]:=by
 induction ws with
 | nil=>intro n;rfl
 | cons w ws ih=>intro n;rw[Ay,gF,ih,Jx,Ay]
theorem JT:∀ {ps acc:List (List aE×W)},((acc ++ ps).map (·.1)).Nodup->nW acc ps=acc ++ ps
 | [],acc,_=>by simp[nW]
 | p :: ps,acc,h=>by
  have hn:bD acc p.1=none:=by
   rw[Bi,Ea] at h
   exact tK fun e he z=>h.2.2 _ (Az.mpr ⟨e,he,rfl⟩) p.1 (by simp) z
  have e:cC acc p.1 p.2=acc ++ [p]:=by
   unfold cC
   rw[if_neg (by rw[show(acc.any fun kv=>decide (kv.1=p.1))=(bD acc p.1).isSome from lT acc p.1,hn];decide)]
  show nW (cC acc p.1 p.2) ps=_
  rw[e,JT (by rw[Fu];exact h),Fu];rfl
theorem zcz(row:List Str):((iU row).map (·.1)).Nodup:=by
 unfold iU
 rw[Dl]
 have:∀ (row:List Str) (n:Nat),((row.zipIdx n).map ((fun x:List aE×W=>x.1) ∘ fun x:Str×Nat=>(([Sum.inr x.1,Sum.inl (x.2:Int)]:List aE),W.rl [.tup [.int ((x.2:Int) + 1),.int 0]]))).Nodup:=by
  intro row
  induction row with
  | nil=>intro n;exact Fq
  | cons t row ih=>
   intro n
   rw[Jx,Ay,Dg]
   refine⟨fun hm=>?_,ih _⟩
   obtain⟨x,hx,e⟩:=Az.mp hm
   have h1:=List.mem_zipIdx hx
   simp only[Ml,Dw,Sum.inr.injEq,Kx,and_true] at e
   lia
 exact this row 0
theorem zcA(row:List Str)(t:Str)(p:Int):bD (iU row) (eK (t,p))=if 0<=p/\row[p.toNat]? = some t then some (.rl [.tup [.int (p + 1),.int 0]]) else none:=by
 have:∀ (row:List Str) (n:Nat),bD ((row.zipIdx n).map fun x:Str×Nat=>(([Sum.inr x.1,Sum.inl (x.2:Int)]:List aE),W.rl [.tup [.int ((x.2:Int) + 1),.int 0]])) (eK (t,p))=if (n:Int)<=p/\row[(p - n).toNat]? = some t then some (.rl [.tup [.int (p + 1),.int 0]]) else none:=by
  intro row
  induction row with
  | nil=>intro n;simp[bD]
  | cons x row ih=>
   intro n
   rw[Jx,Ay,mT,ih]
   by_cases hp:p=n
   ·subst hp
    by_cases hx:x=t
    ·subst hx
     rw[if_pos (show([Sum.inr x,Sum.inl (n:Int)]:List aE)=eK (x,(n:Int)) from rfl),if_pos ⟨Lh _,by simp⟩]
    ·rw[if_neg (fun z=>hx (by simpa [eK] using z)),if_neg (fun z=>by have:=z.1;lia),if_neg (fun z=>hx (by simpa using z.2))]
   ·rw[if_neg (fun z=>hp (show x=t/\(n:Int)=p by simpa [eK] using z).2.symm)]
    by_cases hn:(n:Int) < p
    ·have e:(p - (n:Int)).toNat=(p - ((n + 1:Nat):Int)).toNat + 1:=by lia
     rw[e,Ft]
     by_cases hr:row[(p - ((n + 1:Nat):Int)).toNat]? = some t
     ·rw[if_pos ⟨by lia,hr⟩,if_pos ⟨by lia,hr⟩]
     ·rw[if_neg (fun z=>hr z.2),if_neg (fun z=>hr z.2)]
    ·rw[if_neg (fun z=>by have:=z.1;lia),if_neg (fun z=>by have:=z.1;lia)]
 have h:=this row 0
 simpa [iU] using h
theorem zcB{ws:List W}{M:Mm}{R:K3}(h:yY ws M R):zbw (bU R) (bX zbv ws) M:=by
 obtain⟨row,rfl,hl,r⟩:=h
 refine⟨_,rfl,?_⟩
 delta aF
 refine UY (ws:=gF 0 (row.map W.str)) (rest:=[]) (fun w y=>∃ x:Str×Nat,w=W.tup [.int (x.2:Int),.str x.1]/\y=.tup [.tup (([Sum.inr x.1,Sum.inl (x.2:Int)]:List aE).map wK),.rl [.tup [.int ((x.2:Int) + 1),.int 0]]]) (fun w hw=>?_) (dX (by rw[kQ,Ab];lia)) (fun _ _=>trivial) (fun a b hm M' C sb h1=>?_) fun ys po=>?_
 ·rw[enum_zip] at hw;obtain⟨x,_,rfl⟩:=Az.mp hw;exact⟨_,_,rfl⟩
 ·rw[enum_zip] at hm
  obtain⟨x,_,e⟩:=Az.mp hm
  simp only[W.tup.injEq,Dw,and_true] at e
  obtain⟨rfl,rfl⟩:=e
  exact⟨_,rfl,_,rfl,z2,_,rfl,z2,z1,z2,h1 _ ⟨x,rfl,rfl⟩⟩
 ·have hy:ys=oB (iU row):=by
   rw[enum_zip] at po
   unfold oB iU
   rw[Dl]
   revert po
   generalize row.zipIdx=l
   intro po
   induction l generalizing ys with
   | nil=>cases po;rfl
   | cons x l ih=>
    cases po with
    | cons h t=>
     obtain⟨x',e1,rfl⟩:=h
     simp only[W.tup.injEq,Dw,W.int.injEq,W.str.injEq,and_true] at e1
     have:x=x':=Mp e1.2 (by lia)
     subst this
     rw[ih _ t];rfl
  subst hy
  refine bA.frz ⟨iU row,rfl,dX (by unfold oB iU;rw[Ab,Ab,List.length_zipIdx];lia),?_⟩
  rw[JT (by simpa using zcz row),Kk]
  exact JS r
theorem zcC(ts:List Str)(n:Str):(bD (ts.map fJ) (Sum.inr n:aE)).isSome=decide (n∈ts):=by
 induction ts with
 | nil=>rfl
 | cons t ts ih=>
  unfold bD at ih ⊢
  rw[Ay,Fe]
  by_cases h:t=n
  ·subst h;simp[fJ]
  ·rw[show decide ((fJ t).1=(Sum.inr n:aE))=false by simp[fJ,h]]
   rw[ih]
   have h2:¬ n=t:=fun e=>h e.symm
   simp[h2]
theorem zB(rs:List aW)(t:Str):(bD (ownOf rs) (Sum.inr t:aE)).isSome=eP rs t:=by
 unfold ownOf eP
 rw[zcC,Eu]
 simp only[decide_eq_true_eq]
 rw[xF];simp
theorem zcD{C:Cc}{ws:List W}{M:Mm}{R:K3}(h:yZ C ws M R):zby C (bU R) (bX zbx ws) M:=by
 obtain⟨rs,row,rfl,g,w,r⟩:=h
 have hl:=w.few
 have hf:=g.few
 refine⟨_,rfl,_,rfl,row,rfl,hl,bA.frz ⟨_,rfl,row,rfl,hl,iH.frz ⟨_,rfl,?_⟩⟩⟩
 refine⟨dJ rs row,⟨rs,ownOf rs,iU row⟩,(dJ rs row).places,5,1,?_,by show rs.length<=100;lia,rfl,⟨rfl,zB rs,fun t p=>?_⟩,⟨fun _=>Lh _,fun t p e c h=>by rw[(qL.mp h).2.2.2];exact Lh _⟩,⟨fun p h=>h,fun t p e c h1 h2=>?_,Aj _,fun r hr=>?_⟩,by decide,?_,fun t p=>?_,?_,fun B hB=>JS (r B hB)⟩
 ·show [_,_,_,_]=[_,_,_,_]
  congr 2
  ·show W.rl _=W.rl (((Bu (row.length + 1)).map fun(i:Nat)=>(i:Int)).map W.int)
   rw[Dl];rfl
  ·congr 2
   show W.rl (rs.map fun _=>W.int 0)=W.rl ((Bu rs.length).map fun n=>W.int 0)
   rw[List.map_const',List.map_const',Em]
 ·show(bD (iU row) (eK (t,p))=none/\lX row t p=[])\/bD (iU row) (eK (t,p))=some (.rl ((lX row t p).map fun z=>.tup [.int z.1,.int z.2]))
  rw[zcA]
  unfold lX
  by_cases h:0<=p/\row[p.toNat]? = some t
  ·right;rw[if_pos h,if_pos h];rfl
  ·left;rw[if_neg h,if_neg h];exact⟨rfl,rfl⟩
 ·obtain⟨m1,m2,rfl,_⟩:=qL.mp h2
  have:=(Ai.mp m2).1
  exact yS.mpr ⟨by lia,by lia⟩
 ·have:=g.fp r hr
  lia
 ·show((Bu (row.length + 1)).map _).length<=1000
  rw[Ab,Em];lia
 ·show(lX row t p).length<=1
  unfold lX;split <;> simp
 ·have e1:(jD (dJ rs row)).length=rs.length * ((Bu (row.length + 1)).map fun(i:Nat)=>(i:Int)).length:=yK (dJ rs row) rs.length
  rw[e1]
  show rs.length * ((Bu (row.length + 1)).map fun(i:Nat)=>(i:Int)).length + rs.length * ((5 + 1) * (((Bu (row.length + 1)).map fun(i:Nat)=>(i:Int)).length * ((Bu (row.length + 1)).map fun(i:Nat)=>(i:Int)).length)) * (1 + ((Bu (row.length + 1)).map fun(i:Nat)=>(i:Int)).length) + rs.length * ((5 + 1) * (((Bu (row.length + 1)).map fun(i:Nat)=>(i:Int)).length * ((Bu (row.length + 1)).map fun(i:Nat)=>(i:Int)).length)) + ((Bu (row.length + 1)).map fun(i:Nat)=>(i:Int)).length + 1 + 1 < 10000000
  rw[Ab,Em]
  have k1:row.length + 1<=7:=by lia
  have k2:=My k1 k1
  have k3:=My hf (Nat.mul_le_mul_left (5 + 1) k2)
  have k4:=My k3 (Hb k1 1)
  have k5:=My hf k1
  lia
theorem zcE{ds ss:List Int}{i:Nat}{s d:Int}(h:Drawn ds (ss.take i))(hs:ss[i]? = some s)(hd:Below d s):Drawn (ds ++ [d]) (ss.take (i + 1)):=by
 rw[Du,hs]
 exact Paired.snoc h hd
theorem zC{lo:Int}{n i:Nat}{w:W}(h:(hJ lo n)[i]? = some w):i < n/\w=.int (lo + i):=by
 unfold hJ at h
 rw[Av] at h
 obtain⟨j,hj,rfl⟩:=Bg.mp h
 obtain⟨h1,h2⟩:=Ai.mp hj
 simp at h1 h2
 subst h2
 exact⟨h1,rfl⟩
theorem m9{lo:Int}{n:Nat}:(hJ lo n).length=n:=by unfold hJ;simp
theorem uF{ts:List Str}{k:Int}(h0:0<=k)(h1:k < ts.length):∃ t,cB (ts.map W.str) k=some (.str t)/\t∈ts:=by
 obtain⟨x,e,e2,_⟩:=nU (xs:=ts.map W.str) h0 (by rw[Ab];exact h1)
 rw[Av] at e2
 obtain⟨t,ht,rfl⟩:=Bg.mp e2
 exact⟨t,e,An ht⟩
theorem zcF{ws:List W}{M:Mm}{R:K3}(h:oG ws M R):JR (bU R) (bX zbB ws) M:=by
 obtain⟨zs,k,rfl,hl,r⟩:=h
 have z:JR (bU R) [some (.sc (zs.map W.int)),some (.int k)] M:=by
  refine⟨_,rfl,_,rfl,bV (fun h0=>⟨_,rfl,_,rfl,bV (fun h1=>?_) fun _=>⟨_,rfl,_,Sub.refl _,r _⟩⟩) fun _=>⟨_,rfl,bV (fun h=>nomatch h) fun _=>⟨_,rfl,_,Sub.refl _,r _⟩⟩⟩
  obtain⟨x,e,_,m⟩:=nU (xs:=zs.map W.int) (i:=k) (of_decide_eq_true h0) (of_decide_eq_true h1)
  obtain⟨i,_,rfl⟩:=Az.mp m
  exact⟨_,rfl,_,rfl,_,e,_,Sub.refl _,r _⟩
 exact z
theorem uG(a:Int):(a % 170141183460469231731687303715884105727).natAbs < 2 ^ 4096:=by
 have h1:0<=a % 170141183460469231731687303715884105727:=Je _ (by decide)
 have h2:a % 170141183460469231731687303715884105727 < 170141183460469231731687303715884105727:=Hj _ (by decide)
 exact vO (m:=128) (by lia) (by decide)
theorem zcG{ws:List W}{M:Mm}{R:K3}(h:y6 ws M R):zbH (bU R) (bX zbC ws) M:=by
 obtain⟨c,k,rfl,h0,h1,r⟩:=h
 have b1:(c % 10 ^ (60:Int).toNat + 7919 * k + 1).natAbs < 2 ^ 4096:=by
  have a0:0<=c % 10 ^ 60:=Je _ (by decide)
  have a1:c % 10 ^ 60 < 10 ^ 60:=Hj _ (by decide)
  exact vO (m:=210) (show(c % 10 ^ 60 + 7919 * k + 1).natAbs < _ by lia) (by decide)
 have b2:(27182818284590452353602874713527:Int).natAbs < 2 ^ 4096:=vO (m:=128) (by decide) (by decide)
 have p0:(0:Int) < 170141183460469231731687303715884105727:=by decide
 exact⟨_,rfl,⟨by decide,by decide,by decide⟩,show(0:Int) < 10 ^ (60:Int).toNat by decide,_,rfl,.inl (.inl ⟨by decide,by decide⟩),.inr ⟨b1,b2⟩,_,rfl,p0,_,rfl,_,rfl,.inr ⟨uG _,uG _⟩,_,rfl,.inl (.inl ⟨by decide,by decide⟩),p0,_,rfl,_,rfl,.inr ⟨uG _,uG _⟩,p0,⟨by decide,by decide⟩,_,Sub.refl _,r _⟩
theorem zcH{ws:List W}{M:Mm}{R:K3}(h:oH ws M R):zbO (bU R) (bX zbI ws) M:=by
 obtain⟨c,ss,rfl,hl,hs,r⟩:=h
 refine⟨z0,fun p hp=>⟨_,rfl,⟨by decide,by decide,by decide⟩,_,rfl,?_⟩⟩
 refine eN (ws:=gF 0 (ss.map W.int)) (fun i τ M'=>∃ ds rest o1 o2,τ=[some (.int c),some (.rl (ss.map W.int)),some (.ref p),some (.int rest),o1,o2]/\M'=put M p (.lst (ds.map W.int))/\Drawn ds (ss.take i)) ⟨[],_,_,_,rfl,rfl,by simp;exact .nil⟩ (fun _ _ _ _ _=>trivial) ?_ ?_
 ·rintro i w τ M' hw ⟨ds,rest,o1,o2,rfl,rfl,hd⟩
  rw[pX,Av] at hw
  cases hs':ss[i]? with
  | none=>rw[hs'] at hw;cases hw
  | some s=>
   rw[hs'] at hw
   cases hw
   obtain⟨s0,s1⟩:=hs s (An hs')
   have hi:=(Ai.mp hs').1
   have hdl:=Ee hd
   rw[Cb] at hdl
   have hcd:vM rest s:=⟨s0,Int.lt_of_le_of_lt s1 (by decide)⟩
   have la:(ds.map W.int).length < Am:=fS (by rw[Ab];lia)
   have fin:∀ {z:Int},put (put M p (.lst (ds.map W.int))) p (.lst (ds.map W.int ++ [.int (z % s)]))=put M p (.lst ((ds ++ [z % s]).map W.int))/\Drawn (ds ++ [z % s]) (ss.take (i + 1)):=⟨by rw[gP,Bi];rfl,zcE hd hs' ⟨Je _ (by lia),Hj _ s0⟩⟩
   exact⟨rfl,rfl,_,rfl,_,rfl,bV (fun _=>⟨_,rfl,fU bB,_,rfl,_,rfl,s0,_,bB,la,_,rfl,_,rfl,hcd,_,Sub.refl _,_,_,_,_,rfl,fin⟩) fun _=>⟨_,rfl,fU bB,_,rfl,_,rfl,c,_,rfl,by lia,by lia,fun z=>⟨_,rfl,s0,_,bB,la,_,Sub.refl _,_,_,_,_,rfl,fin⟩⟩⟩
 ·rintro τ M' ⟨ds,rest,o1,o2,rfl,rfl,hd⟩
  rw[kQ,Ab,De] at hd
  exact⟨_,rfl,_,Sub.refl _,r ds hd p hp⟩
theorem zcI{ws:List W}{M:Mm}{R:K3}(h:oI ws M R):zbZ (bU R) (bX zbY ws) M:=by
 obtain⟨t,rfl,ht,r⟩:=h
 have key:∀ t∈NM ++ W4,t.length<=10/\((cB t.cps.toList 0).map fun c=>occ ⟨#[c]⟩ "ABCS")=some (isN t):=by decide +kernel
 obtain⟨h1,e⟩:=key t (Bl.mpr ht)
 obtain⟨c,h2,h3⟩:=Bg.mp e
 refine⟨_,rfl,dX (by lia),c,h2,?_⟩
 show ∃ M'',L3.Sub M'' M/\R (.bl (occ ⟨#[c]⟩ "ABCS")) M''
 rw[h3]
 exact⟨_,Sub.refl _,r⟩
theorem oJ(fs:List aY)(f:aY):(bD (eI fs) (fK f)).isSome=decide (f∈fs):=by
 unfold eI
 induction fs with
 | nil=>rfl
 | cons g fs ih=>
  rw[Ay,mT]
  by_cases h:g=f
  ·subst h;rw[if_pos rfl];simp
  ·rw[if_neg (fun z=>h (mX _ _ z)),ih]
   have:¬ f=g:=fun z=>h z.symm
   simp[this]
def nA(row:List Str)(fs:List aY)(t:Str)(m x:Int):Prop:=(isN t=false/\row[m.toNat]? = some t/\x=m + 1)\/(isN t=true/\m<=x/\x<=row.length/\(t,m,x)∈fs)
def kY(lo:Int)(k:Nat):List Int:=(Bu k).map fun(i:Nat)=>lo + (i:Int)
theorem zD{lo x:Int}{k:Nat}:x∈kY lo k↔lo<=x/\x < lo + k:=by
 unfold kY
 rw[Az]
 constructor
 ·rintro⟨i,hi,rfl⟩
  have:=Dy.mp hi
  lia
 ·intro h
  exact⟨(x - lo).toNat,Dy.mpr (by lia),by lia⟩
def qO(f:Int->Bool):W->Option W
 | .int x=>if f x=true then some (.int x) else none
 | _=>none
theorem JU(f:Int->Bool)(lo:Int)(k:Nat):(hJ lo k).filterMap (qO f)=((kY lo k).filter f).map W.int:=by
 unfold hJ kY
 generalize Bu k=l
 induction l with
 | nil=>rfl
 | cons i l ih=>
  have e:qO f (W.int (lo + (i:Int)))=if f (lo + (i:Int))=true then some (.int (lo + (i:Int))) else none:=rfl
  rw[Ay,Ay,Dz,Dk,e]
  by_cases h:f (lo + (i:Int))=true
  ·rw[if_pos h,if_pos h,Ay,<-ih]
  ·rw[if_neg h,if_neg h,<-ih]
theorem JV{row:List Str}{fs:List aY}{b:Int}{ps:List Str}{t:Str}(hb:0<=b/\b<=row.length)(x:Int):Rc row (fun f=>f∈fs) b (ps ++ [t]) x↔∃ m,Rc row (fun f=>f∈fs) b ps m/\nA row fs t m x:=by
 constructor
 ·intro h
  generalize hq:ps ++ [t]=qs at h
  cases h with
  | nil=>simp at hq
  | word h1 h2 h3 h4=>
   obtain⟨rfl,e⟩:=Lr hq rfl
   cases e
   exact⟨_,h1,.inl ⟨h2,h4,rfl⟩⟩
  | name h1 h2 h3 h4 h5=>
   obtain⟨rfl,e⟩:=Lr hq rfl
   cases e
   exact⟨_,h1,.inr ⟨h2,h3,h4,h5⟩⟩
 ·rintro⟨m,h1,⟨h2,h3,rfl⟩ | ⟨h2,h3,h4,h5⟩⟩
  ·exact .word h1 h2 (Int.le_trans hb.1 (h1.in_ hb).1) h3
  ·exact .name h1 h2 h3 h4 h5
theorem take_snoc{α:Type}{l:List α}{k:Nat}{x:α}(h:l[k]? = some x):l.take (k + 1)=l.take k ++ [x]:=by
 rw[Du,h];rfl
theorem zcJ{ws:List W}{M:Mm}{R:K3}(h:y9 ws M R):zcd (bU R) (bX zb8 ws) M:=by
 obtain⟨ps,row,p,b,e,fs,rfl,hps,hpt,hw,hM,hb,r⟩:=h
 have hl:=hw.few
 refine⟨_,rfl,z1,_,rfl,?_⟩
 refine eN (ws:=ps.map W.str) (fun i τ M'=>∃ (ms:List Int) (o6 o7 o8:Option W),τ=[some (.tup (ps.map W.str)),some (fL row),some (.ref p),some (.int b),some (.int e),some (.rl (ms.map W.int)),o6,o7,o8]/\M'=M/\ms.length<=7/\∀ m,m∈ms↔Rc row (fun f=>f∈fs) b (ps.take i) m)
  ⟨[b],_,_,_,rfl,rfl,by simp,fun m=>?_⟩ (fun _ _ _ _ _=>trivial) ?_ ?_
 ·rw[Aw,List.take_zero]
  constructor
  ·rintro rfl;exact .nil
  ·intro h
   generalize hq:([]:List Str)=qs at h
   cases h with
   | nil=>rfl
   | word=>simp at hq
   | name=>simp at hq
 ·rintro i w τ M' hw' ⟨ms,o6,o7,o8,rfl,rfl,hml,hms⟩
  rw[Av] at hw'
  obtain⟨t,ht,rfl⟩:=Bg.mp hw'
  have htm:=hpt t (An ht)
  have hin:∀ m∈ms,0<=m/\m<=row.length:=fun m hm=>by
   have:=((hms m).mp hm).in_ hb
   lia
  refine⟨z0,_,rfl,?_⟩
  refine eN (ws:=ms.map W.int) (fun j τ M''=>∃ (xs:List Int) (o8:Option W),τ=[some (.tup (ps.map W.str)),some (fL row),some (.ref p),some (.int b),some (.int e),some (.rl (ms.map W.int)),some (.str t),some (.rl (xs.map W.int)),o8]/\M''=M'/\xs.length<=7 * j/\∀ x,x∈xs↔∃ m∈ms.take j,nA row fs t m x)
   ⟨[],_,rfl,rfl,Ci _,fun x=>by simp⟩ (fun _ _ _ _ _=>trivial) ?_ ?_
  ·rintro j w τ M'' hwm ⟨xs,o8,rfl,rfl,hxl,hxs⟩
   rw[Av] at hwm
   obtain⟨m,hm,rfl⟩:=Bg.mp hwm
   obtain⟨m0,m1⟩:=hin m (An hm)
   have hj:=(Ai.mp hm).1
   have fin:∀ (ys:List Int),ys.length<=7->(∀ x,x∈ys↔nA row fs t m x)->∃ M3,L3.Sub M3 M''/\∃ (xs':List Int) (o8:Option W),[some (W.tup (ps.map W.str)),some (fL row),some (.ref p),some (.int b),some (.int e),some (.rl (ms.map W.int)),some (.str t),some (.rl (xs.map W.int ++ ys.map W.int)),some (.int m)]=[some (.tup (ps.map W.str)),some (fL row),some (.ref p),some (.int b),some (.int e),some (.rl (ms.map W.int)),some (.str t),some (.rl (xs'.map W.int)),o8]/\M3=M''/\xs'.length<=7 * (j + 1)/\∀ x,x∈xs'↔∃ m∈ms.take (j + 1),nA row fs t m x:=fun ys h1 h2=>
    ⟨_,Sub.refl _,xs ++ ys,_,by rw[Bi],rfl,by rw[Ao];lia,fun x=>by
     rw[Bl,hxs,h2,take_snoc hm]
     constructor
     ·rintro(⟨m',a1,a2⟩ | a)
      ·exact⟨m',Bv _ a1,a2⟩
      ·exact⟨m,by simp,a⟩
     ·rintro⟨m',a1,a2⟩
      rcases Bl.mp a1 with a1 | a1
      ·exact .inl ⟨m',a1,a2⟩
      ·cases Aw.mp a1;exact .inr a2⟩
   have two:∀ {ys:List Int},ys.length<=7->(xs.map W.int).length + (ys.map W.int).length<=Am:=fun {ys} h=>dX (by rw[Ab,Ab];lia)
   refine⟨_,rfl,t,rfl,htm,bV (fun hn=>?_) fun hn=>?_⟩
   ·have hn:isN t=false:=by simpa using hn
    have go:∀ c:Bool,(c=true↔row[m.toNat]? = some t)->∃ M3,L3.Sub M3 M''/\_:=fun c hc=>fin (if c=true then [m + 1] else []) (by split <;> simp) fun x=>by
     unfold nA
     cases c with
     | true=>simp[hn,hc.mp rfl]
     | false=>
      have hz:¬ row[m.toNat]? = some t:=fun z=>Ar (hc.mpr z)
      simp[hn,hz]
    have fl:∀ c:Bool,(Bs (if c=true then(1:Int) else 0).toNat [W.int (m + 1)]).flatten=(if c=true then [m + 1] else []).map W.int:=fun c=>by cases c <;> rfl
    have done:∀ c:Bool,(c=true↔row[m.toNat]? = some t)->yW [.bl c] M'' fun y M2=>jZ (.rl [.int (m + 1)]) y M2 fun z M3=>cF (.rl (xs.map W.int)) z M3 fun w M1=>∃ M4,L3.Sub M4 M1/\∃ (xs':List Int) (o8:Option W),[some (W.tup (ps.map W.str)),some (fL row),some (.ref p),some (.int b),some (.int e),some (.rl (ms.map W.int)),some (.str t),some w,some (.int m)]=[some (.tup (ps.map W.str)),some (fL row),some (.ref p),some (.int b),some (.int e),some (.rl (ms.map W.int)),some (.str t),some (.rl (xs'.map W.int)),o8]/\M4=M''/\xs'.length<=7 * (j + 1)/\∀ x,x∈xs'↔∃ m∈ms.take (j + 1),nA row fs t m x:=fun c hc=>by
     refine⟨by cases c <;> decide,by cases c <;> decide,dX (by cases c <;> simp),?_⟩
     rw[fl c]
     exact⟨two (by split <;> simp),go c hc⟩
    refine⟨_,rfl,_,rfl,z1,_,rfl,_,rfl,_,rfl,bV (fun h1=>?_) fun h1=>done false (Iff.intro (fun z=>nomatch z) fun z=>?_)⟩
    ·have h1:=of_decide_eq_true h1
     rw[Ab] at h1
     obtain⟨x,ex,eg,_⟩:=nU (xs:=row.map W.str) (i:=m) m0 (by rw[Ab];exact h1)
     rw[Av] at eg
     obtain⟨u,hu,rfl⟩:=Bg.mp eg
     refine⟨_,rfl,_,rfl,_,ex,_,rfl,done (decide (u=t)) ?_⟩
     rw[decide_eq_true_eq,hu]
     simp
    ·have:=(Ai.mp z).1
     have h1:=of_decide_eq_false h1
     rw[Ab] at h1
     lia
   ·have hn:isN t=true:=by simpa using hn
    refine⟨_,rfl,_,rfl,_,rfl,m,(row.length:Int) + 1,by rw[Ab],⟨by lia,by lia,by lia,by lia⟩,?_⟩
    refine nT (rest:=[some (.ref p),some (.str t),some (.int m)]) (qO fun x=>decide ((t,m,x)∈fs)) (dX (by rw[IJ];lia)) (fun _ _=>trivial) (fun w hwr M3 C D sb d1 d2=>?_) ?_
    ·obtain⟨k,hk,rfl⟩:=Az.mp hwr
     refine⟨_,rfl,_,rfl,_,rfl,z3,_,rfl,.inr ⟨_,.inr ⟨eI fs,fK (t,m,m + (k:Int)),sb p _ hM,rfl,rfl⟩,_,rfl,?_⟩⟩
     show if (bD (eI fs) (fK (t,m,m + (k:Int)))).isSome=true then _ else _
     rw[oJ]
     refine bV (fun z=>⟨_,rfl,d1 _ (if_pos z)⟩) fun z=>d2 (if_neg (fun q=>Ar (z.symm.trans q)))
    ·rw[JU]
     refine bA.frz ⟨two ?_,fin _ ?_ fun x=>?_⟩
     ·exact Bc (Gk _ _) (by unfold kY;rw[Ab,Em];lia)
     ·exact Bc (Gk _ _) (by unfold kY;rw[Ab,Em];lia)
     ·rw[Cv,zD,decide_eq_true_eq]
      unfold nA
      constructor
      ·rintro⟨⟨a1,a2⟩,a3⟩;exact .inr ⟨hn,a1,by lia,a3⟩
      ·rintro(⟨a,_⟩ | ⟨_,a1,a2,a3⟩)
       ·rw[hn] at a;cases a
       ·exact⟨⟨a1,by lia⟩,a3⟩
  ·rintro τ M'' ⟨xs,o8,rfl,rfl,hxl,hxs⟩
   rw[Ab,De] at hxs
   rw[Ab] at hxl
   refine⟨_,rfl,xs,rfl,by lia,fun ns h1 h2 h3 h4=>?_⟩
   refine⟨_,Sub.refl _,ns,_,_,_,rfl,rfl,?_,fun m=>?_⟩
   ·have sub:∀ x∈ns,x∈kY 0 7:=fun x hx=>by
     obtain⟨m,hm,hs⟩:=(hxs x).mp ((h1 x).mp hx)
     have hr:=(JV (t:=t) hb x).mpr ⟨m,(hms m).mp hm,hs⟩
     have:=hr.in_ hb
     exact zD.mpr ⟨by lia,by lia⟩
    exact Bc (len_sub h4 sub) (by unfold kY;rw[Ab,Em];exact Aj _)
   ·rw[h1,hxs,take_snoc ht,JV hb]
    exact⟨fun⟨m',a1,a2⟩=>⟨m',(hms m').mp a1,a2⟩,fun⟨m',a1,a2⟩=>⟨m',(hms m').mpr a1,a2⟩⟩
 ·rintro τ M' ⟨ms,o6,o7,o8,rfl,rfl,hml,hms⟩
  rw[Ab,De] at hms
  refine⟨_,rfl,_,rfl,rfl,?_,_,Sub.refl _,r _ ?_⟩
  ·rw[List.all_map,Jy];exact fun _ _=>rfl
  ·rw[<-hms]
   show inW (.int e) (ms.map W.int)=true↔_
   unfold inW
   rw[List.any_map,Ij]
   constructor
   ·rintro⟨x,hx,h⟩
    have:x=e:=eq_of_beq (show(x == e)=true from h)
    rw[<-this];exact hx
   ·intro h
    exact⟨e,h,beq_self_eq_true e⟩
structure FI(rs:List aW)(row:List Str)(fs0 fs:List aY)(b:Bool)(C:aW->Int->Int->Prop):Prop where
 nd:fs.Nodup
 der:∀ f∈fs,jH rs row f
 gr:b=true->fs0.length < fs.length
 st:b=false->fs=fs0/\∀ r i e,C r i e->Rc row (fun f=>f∈fs0) i r.parts e->(r.name,i,e)∈fs0
theorem FI.mono{rs:List aW}{row:List Str}{fs0 fs:List aY}{b:Bool}{C C':aW->Int->Int->Prop}(h:FI rs row fs0 fs b C)(k:∀ r i e,C' r i e->C r i e):FI rs row fs0 fs b C':=
 ⟨h.nd,h.der,h.gr,fun z=>⟨(h.st z).1,fun r i e c=>(h.st z).2 r i e (k r i e c)⟩⟩
theorem FI.same{rs:List aW}{row:List Str}{fs0 fs:List aY}{b:Bool}{C C':aW->Int->Int->Prop}{r:aW}{i e:Int}(h:FI rs row fs0 fs b C)(q:Rc row (fun f=>f∈fs) i r.parts e->(r.name,i,e)∈fs)
  (k:∀ r' i' e',C' r' i' e'->C r' i' e'\/(r'=r/\i'=i/\e'=e)):FI rs row fs0 fs b C':=
 ⟨h.nd,h.der,h.gr,fun z=>⟨(h.st z).1,fun r' i' e' c=>by
  rcases k _ _ _ c with c | ⟨rfl,rfl,rfl⟩
  ·exact(h.st z).2 _ _ _ c
  ·rw[<-(h.st z).1];exact q⟩⟩
theorem FI.more{rs:List aW}{row:List Str}{fs0 fs:List aY}{b:Bool}{C C':aW->Int->Int->Prop}{r:aW}{i e:Int}(g:e8 rs)(h:FI rs row fs0 fs b C)(hr:r∈rs)(hi:0<=i/\i<=row.length)(q:Rc row (fun f=>f∈fs) i r.parts e)(n:(r.name,i,e)∉fs):FI rs row fs0 (fs ++ [(r.name,i,e)]) true C':=
 ⟨Ea.mpr ⟨h.nd,by simp,fun x hx y hy z=>by cases Aw.mp hy;exact n (z ▸ hx)⟩,fun f hf=>by
  rcases Bl.mp hf with hf | hf
  ·exact h.der f hf
  ·cases Aw.mp hf
   exact zbl g hr hi (q.mono h.der),fun _=>by
  rw[Ao]
  cases z:b with
  | true=>exact Bq (h.gr z) (Nat.le_add_right _ _)
  | false=>rw[(h.st z).1];exact Gh _,fun z=>nomatch z⟩
def KS(rs:List aW)(row:List Str)(M0:Mm)(p:Addr)(fs0:List aY)(C:aW->Int->Int->Prop)(tl τ:S3)(M:Mm):Prop:=
 ∃ fs b,τ=some (cP rs) :: some (fL row) :: some (.ref p) :: some (.bl b) :: tl/\M=put M0 p (.dT (eI fs))/\FI rs row fs0 fs b C
theorem JW{fs:List aY}{f:aY}(h:f∉fs):cC (eI fs) (fK f) (.bl true)=eI (fs ++ [f]):=by
 unfold cC
 rw[if_neg (by rw[show((eI fs).any fun kv=>decide (kv.1=fK f))=(bD (eI fs) (fK f)).isSome from lT _ _,oJ,decide_eq_true_eq];exact h)]
 unfold eI
 rw[Bi];rfl
abbrev C1(rs:List aW)(row:List Str)(i:Nat)(r:aW)(b e:Int):Prop:=r∈rs.take i/\0<=b/\b<=e/\e<=row.length
abbrev C2(rs:List aW)(row:List Str)(i:Nat)(q:aW)(j:Nat)(r:aW)(b e:Int):Prop:=C1 rs row i r b e\/(r=q/\0<=b/\b < j/\b<=e/\e<=row.length)
abbrev C3(rs:List aW)(row:List Str)(i:Nat)(q:aW)(j k:Nat)(r:aW)(b e:Int):Prop:=C2 rs row i q j r b e\/(r=q/\b=j/\(j:Int)<=e/\e < (j:Int) + k)
theorem zcK{ws:List W}{M:Mm}{R:K3}(h:zA ws M R):zck (bU R) (bX zce ws) M:=by
 obtain⟨rs,row,rfl,g,w,r⟩:=h
 have hl:=w.few
 have few:∀ {fs0 fs b C},FI rs row fs0 fs b C->fs.length < 128:=fun h=>JK w.few h.nd fun f hf=>t6 g (h.der f hf)
 intro p hp
 refine⟨fun m τ M'=>∃ fs b o4 o5 o6 o7 o8,τ=[some (cP rs),some (fL row),some (.ref p),some (.bl b),o4,o5,o6,o7,o8]/\M'=put M p (.dT (eI fs))/\FI rs row fs fs false (fun r i e=>b=false/\r∈rs/\0<=i/\i<=e/\e<=row.length)/\m=128 - fs.length + (if b=true then 1 else 0),
  ⟨_,[],true,_,_,_,_,_,rfl,rfl,⟨.nil,(fun f hf=>nomatch hf),(fun z=>nomatch z),fun _=>⟨rfl,fun _ _ _ z=>(nomatch z.1)⟩⟩,rfl⟩,?_⟩
 rintro m τ M' ⟨fs0,b,o4,o5,o6,o7,o8,rfl,rfl,F0,rfl⟩
 refine⟨_,rfl,bV (fun hb=>?_) fun hb=>?_⟩
 ·subst hb
  refine⟨_,rfl,?_⟩
  refine eN (ws:=rs.map cY) (fun i τ M'=>∃ o4 o5 o6 o7 o8,KS rs row M p fs0 (C1 rs row i) [o4,o5,o6,o7,o8] τ M')
   ⟨_,_,_,_,_,fs0,false,rfl,rfl,F0.mono fun r i e z=>by have:=z.1;simp at this⟩ (fun _ _ _ _ _=>trivial) ?_ ?_
  ·rintro i wr τ M' hw ⟨o4,o5,o6,o7,o8,fs,b,rfl,rfl,F⟩
   rw[Av] at hw
   obtain⟨q,hq,rfl⟩:=Bg.mp hw
   have hqm:=An hq
   refine⟨rfl,rfl,_,rfl,(row.length:Int) + 1,by rw[Ab],by lia,by lia,?_⟩
   refine eN (fun j τ M'=>∃ o7 o8,KS rs row M p fs0 (C2 rs row i q j) [some (.str q.name),some (.tup (q.parts.map W.str)),some (.int q.cost),o7,o8] τ M')
    ⟨_,_,fs,b,rfl,rfl,F.mono fun r i' e z=>z.elim id fun z=>by lia⟩ (fun _ _ _ _ _=>trivial) ?_ ?_
   ·rintro j wj τ M' hj ⟨o7,o8,fs,b,rfl,rfl,F⟩
    obtain⟨hj1,rfl⟩:=zC hj
    rw[Kt]
    refine⟨_,rfl,_,rfl,(j:Int),(row.length:Int) + 1,by rw[Ab],⟨by lia,by lia,by lia,by lia⟩,?_⟩
    refine eN (fun k τ M'=>∃ o8,KS rs row M p fs0 (C3 rs row i q j k) [some (.str q.name),some (.tup (q.parts.map W.str)),some (.int q.cost),some (.int j),o8] τ M')
     ⟨_,fs,b,rfl,rfl,F.mono fun r i' e z=>z.elim id fun z=>by lia⟩ (fun _ _ _ _ _=>trivial) ?_ ?_
    ·rintro k wk τ M' hk ⟨o8,fs,b,rfl,rfl,F⟩
     obtain⟨hk1,rfl⟩:=zC hk
     have cs:∀ r' i' e',C3 rs row i q j (k + 1) r' i' e'->C3 rs row i q j k r' i' e'\/(r'=q/\i'=j/\e'=(j:Int) + k):=by
      rintro r' i' e' (z | ⟨z0,z3,z1,z2⟩)
      ·exact .inl (.inl z)
      ·by_cases he:e'=(j:Int) + k
       ·exact .inr ⟨z0,z3,he⟩
       ·exact .inl (.inr ⟨z0,z3,z1,by lia⟩)
     refine⟨_,rfl,_,rfl,_,rfl,z3,_,rfl,.inr ⟨_,.inr ⟨eI fs,fK (q.name,(j:Int),(j:Int) + (k:Int)),bB,rfl,rfl⟩,_,rfl,?_⟩⟩
     show if (!(bD (eI fs) (fK (q.name,(j:Int),(j:Int) + (k:Int)))).isSome)=true then _ else _
     rw[oJ]
     refine bV (fun hn=>?_) fun hn=>?_
     ·have hn:(q.name,(j:Int),(j:Int) + (k:Int))∉fs:=by simpa using hn
      refine⟨_,rfl,_,rfl,_,rfl,_,rfl,_,rfl,q.parts,row,p,j,(j:Int) + k,fs,rfl,g.fp q hqm,fun t ht=>(g.prt q hqm t ht).elim (fun z=>.inr (lW z)) fun z=>.inl z.1,w,bB,⟨by lia,by lia⟩,fun c hc=>bV (fun h1=>?_) fun h1=>?_⟩
      ·have hf:=few F
       refine⟨_,rfl,_,rfl,_,rfl,_,rfl,z3,nV (k:=fK (q.name,(j:Int),(j:Int) + (k:Int))) bB (by unfold eI;rw[Ab];exact Bq hf (dX (by decide))) ?_⟩
       rw[JW hn,gP]
       exact⟨_,Sub.refl _,_,_,_,rfl,rfl,F.more g hqm ⟨by lia,by lia⟩ (hc.mp h1) hn⟩
      ·exact⟨_,Sub.refl _,_,_,_,rfl,rfl,F.same (fun z=>(Ar (h1.symm.trans (hc.mpr z))).elim) cs⟩
     ·have hn:(q.name,(j:Int),(j:Int) + (k:Int))∈fs:=by simpa using hn
      exact⟨_,Sub.refl _,_,_,_,rfl,rfl,F.same (fun _=>hn) cs⟩
    ·rintro τ M' ⟨o8,fs,b,rfl,rfl,F⟩
     rw[m9] at F
     exact⟨_,Sub.refl _,_,_,_,_,rfl,rfl,F.mono fun r i' e z=>z.elim (fun z=>.inl (.inl z)) fun z=>by
      by_cases hi:i'=j
      ·exact .inr ⟨z.1,hi,by lia,by lia⟩
      ·exact .inl (.inr ⟨z.1,by lia,by lia,by lia,by lia⟩)⟩
   ·rintro τ M' ⟨o7,o8,fs,b,rfl,rfl,F⟩
    rw[m9] at F
    refine⟨_,Sub.refl _,_,_,_,_,_,_,_,rfl,rfl,F.mono fun r i' e z=>?_⟩
    rw[C1,take_snoc hq,Bl,Aw] at z
    rcases z.1 with z1 | z1
    ·exact .inl ⟨z1,z.2⟩
    ·exact .inr ⟨z1,by lia,by lia,by lia,by lia⟩
  ·rintro τ M' ⟨o4,o5,o6,o7,o8,fs,b,rfl,rfl,F⟩
   rw[Ab,show rs.length=rs.length from rfl] at F
   have f1:=few F
   refine⟨_,_,?_,Sub.refl _,fs,b,_,_,_,_,_,rfl,rfl,⟨F.nd,F.der,(fun z=>nomatch z),fun _=>⟨rfl,fun r' i' e' z q=>?_⟩⟩,rfl⟩
   ·cases z:b with
    | true=>have:=F.gr z;simp;lia
    | false=>rw[(F.st z).1];simp
   ·obtain⟨s1,s2⟩:=F.st z.1
    rw[s1] at q ⊢
    exact s2 _ _ _ ⟨by rw[De];exact z.2.1,z.2.2⟩ q
 ·subst hb
  refine⟨_,rfl,_,Sub.refl _,r fs0 F0.nd (fun f=>⟨F0.der f,fun d=>?_⟩) p hp⟩
  exact JJ g (K:=fun f=>f∈fs0) (fun r hr b e h1 h2 h3 h4=>(F0.st rfl).2 r b e ⟨rfl,hr,h1,h2,h3⟩ h4) d
theorem JX{ws:List W}{j:Nat}(h:j<=ws.length):dW ws none (some (j:Int))=ws.take j:=by
 unfold dW
 rw[HT.sIx_none,HT.sIx_nat,Me h]
 simp
def oK(hs:List Str):W->Option W
 | .int k=>(hs[k.toNat]?).bind fun t=>if t∈hs.take k.toNat then none else some (.str t)
 | _=>none
theorem zcL{hs:List Str}{xs:List W}(h:∀ w∈xs,∃ k:Nat,w=.int k):∃ us:List Str,xs.filterMap (oK hs)=us.map W.str/\us.length<=xs.length/\∀ t∈us,t∈hs:=by
 induction xs with
 | nil=>exact⟨[],rfl,Aj _,fun _ z=>nomatch z⟩
 | cons w xs ih=>
  obtain⟨us,e,l,m⟩:=ih fun w hw=>h w (Bd _ hw)
  obtain⟨k,rfl⟩:=h w Bf
  rw[Dz]
  cases z:oK hs (.int k) with
  | none=>exact⟨us,e,Nat.le_succ_of_le l,m⟩
  | some y=>
   unfold oK at z
   obtain⟨t,ht,z⟩:=Option.bind_eq_some_iff.mp z
   split at z
   ·cases z
   ·cases z
    exact⟨t :: us,by rw[e];rfl,Nat.succ_le_succ l,fun t' h'=>(Ax.mp h').elim (fun q=>q ▸ An ht) (m t')⟩
theorem JY{P:W->W->Prop}{Q:Str->Prop}{xs ys:List W}(h:Gr P xs ys)(k:∀ x y,P x y->∃ t,y=.str t/\Q t):∃ ts:List Str,ys=ts.map W.str/\ts.length=xs.length/\∀ t∈ts,Q t:=by
 induction h with
 | nil=>exact⟨[],rfl,rfl,fun _ z=>nomatch z⟩
 | cons a _ ih=>
  obtain⟨ts,rfl,l,m⟩:=ih
  obtain⟨t,rfl,q⟩:=k _ _ a
  exact⟨t :: ts,rfl,by rw[Bn,Bn,l],fun t' h'=>(Ax.mp h').elim (fun e=>e ▸ q) (m t')⟩
theorem zcM{P:W->W->Prop}{xs ys:List W}(h:Gr P xs ys)(k:∀ x y,P x y->∃ i,y=.int i):∃ ts:List Int,ys=ts.map W.int/\ts.length=xs.length:=by
 induction h with
 | nil=>exact⟨[],rfl,rfl⟩
 | cons a _ ih=>
  obtain⟨ts,rfl,l⟩:=ih
  obtain⟨t,rfl⟩:=k _ _ a
  exact⟨t :: ts,rfl,by rw[Bn,Bn,l]⟩
theorem zcN{ds:List Int}{a1 a2 a3 a4 a5 a6 a7 a8:Int}(h:Drawn ds [a1,a2,a3,a4,a5,a6,a7,a8]):∃ x1 x2 x3 x4 x5 x6 x7 x8,ds=[x1,x2,x3,x4,x5,x6,x7,x8]/\Below x2 a2/\(Below x3 a3/\Below x4 a4/\Below x5 a5/\Below x6 a6)/\Below x7 a7/\Below x8 a8:=by
 cases h with | cons h1 h=>cases h with | cons h2 h=>cases h with | cons h3 h=>cases h with | cons h4 h=>cases h with | cons h5 h=>cases h with | cons h6 h=>cases h with | cons h7 h=>cases h with | cons h8 h=>cases h;exact⟨_,_,_,_,_,_,_,_,rfl,h2,⟨h3,h4,h5,h6⟩,h7,h8⟩
theorem zE{ds:List Int}{a:Int}(h:Drawn ds [a]):∃ x,ds=[x]/\Below x a:=by
 cases h with | cons h1 h=>cases h;exact⟨_,rfl,h1⟩
theorem zcO{x1 x2 x3 x4 x5 x6 x7 x8:Int}(h:Below x2 5)(h8:Below x3 8/\Below x4 8/\Below x5 8/\Below x6 8):∃ ds:List Int,dW ([x1,x2,x3,x4,x5,x6,x7,x8].map W.int) (some 2) (some (2 + x2))=ds.map W.int/\ds.length<=4/\∀ d∈ds,Below d 8:=by
 refine⟨[x3,x4,x5,x6].take x2.toNat,?_,by rw[Cb];exact Nat.min_le_right _ _,fun d hd=>?_⟩
 ·obtain⟨h0,h1⟩:=h
  have:x2=0\/x2=1\/x2=2\/x2=3\/x2=4:=by lia
  rcases this with rfl | rfl | rfl | rfl | rfl <;> rfl
 ·have:=Mq hd
  simp only[Ax,Ej,or_false] at this
  rcases this with rfl | rfl | rfl | rfl
  ·exact h8.1
  ·exact h8.2.1
  ·exact h8.2.2.1
  ·exact h8.2.2.2
theorem zcP{ws:List W}{M:Mm}{R:K3}(h:y7 ws M R):zbX (bU R) (bX zbP ws) M:=by
 obtain⟨zs,rfl,hz,r⟩:=h
 refine⟨_,rfl,zs,0,rfl,hz,fun c0=>⟨show(0:Int) < 8 by decide,1 + c0 % 8,rfl,?_⟩⟩
 have m0:=Je c0 (b:=8) (by decide)
 have m1:=Hj c0 (b:=8) (by decide)
 refine⟨by lia,by lia,w5 (rest:=[some (.sc (zs.map W.int))]) (fun _ y=>∃ i,y=.int i) (dX (by rw[m9];lia)) (fun _ _=>trivial) (fun w hw M' C sb h1=>?_) fun ys po=>bA.frz ?_⟩
 ·obtain⟨k,hk,rfl⟩:=Az.mp hw
  exact⟨_,rfl,_,rfl,zs,_,rfl,hz,fun i=>h1 _ ⟨i,rfl⟩⟩
 obtain⟨cs,rfl,hcl⟩:=zcM po fun _ _ h=>h
 rw[m9] at hcl
 refine⟨_,rfl,w5 (rest:=[]) (fun _ y=>∃ t,y=.str t/\t∈NM) (dX (by rw[Ab];lia)) (fun _ _=>trivial) (fun w hw M' C sb h1=>?_) fun ys po=>bA.frz ?_⟩
 ·obtain⟨c,hc,rfl⟩:=Az.mp hw
  refine⟨z4,_,rfl,z1,c,[4],rfl,by decide,fun s hs=>by simp at hs;subst hs;decide,fun ds hd=>bA.frz ?_⟩
  obtain⟨x,rfl,b0,b1⟩:=zE hd
  obtain⟨t,et,mt⟩:=uF (ts:=NM) (k:=x) b0 b1
  exact⟨_,rfl,_,et,h1 _ ⟨t,rfl,mt⟩⟩
 obtain⟨hs,rfl,hhl,hhm⟩:=JY po fun _ _ h=>h
 rw[Ab] at hhl
 refine⟨_,rfl,(hs.length:Int),by rw[Ab],by lia,by lia,nT (rest:=[some (.rl (hs.map W.str))]) (oK hs) (dX (by rw[m9];lia)) (fun _ _=>trivial) (fun w hw M' C D sb h1 h2=>?_) (bA.frz ?_)⟩
 ·obtain⟨k,hk,rfl⟩:=Az.mp hw
  have hk:=Dy.mp hk
  have hk:k < hs.length:=by lia
  have e1:hs[k]? = some hs[k]:=Ak hk
  have ea:cB (hs.map W.str) ((0:Int) + (k:Int))=some (.str hs[k]):=by rw[Kt];exact iE (by rw[Av,e1];rfl)
  have eu:oK hs (.int ((0:Int) + (k:Int)))=if hs[k]∈hs.take k then none else some (.str hs[k]):=by rw[Kt];show(hs[(k:Int).toNat]?).bind (fun t=>if t∈hs.take (k:Int).toNat then none else some (W.str t))=_;rw[Bz,e1];rfl
  have ec:dW (hs.map W.str) none (some ((0:Int) + (k:Int)))=(hs.take k).map W.str:=by rw[Kt,JX (by rw[Ab];lia),<-Lg]
  refine⟨_,rfl,_,rfl,_,ea,_,rfl,_,rfl,_,rfl,rfl,by rw[ec];exact HW _,_,rfl,?_⟩
  show if (!inW (.str hs[k]) (dW (hs.map W.str) none (some ((0:Int) + (k:Int)))))=true then _ else _
  rw[ec,HV]
  refine bV (fun hn=>⟨_,rfl,_,rfl,_,ea,h1 _ (by rw[eu,if_neg (by simpa using hn)])⟩) fun hn=>h2 (by rw[eu,if_pos (by simpa using hn)])
 obtain⟨us,eu,hul,hum⟩:=zcL (hs:=hs) (xs:=hJ 0 (hs.length:Int).toNat) fun w hw=>by obtain⟨k,_,rfl⟩:=Az.mp hw;exact⟨k,by simp⟩
 have hn1:0 < hs.length:=by lia
 have une:0 < us.length:=by
  have h0:(W.int 0)∈hJ 0 (hs.length:Int).toNat:=Az.mpr ⟨0,Dy.mpr (by lia),rfl⟩
  have h1:oK hs (.int 0)=some (.str hs[0]):=by show(hs[(0:Int).toNat]?).bind (fun t=>if t∈hs.take (0:Int).toNat then none else some (W.str t))=_;rw[show hs[(0:Int).toNat]? = some hs[0] from Ak hn1];rfl
  have h2:=Jd.mpr ⟨_,h0,h1⟩
  rw[eu] at h2
  obtain⟨t,ht,_⟩:=Az.mp h2
  exact Ly ht
 rw[eu]
 rw[m9] at hul
 refine⟨z0,fun p hp=>⟨_,rfl,_,rfl,?_⟩⟩
 have zl:(hU (hs.map W.str) (cs.map W.int)).length=hs.length:=by rw[kR,Ab,Ab];lia
 refine eN (fun i τ M'=>∃ (rs:List aW) (o5 o6 o7 o8 o9:Option W),τ=[some (.sc (zs.map W.int)),some (.rl (cs.map W.int)),some (.rl (hs.map W.str)),some (.rl (us.map W.str)),some (.ref p),o5,o6,o7,o8,o9]/\M'=put M p (.lst (rs.map cY))/\rs.map aW.name=hs.take i/\(∀ r∈rs,r.parts.length<=4/\(∀ t∈r.parts,t∈W3\/t∈us)/\0<=r.cost/\r.cost < 10 ^ 60))
  ⟨[],_,_,_,_,_,rfl,rfl,by simp,fun _ z=>nomatch z⟩ (fun _ _ _ _ _=>trivial) ?_ ?_
 ·rintro i w τ M' hw ⟨rs,o5,o6,o7,o8,o9,rfl,rfl,hnm,hrs⟩
  have hi:i < hs.length:=by have:=(Ai.mp hw).1;lia
  rw[pY (x:=.str hs[i]) (y:=.int (cs[i]'(by lia))) (by rw[Av,Ak hi];rfl) (by rw[Av,Ak (by lia)];rfl)] at hw
  cases hw
  generalize cs[i]'(by lia)=c
  refine⟨rfl,rfl,_,rfl,⟨by decide,by decide,by decide⟩,z8,c,[4,5,8,8,8,8,4,10 ^ 6],rfl,by decide,by decide,fun ds hd=>bA.frz ?_⟩
  obtain⟨x1,x2,x3,x4,x5,x6,x7,x8,rfl,b2,b36,b7,b8⟩:=zcN hd
  obtain⟨ds,ed,dl,db⟩:=zcO (x1:=x1) (x7:=x7) (x8:=x8) b2 b36
  refine⟨z0,fun q hq=>⟨_,rfl,_,rfl,_,rfl,_,rfl,_,rfl,?_⟩⟩
  have hqp:p≠q:=fun z=>by rw[<-z,bB] at hq;cases hq
  have hMq:M q=none:=by rw[aT (fun z=>hqp z.symm)] at hq;exact hq
  refine eN (ws:=dW ([x1,x2,x3,x4,x5,x6,x7,x8].map W.int) (some 2) (some (2 + x2))) (fun j τ M'=>∃ (ps:List Str) (o9:Option W),τ=[some (.sc (zs.map W.int)),some (.rl (cs.map W.int)),some (.rl (hs.map W.str)),some (.rl (us.map W.str)),some (.ref p),some (.str hs[i]),some (.int c),some (.rl ([x1,x2,x3,x4,x5,x6,x7,x8].map W.int)),some (.ref q),o9]/\M'=put (put M p (.lst (rs.map cY))) q (.lst (ps.map W.str))/\ps.length<=j/\∀ t∈ps,t∈W3\/t∈us)
   ⟨[],_,rfl,rfl,Aj _,fun _ z=>nomatch z⟩ (fun _ _ _ _ _=>trivial) ?_ ?_
  ·rintro j w τ M' hw ⟨ps,o9,rfl,rfl,hpl,hps⟩
   rw[ed,Av] at hw
   obtain⟨d,hd',rfl⟩:=Bg.mp hw
   obtain⟨d0,d1⟩:=db d (An hd')
   have hj:=(Ai.mp hd').1
   have fin:∀ t:Str,t∈W3\/t∈us->fG (.ref q) [.str t] (put (put M p (.lst (rs.map cY))) q (.lst (ps.map W.str))) fun _ M1=>∃ M'',L3.Sub M'' M1/\∃ (ps:List Str) (o9:Option W),[some (W.sc (zs.map W.int)),some (.rl (cs.map W.int)),some (.rl (hs.map W.str)),some (.rl (us.map W.str)),some (.ref p),some (.str hs[i]),some (.int c),some (.rl ([x1,x2,x3,x4,x5,x6,x7,x8].map W.int)),some (.ref q),some (.int d)]=[some (.sc (zs.map W.int)),some (.rl (cs.map W.int)),some (.rl (hs.map W.str)),some (.rl (us.map W.str)),some (.ref p),some (.str hs[i]),some (.int c),some (.rl ([x1,x2,x3,x4,x5,x6,x7,x8].map W.int)),some (.ref q),o9]/\M''=put (put M p (.lst (rs.map cY))) q (.lst (ps.map W.str))/\ps.length<=j + 1/\∀ t∈ps,t∈W3\/t∈us:=fun t ht=>
    ⟨_,bB,Bq (by rw[Ab];lia) z8,_,Sub.refl _,ps ++ [t],_,rfl,by rw[gP,Bi];rfl,by rw[Ao];exact Nat.succ_le_succ hpl,fun t' h'=>(Bl.mp h').elim (hps t') fun z=>by cases Aw.mp z;exact ht⟩
   refine⟨_,rfl,_,rfl,bV (fun h3=>?_) fun h3=>?_⟩
   ·obtain⟨t,et,mt⟩:=uF (ts:=W3) (k:=d) d0 (of_decide_eq_true h3)
    exact⟨_,rfl,fU bB,z3,_,rfl,_,et,fin t (.inl mt)⟩
   ·have h4:0 < (us.length:Int):=by lia
    obtain⟨t,et,mt⟩:=uF (ts:=us) (k:=(d - 3) % us.length) (Je _ (by lia)) (Hj _ h4)
    refine⟨_,rfl,fU bB,_,rfl,_,rfl,_,rfl,by rw[Ab];exact h4,_,by rw[Ab];exact et,fin t (.inr mt)⟩
  ·rintro τ M' ⟨ps,o9,rfl,rfl,hpl,hps⟩
   rw[ed,Ab] at hpl
   obtain⟨y,ey,my⟩:∃ y:Int,cB ([0,1,x8 % 10,x8].map W.int) x7=some (.int y)/\y∈[0,1,x8 % 10,x8]:=by
    obtain⟨y,e1,_,e2⟩:=nU (xs:=[0,1,x8 % 10,x8].map W.int) (i:=x7) b7.1 b7.2
    obtain⟨z,hz,rfl⟩:=Az.mp e2
    exact⟨z,e1,hz⟩
   have hrl:rs.length<=8:=by have:=congrArg Ds hnm;rw[Ab,Cb] at this;lia
   refine⟨_,rfl,fU ((aT hqp).trans bB),_,rfl,_,rfl,_,bB,_,rfl,_,rfl,show(0:Int) < 10 by decide,_,rfl,_,rfl,z4,_,rfl,_,rfl,_,ey,z3,_,(aT hqp).trans bB,Bq (m:=9) (by rw[Ab];lia) (dX (by decide)),put M p (.lst ((rs ++ [aW.mk hs[i] ps y]).map cY)),?_,rs ++ [aW.mk hs[i] ps y],_,_,_,_,_,rfl,rfl,?_,fun r hr=>?_⟩
   ·rw[vS (fun z=>hqp z.symm),gP,Bi]
    exact Sub.new (by rw[aT (fun z=>hqp z.symm)];exact hMq)
   ·rw[Bi,hnm,take_snoc (Ak hi)];rfl
   ·rcases Bl.mp hr with hr | hr
    ·exact hrs r hr
    ·cases Aw.mp hr
     refine⟨by show ps.length<=4;lia,hps,?_⟩
     have m0:=Je x8 (b:=10) (by decide)
     have m1:=Hj x8 (b:=10) (by decide)
     obtain⟨b80,b81⟩:=b8
     have hy:0<=y/\y < 10 ^ 6:=by
      simp only[Ax,Ej,or_false] at my
      lia
     exact⟨hy.1,Int.lt_trans hy.2 (by decide)⟩
 ·rintro τ M' ⟨rs,o5,o6,o7,o8,o9,rfl,rfl,hnm,hrs⟩
  rw[zl,De] at hnm
  have hrl:rs.length=hs.length:=by rw[<-hnm,Ab]
  refine⟨_,rfl,_,Sub.refl _,r rs ⟨fun z=>?_,by lia,fun r hr=>hhm _ ?_,fun r hr=>(hrs r hr).1,fun r hr t ht=>((hrs r hr).2.1 t ht).imp id fun z=>⟨hhm _ (hum t z),?_⟩,fun r hr=>(hrs r hr).2.2.1,fun r hr=>(hrs r hr).2.2.2⟩ p hp⟩
  ·rw[z] at hrl;simp at hrl;lia
  ·rw[<-hnm];exact Fx hr
  ·have:=hum t z
   rw[<-hnm] at this
   exact Az.mp this
theorem zcQ{ws:List W}{j:Nat}(h:j<=ws.length):dW ws (some (j:Int)) none=ws.drop j:=by
 unfold dW
 rw[HT.sIx_none,HT.sIx_nat,Me h]
 exact Fc (by rw[Gg];exact Aj _)
theorem _root_.Nat.min_sub_min(i j n:Nat):min j n - min i n<=j - i:=by
 rcases Nat.le_total i n with h | h
 ·rw[Me h];exact Nat.sub_le_sub_right (Hm _ _) _
 ·rw[Nat.min_eq_right h,Nat.sub_eq_zero_of_le (Nat.min_le_right _ _)];exact Ci _
theorem JZ{α:Type}{f:α->W}(xs:List α)(i:Option Nat)(j:Nat):∃ ys:List α,dW (xs.map f) (i.map fun(k:Nat)=>(k:Int)) (some (j:Int))=ys.map f/\ys.length<=j - i.getD 0/\∀ y∈ys,y∈xs:=by
 refine⟨(xs.drop (HT.sIx xs.length 0 (i.map fun(k:Nat)=>(k:Int)))).take (HT.sIx xs.length xs.length (some (j:Int)) - HT.sIx xs.length 0 (i.map fun(k:Nat)=>(k:Int))),?_,?_,fun y hy=>List.mem_of_mem_drop (Mq hy)⟩
 ·unfold dW;rw[Ab,Lg,Nd]
 ·rw[Cb,Gg,HT.sIx_nat]
  cases i with
  | none=>show min (min j xs.length - HT.sIx xs.length 0 none) _<=j - 0;rw[HT.sIx_none];exact Bc (Hm _ _) (Hm _ _)
  | some i=>show min (min j xs.length - HT.sIx xs.length 0 (some (i:Int))) (xs.length - HT.sIx xs.length 0 (some (i:Int)))<=j - i;rw[HT.sIx_nat];exact Bc (Hm _ _) (Nat.min_sub_min i j xs.length)
def uH(n:Str):W->Option W
 | .tup (.str m :: r)=>if m=n then some (.tup (.str m :: r)) else none
 | _=>none
theorem zcR{n:Str}{rs:List aW}:(rs.map cY).filterMap (uH n)=(rs.filter fun u=>decide (u.name=n)).map cY:=by
 induction rs with
 | nil=>rfl
 | cons q rs ih=>
  have e:uH n (cY q)=if q.name=n then some (cY q) else none:=rfl
  rw[Ay,Dz,Dk,e,ih]
  by_cases h:q.name=n
  ·rw[if_pos h,if_pos (by simpa using h),Ay]
  ·rw[if_neg h,if_neg (by simpa using h)]
def uI(f:Str->Bool):W->Option W
 | .str x=>if f x=true then some (.str x) else none
 | _=>none
theorem zcS(f:Str->Bool)(ts:List Str):(ts.map W.str).filterMap (uI f)=(ts.filter f).map W.str:=by
 induction ts with
 | nil=>rfl
 | cons t ts ih=>
  have e:uI f (.str t)=if f t=true then some (.str t) else none:=rfl
  rw[Ay,Dz,Dk,e,ih]
  by_cases h:f t=true
  ·rw[if_pos h,if_pos h,Ay]
  ·rw[if_neg h,if_neg h]
theorem zcT{ws:List W}{M:Mm}{R:K3}(h:y8 ws M R):zb7 (bU R) (bX zb0 ws) M:=by
 obtain⟨zs,rs,rfl,hz,g,r⟩:=h
 obtain⟨cs,ec,hcl,_⟩:=JZ (f:=W.int) zs (some 9) 15
 have hcl:cs.length<=6:=hcl
 have hf:=g.few
 have ec:dW (zs.map W.int) (some 9) (some (9 + 6))=cs.map W.int:=ec
 refine⟨_,rfl,_,rfl,_,rfl,_,rfl,_,rfl,zs,0,rfl,hz,fun c0=>⟨⟨by decide,by decide⟩,show(0:Int) < 3 by decide,_,rfl,bV (fun _=>?_) fun _=>?_⟩⟩
 ·refine⟨_,rfl,w5 (ws:=dW (zs.map W.int) (some 9) (some (9 + 6))) (rest:=[]) (fun _ y=>∃ t,y=.str t/\t∈W4) (dX (by rw[ec,Ab];lia)) (fun _ _=>trivial) (fun w hw M' C sb h1=>?_) fun ys po=>?_⟩
  ·rw[ec] at hw
   obtain⟨c,hc,rfl⟩:=Az.mp hw
   refine⟨z4,_,rfl,z1,c,[4],rfl,by decide,fun s hs=>by simp at hs;subst hs;decide,fun ds hd=>bA.frz ?_⟩
   obtain⟨x,rfl,b0,b1⟩:=zE hd
   obtain⟨t,et,mt⟩:=uF (ts:=W4) (k:=x) b0 b1
   exact⟨_,rfl,_,et,h1 _ ⟨t,rfl,mt⟩⟩
  obtain⟨ts,rfl,htl,htm⟩:=JY po fun _ _ h=>h
  rw[ec,Ab] at htl
  exact qN (r ts ⟨by lia,htm⟩)
 ·obtain⟨q0,rs',e0⟩:∃ q0 rs',rs=q0 :: rs':=by
   cases rs with
   | nil=>exact(g.ne rfl).elim
   | cons q rs=>exact⟨_,_,rfl⟩
  have hq0:q0∈rs:=by rw[e0];exact Bf
  refine⟨_,rfl,_,(show cB (rs.map cY) 0=some (cY q0) by rw[e0];exact iE (j:=0) rfl),_,rfl,z1,24,rfl,by decide,by decide,?_⟩
  refine eN (fun i τ M'=>∃ (ts:List Str) (o5 o6 o7 o8 o9:Option W),τ=[some (.sc (zs.map W.int)),some (cP rs),some (.int 6),some (.rl (dW (zs.map W.int) (some 9) (some (9 + 6)))),some (.rl (ts.map W.str)),o5,o6,o7,o8,o9]/\M'=M/\ts.length<=14/\∀ t∈ts,t∈W3\/(t∈NM/\∃ q∈rs,q.name=t))
   ⟨[q0.name],_,_,_,_,_,rfl,rfl,by simp,fun t ht=>by cases Aw.mp ht;exact .inr ⟨g.nm q0 hq0,q0,hq0,rfl⟩⟩ (fun _ _ _ _ _=>trivial) ?_ ?_
  ·rintro i w τ M' hw ⟨ts,o5,o6,o7,o8,o9,rfl,rfl,hl,ht⟩
   obtain⟨hi,rfl⟩:=zC hw
   rw[Kt]
   refine⟨_,rfl,(ts.length:Int),by rw[Ab],by lia,by lia,nT (rest:=[some (.rl (ts.map W.str))]) (qO fun x=>isN (ts.getD x.toNat "")) (dX (by rw[m9];lia)) (fun _ _=>trivial) (fun w hw M3 C D sb d1 d2=>?_) ?_⟩
   ·obtain⟨k,hk,rfl⟩:=Az.mp hw
    have hk:=Dy.mp hk
    obtain⟨t,et,eg,mt⟩:=nU (xs:=ts.map W.str) (i:=(0:Int) + (k:Int)) (by lia) (by rw[Ab];lia)
    rw[Av] at eg
    obtain⟨u,hu,rfl⟩:=Bg.mp eg
    have hum:=An hu
    have e:qO (fun x=>isN (ts.getD x.toNat "")) (.int ((0:Int) + (k:Int)))=if isN u=true then some (.int ((0:Int) + (k:Int))) else none:=by
     show(if isN (ts.getD ((0:Int) + (k:Int)).toNat "")=true then _ else _)=_
     rw[Ef,hu];rfl
    exact⟨_,rfl,_,rfl,_,et,u,rfl,(ht u hum).elim (fun z=>.inr (lW z)) fun z=>.inl z.1,bV (fun z=>⟨_,rfl,d1 _ (by rw[e,if_pos z])⟩) fun z=>d2 (by rw[e,if_neg (by rw[z];decide)])⟩
   ·rw[JU]
    obtain⟨xs,hxs⟩:∃ xs,xs=(kY 0 (ts.length:Int).toNat).filter fun x=>isN (ts.getD x.toNat ""):=⟨_,rfl⟩
    rw[<-hxs]
    refine bA.frz ⟨_,rfl,z0,?_⟩
    refine GH (x:=.rl (xs.map W.int)) (y:=.rl []) 1 (by decide) (fun w hw=>by obtain⟨x,_,rfl⟩:=Az.mp hw;trivial) (fun w hw=>nomatch hw) fun b hb=>⟨_,rfl,bV (fun hn=>?_) fun _=>⟨_,Sub.refl _,ts,_,_,_,_,_,rfl,rfl,hl,ht⟩⟩
    refine⟨_,rfl,_,rfl,.inl (.inl ⟨by decide,by decide⟩),_,rfl,bV (fun h12=>?_) fun _=>⟨_,Sub.refl _,ts,_,_,_,_,_,rfl,rfl,hl,ht⟩⟩
    have h12:ts.length < 12:=by have:=of_decide_eq_true h12;rw[Ab] at this;lia
    obtain⟨a,xs',ex⟩:∃ a xs',xs=a :: xs':=by
     cases xs with
     | nil=>rw[hb.mpr rfl] at hn;cases hn
     | cons a xs'=>exact⟨_,_,rfl⟩
    have ha:a∈xs:=by rw[ex];exact Bf
    rw[hxs,Cv,zD] at ha
    obtain⟨k,rfl⟩:∃ k:Nat,a=k:=⟨a.toNat,by lia⟩
    have hk:k < ts.length:=by lia
    have ek:ts[k]? = some ts[k]:=Ak hk
    have hu:isN ts[k]=true:=by have:=ha.2;rw[Bz,Ef,ek] at this;exact this
    have ekw:cB (ts.map W.str) (k:Int)=some (.str ts[k]):=iE (by rw[Av,ek];rfl)
    obtain⟨q,hq,hqn⟩:∃ q∈rs,q.name=ts[k]:=by
     rcases ht _ (An ek) with z | z
     ·rw[yR (lW z)] at hu;cases hu
     ·exact z.2
    refine⟨_,rfl,_,(show cB (xs.map W.int) 0=some (.int k) by rw[ex];exact iE (j:=0) rfl),_,rfl,lU (nT (rest:=[some (.rl (ts.map W.str)),some (.int k)]) (uH ts[k]) (dX (by rw[Ab];lia)) (fun _ _=>trivial) (fun w hw M3 C D sb d1 d2=>?_) ?_)⟩
    ·obtain⟨q',hq',rfl⟩:=Az.mp hw
     have e:uH ts[k] (cY q')=if q'.name=ts[k] then some (cY q') else none:=rfl
     exact⟨_,rfl,_,rfl,_,rfl,_,rfl,_,ekw,_,rfl,bV (fun z=>⟨_,rfl,d1 _ (by rw[e,if_pos (of_decide_eq_true z)])⟩) fun z=>d2 (by rw[e,if_neg (of_decide_eq_false z)])⟩
    rw[zcR]
    obtain⟨own,ho⟩:∃ own,own=rs.filter fun u=>decide (u.name=ts[k]):=⟨_,rfl⟩
    rw[<-ho]
    have hom:∀ q'∈own,q'∈rs:=fun q' h=>by rw[ho] at h;exact(Cv.mp h).1
    have hqo:q∈own:=by rw[ho];exact Cv.mpr ⟨hq,decide_eq_true hqn⟩
    have hol:0 < own.length:=Ly hqo
    have hol8:own.length<=8:=Bc (by rw[ho];exact Gk _ _) hf
    refine bA.frz ⟨_,rfl,_,rfl,_,rfl,show(0:Int) < 12 by decide,zs,_,rfl,hz,fun c=>⟨_,rfl,⟨by decide,by decide⟩,.inl (.inr ⟨by decide,by decide⟩),_,rfl,z1,_,[((own.map cY).length:Int)],rfl,by simp,fun s hs=>?_,fun ds hd=>bA.frz ?_⟩⟩
    ·cases Aw.mp hs
     rw[Ab]
     exact⟨by lia,Int.le_trans (b:=8) (by lia) (by decide)⟩
    obtain⟨x,rfl,b0,b1⟩:=zE hd
    obtain⟨q2,e2,_,m2⟩:=nU (xs:=own.map cY) b0 b1
    obtain⟨q2,hq2,rfl⟩:=Az.mp m2
    have hp2:=g.fp q2 (hom q2 hq2)
    have c1:dW (ts.map W.str) none (some (k:Int))=(ts.take k).map W.str:=by rw[JX (by rw[Ab];lia),<-Lg]
    have c2:dW (ts.map W.str) (some ((k:Int) + 1)) none=(ts.drop (k + 1)).map W.str:=by rw[show(k:Int) + 1=((k + 1:Nat):Int) by lia,zcQ (by rw[Ab];lia),<-Nd]
    have l1:(ts.take k).length=k:=by rw[Cb];lia
    have l2:(ts.drop (k + 1)).length=ts.length - (k + 1):=Gg
    refine⟨_,rfl,_,e2,_,rfl,_,rfl,_,rfl,_,rfl,_,rfl,?_⟩
    show(dW (ts.map W.str) none (some (k:Int))).length + (q2.parts.map W.str).length<=Am/\_
    rw[c1,Ab,Ab,l1]
    refine⟨dX (by lia),_,rfl,_,rfl,_,rfl,dX (by rw[c2,<-Bi,Ab,Ab,Ao,l1,l2];lia),_,Sub.refl _,ts.take k ++ q2.parts ++ ts.drop (k + 1),_,_,_,_,_,by rw[c2,<-Bi,<-Bi];rfl,rfl,by rw[Ao,Ao,l1,l2];lia,fun t h'=>?_⟩
    rcases Bl.mp h' with h' | h'
    ·rcases Bl.mp h' with h' | h'
     ·exact ht t (Mq h')
     ·exact g.prt q2 (hom q2 hq2) t h'
    ·exact ht t (List.mem_of_mem_drop h')
  ·rintro τ M' ⟨ts,o5,o6,o7,o8,o9,rfl,rfl,hl,ht⟩
   refine⟨_,rfl,lU (nT (rest:=[]) (uI fun t=>!isN t) (dX (by rw[Ab];lia)) (fun _ _=>trivial) (fun w hw M3 C D sb d1 d2=>?_) ?_)⟩
   ·obtain⟨t,hm,rfl⟩:=Az.mp hw
    have e:uI (fun t=>!isN t) (.str t)=if (!isN t)=true then some (.str t) else none:=rfl
    exact⟨_,rfl,t,rfl,(ht t hm).elim (fun z=>.inr (lW z)) fun z=>.inl z.1,bV (fun z=>⟨_,rfl,d1 _ (by rw[e,if_pos z])⟩) fun z=>d2 (by rw[e,if_neg (by rw[z];decide)])⟩
   ·rw[zcS]
    obtain⟨ys,ey,yl,ym⟩:=JZ (f:=W.str) (ts.filter fun t=>!isN t) none 6
    have ey:dW ((ts.filter fun t=>!isN t).map W.str) none (some 6)=ys.map W.str:=ey
    refine bA.frz ⟨_,rfl,_,rfl,?_⟩
    show bA (dW ((ts.filter fun t=>!isN t).map W.str) none (some 6)) _ _
    rw[ey]
    refine qN (r ys ⟨yl,fun t hy=>?_⟩)
    obtain⟨a,b⟩:=Cv.mp (ym t hy)
    rcases ht t a with z | z
    ·exact lW z
    ·unfold isN at b;rw[decide_eq_true z.1] at b;cases b
theorem oM{x:W}{T:String}{τ:S3}{M:Mm}{R:K3}(h:lQ [x,.ty T] M R):aB (vC (.ty T)) aF τ M fun xs M2=>lQ (x :: xs) M2 R:=h
theorem zcU{ws:List W}{M:Mm}{R:List W->(Mm->Prop)->Mm->Prop}(h:R ws (fun _=>True) M):e6 (.tup ws) M R:=h
theorem zF{t:Str}(h:t∈NM):mQ t:=by
 have:∀ t∈NM,mQ t:=by unfold NM mQ;decide +kernel
 exact this t h
theorem zcV{L:List (List aE)}(h:∀ k∈L,∃ f:aY,k=fK f/\f.1∈NM):∀ w∈zbs L,Pl 1 w:=fun w hw=>by
 obtain⟨k,hk,rfl⟩:=Az.mp hw
 obtain⟨f,rfl,hf⟩:=h k hk
 intro z hz
 simp only[fK,Ay,Jo,Ax,Ej,or_false] at hz
 rcases hz with rfl | rfl | rfl
 ·exact zF hf
 ·trivial
 ·trivial
theorem e8.good{rs:List aW}(g:e8 rs):xE rs:=by
 refine⟨g.ne,Bc g.few (by decide),rs.map aW.name,W3,by rw[Ab];exact Bc g.few (by decide),fun t ht=>?_,fun t ht=>?_,fun r hr=>⟨Fx hr,fun t ht=>(g.prt r hr t ht).imp id fun z=>Az.mpr z.2,g.fp r hr,g.lo r hr,g.hi r hr⟩,fun t ht=>Az.mp ht⟩
 ·obtain⟨r,hr,rfl⟩:=Az.mp ht
  have key:∀ t∈NM,t.length<=20/\jQ t=true/\(cs t).head?.any (fun c=>decide (c∈cs lD))=true/\∀ c∈cs t,c < 128:=by decide +kernel
  obtain⟨k1,k2,k3,k4⟩:=key _ (g.nm r hr)
  refine⟨k1,k2,?_,k4⟩
  cases e:cs r.name with
  | nil=>rw[e] at k3;cases k3
  | cons c l=>rw[e] at k3;exact⟨c,l,rfl,of_decide_eq_true k3⟩
 ·have key:∀ t∈W3,t.length<=20/\cs t≠[]/\∀ c∈cs t,c∈cs pA:=by decide +kernel
  obtain⟨k1,k2,k3⟩:=key _ ht
  exact⟨k1,k2,k3⟩
theorem zcW{rs:List aW}(g:e8 rs):∀ w∈rs.map cY,Pl 2 w:=fun w hw=>by
 obtain⟨q,hq,rfl⟩:=Az.mp hw
 intro z hz
 simp only[Ax,Ej,or_false] at hz
 rcases hz with rfl | rfl | rfl
 ·exact zF (g.nm q hq)
 ·intro y hy
  obtain⟨t,ht,rfl⟩:=Az.mp hy
  have w3:∀ t∈W3,mQ t:=by unfold W3 mQ;decide +kernel
  exact(g.prt q hq t ht).elim (w3 t) fun z=>zF z.1
 ·trivial
end Rg
namespace L3
open PySem PySem.Spec PyProof.Rows L2
section
variable {X:Cx}
def J0:R3:=fun x y M R=>∃ ws n,jU M y ws/\n<=60/\Pl n x/\(∀ w∈ws,Pl n w)/\∀ b:Bool,(b=true↔x∈ws)->R (.bl b) M
theorem zcX(hu:X.A.units + 64 < Fn):bG X (Bw .In) (cE X.K J0):=by
 rintro pins s σ H x y v u Q I rx ry ⟨wx,wy,M,R,am,ax,ay,⟨ws,n,e,hn,px,pw,r⟩,k⟩
 obtain⟨l,vs,rfl,f,q⟩:=kL am ay e
 cases ry
 obtain⟨its,rv,pl,_⟩:=I.list (bF.of f)
 obtain⟨dx,sx,cx,dd⟩:=wX (M:=M) px
 obtain⟨as,ra⟩:=sx.reads I am ax rx
 have key:∀ i w,ws[i]? = some w->∃ u,its[i]? = some u/\Nq X.A.in1 s u v (@decide (∃ d as,Reads s.heap u d as/\Gf d dx=true) (Fo _))/\((∃ d as,Reads s.heap u d as/\Gf d dx=true)↔w=wx):=fun i w hw=>by
  obtain⟨z,hz,av⟩:=q.getW hw
  obtain⟨u,hv,ru⟩:=rv.get hz
  have hp:=pw w (An hw)
  obtain⟨d,sd,c,dn⟩:=wX (M:=M) hp
  obtain⟨bs,rb⟩:=sd.reads I am av ru
  have e0:=GG hp px sd sx
  have iff:(∃ d as,Reads s.heap u d as/\Gf d dx=true)↔w=wx:=⟨fun⟨d',as',r',e⟩=>e0.mp (by rw[SeqAt.Reads.unique d d' u bs as' c rb r'];exact e),fun e=>⟨d,bs,rb,e0.mpr e⟩⟩
  refine⟨u,hv,?_,iff⟩
  rw[show @decide _ (Fo _)=Gf d dx by rw[Eu,@decide_eq_true_eq _ (Fo _),iff,e0]]
  refine SeqAt.eqAt_reads d dx X.A.in1 s u v _ _ rb ra c cx (Kz ?_ hu)
  exact(Nat.add_assoc X.A.units 1 _).symm ▸ Hb (Bc (Hb (Bc (Hm _ _) (Bc dn hn)) 1) (by decide:1 + 60<=64)) _
 have at_:∀ u∈its.toArray,∃ w∈ws,Nq X.A.in1 s u v (@decide (∃ d as,Reads s.heap u d as/\Gf d dx=true) (Fo _))/\((∃ d as,Reads s.heap u d as/\Gf d dx=true)↔w=wx):=fun u hm=>by
  obtain⟨i,hi⟩:=Jv.mp (List.mem_toArray.mp hm)
  have hw:=Ak (l:=ws) (i:=i) (by rw[<-q.length,rv.length];exact(Ai.mp hi).1)
  obtain⟨u2,hu2,x1,x2⟩:=key i _ hw
  cases hi.symm.trans hu2
  exact⟨_,An hw,x1,x2⟩
 refine SeqAt.in_listAt _ pl.isList (fun u hm=>(at_ u hm).elim fun w h=>h.2.1) ⟨.bl _,H,I,rfl,k.at am (.bl _) (r _ ?_)⟩
 rw[Array.any_eq_true']
 constructor
 ·rintro⟨u,hm,hd⟩
  obtain⟨w,hw,_,iff⟩:=at_ u hm
  rw[<-iff.mp (@of_decide_eq_true _ (Fo _) hd)]
  exact hw
 ·intro hx
  obtain⟨i,hi⟩:=Jv.mp hx
  obtain⟨u,hu2,_,iff⟩:=key i wx hi
  exact⟨u,List.mem_toArray.mpr (An hu2),@decide_eq_true _ (Fo _) (iff.mpr rfl)⟩
end
section
variable {X:Cx}{pos:Pos}{a b:Expr}{ta tb te:aX}
theorem dN{i:Nat}{x:Str}(hN:X.N.Nodup)(hi:X.N[i]? = some x:=by rfl)(hx:Loc X.env.scope x:=by first | exact Or.inl rfl | exact Or.inr rfl)(hf:X.fn x=true\/X.env.scope.names.lookup x=some .local:=by first | exact .inl rfl | exact .inr rfl | assumption):PG X (.Name x pos) (gR X.K (bP i)):=FQ hN hi hx hf
theorem f9{i:Nat}{x:Str}(hi:X.N[i]? = some x:=by rfl)(hx:Loc X.env.scope x:=by first | exact Or.inl rfl | exact Or.inr rfl)(hN:X.N.Nodup:=by exact of_decide_eq_true (by kernel_rfl))(hf:X.fn x=true\/X.env.scope.names.lookup x=some .local:=by first | exact .inl rfl | exact .inr rfl | assumption):PG X (.Name x pos) (gR X.K (bP i)):=FQ hN hi hx hf
theorem bL{i:Nat}{x:Str}{e:Expr}{pos':Pos}(hN:X.N.Nodup)(he:E3 X e te)(hi:X.N[i]? = some x:=by rfl)(hx:Loc X.env.scope x:=by first | exact Or.inl rfl | exact Or.inr rfl)(hs:Js e (some (.Name x pos')) pos.line X.env=pure false:=by rfl)(hf:X.fn x=true\/X.env.scope.names.lookup x=some .local:=by first | exact .inl rfl | exact .inr rfl | assumption) :
  P3 X (.Assign [.Name x pos'] e pos) (bE i te):=UB hN hi hx he hs hf
theorem iV{op:CmpOp}{r:R3}(ho:bG X (Bw op) (cE X.K r))(ha:E3 X a ta)(hb:E3 X b tb)(hm:Hy op b=false:=by first | exact DA _ | with_unfolding_all rfl):E3 X (.Compare a [op] [b] pos) (aD r ta tb):=SQ ho ha hb hm
theorem cQ{op:CmpOp}{r:R3}(ho:bG X (Bw op) (cE X.K r))(ha:E3 X a ta)(hb:E3 X b tb)(hm:Hy op b=false:=by first | exact DA _ | with_unfolding_all rfl):T3 X (.Compare a [op] [b] pos) (cD (aD r ta tb)):=SU ho ha hb hm
variable {tg iter elt:Expr}{ifs:List Expr}{sc:Jm}{wi:gS}{g:eS}{tt:dS}
theorem uJ{i:Nat}{x:Str}{px spos:Pos}(hN:X.N.Nodup)(N':List Str)(js:List (Option Nat))(hi:PI X tg iter (gE X.K wi))
  (hg:∀ B,PG (dR X sc N' B) tg (gR X.K g)) (ht:∀ B,hZ (dR X sc N' B) ifs (jR X.K tt)) (he:∀ B,PE (dR X sc N' B) elt (up X.K te)) (hi0:X.N[i]? = some x:=by rfl) (hx:Loc X.env.scope x:=by first | exact Or.inl rfl | exact Or.inr rfl)
  (S0:mG N' sc X.env.scope=true:=by kernel_rfl) (hj:e9 N' X.N sc js N'=true:=by kernel_rfl) (hc:X.calm=true:=by rfl) (hsw:Js (.ListComp elt [⟨tg,iter,ifs,0⟩] sc pos) (some (.Name x px)) spos.line X.env=pure true:=by rfl)
  (hf:X.fn x=true\/X.env.scope.names.lookup x=some .local:=by first | exact .inl rfl | exact .inr rfl | assumption)
  (hs:∀ x,Gy iter X.env x=pure x:=by intro _;rfl):P3 X (.Assign [.Name x px] (.ListComp elt [⟨tg,iter,ifs,0⟩] sc pos) spos) (bE i (dB (fH wi g tt te js))):=UT hN hi0 hx N' js hi hg ht he S0 hj hc hsw hf hs
end
theorem b6{N ps:List Str}{sc:Jm}(a:sc.kind=.function:=by rfl)(b:sc.isCoroutine=false:=by rfl)(c:sc.isGenerator=false:=by rfl)(d:N.Nodup:=by decide +kernel)(e:N.take ps.length=ps:=by rfl)(f:∀ x∈ps,sc.names.lookup x=some .local\/sc.names.lookup x=some .cell:=by decide +kernel)(g:∀ y∈sc.names,y.2≠.free:=by decide +kernel):nG N ps sc:=⟨a,b,c,d,e,f,g⟩
theorem zcY{C:List Ae->Prop}(h:C [])(us:List Ae)(e:us.length=0):C us:=by rw[Jj.mp e];exact h
theorem oN{C:List Ae->Prop}{n:Nat}(k:∀ a us,us.length=n->C (a :: us)):∀ us:List Ae,us.length=n + 1->C us
 | a :: l,e=>k a l (Nat.succ.inj e)
theorem uK{C:List Ae->Prop}(h:∀ a,C [a]):∀ us:List Ae,us.length=1->C us:=oN fun a=>zcY (h a)
theorem uL{C:List Ae->Prop}(h:∀ a b,C [a,b]):∀ us:List Ae,us.length=2->C us:=oN fun a=>uK (h a)
theorem uM{C:List Ae->Prop}(h:∀ a b c,C [a,b,c]):∀ us:List Ae,us.length=3->C us:=oN fun a=>uL (h a)
theorem uN{C:List Ae->Prop}(h:∀ a b c d,C [a,b,c,d]):∀ us:List Ae,us.length=4->C us:=oN fun a=>uM (h a)
theorem uO{C:List Ae->Prop}(h:∀ a b c d e,C [a,b,c,d,e]):∀ us:List Ae,us.length=5->C us:=oN fun a=>uN (h a)
theorem zcZ{C:List Ae->Prop}(h:∀ a b c d e f,C [a,b,c,d,e,f]):∀ us:List Ae,us.length=6->C us:=oN fun a=>uO (h a)
def zG(x q:Str)(st:Stmt)(ps:List Str):Prop:=∀ (kV doc pm:Ae) (an:Option Addr) (cdv ct:Ae) (us:List Ae),us.length=ps.length->bindArgs (Ep x q (iB st) (gL st) (eQ st) .none kV doc pm an cdv ct) ⟨us,[]⟩=pure (ps.zip us)
section
variable {K:Ac}{mg:Str->Option Ae}{h:Heap}{x q:Str}{st:Stmt}{C f:Addr}{ps:List Str}{an:Option Addr}{kV doc pm cdv ct:Ae}
theorem dF(X:K.In h)(G:h.Ns Eb mg)(hb:zG x x st ps:=by first | exact fun _ _ _ _ _ _=>uK fun _=>rfl | exact fun _ _ _ _ _ _=>uL fun _ _=>rfl | exact fun _ _ _ _ _ _=>uM fun _ _ _=>rfl | exact fun _ _ _ _ _ _=>uN fun _ _ _ _=>rfl | exact fun _ _ _ _ _ _=>uO fun _ _ _ _ _=>rfl | exact fun _ _ _ _ _ _=>zcZ fun _ _ _ _ _ _=>rfl)(n:PySem.W.nsIn K Eb x=some (some (.ref f)):=by kernel_rfl)(l:K.lookup f=some ⟨.type "function",none,.func (Ep x x (iB st) (gL st) (eQ st) .none kV doc pm an cdv ct),#[]⟩:=by kernel_rfl)(c:Jg K cdv x=true:=by kernel_rfl)(k:Ex K (.ref f)=true:=by kernel_rfl):Df K mg x st ps f (Ep x x (iB st) (gL st) (eQ st) .none kV doc pm an cdv ct):=⟨nI l c k,Jt X G n,(nI l c k).binds hb⟩
theorem dM(hb:zG x q st ps:=by first | exact fun _ _ _ _ _ _=>uK fun _=>rfl | exact fun _ _ _ _ _ _=>uL fun _ _=>rfl | exact fun _ _ _ _ _ _=>uM fun _ _ _=>rfl | exact fun _ _ _ _ _ _=>uN fun _ _ _ _=>rfl | exact fun _ _ _ _ _ _=>uO fun _ _ _ _ _=>rfl)(a:Cf K (.ref C) x=some (some (.ref f)):=by kernel_rfl)(n:Lm K (.ref f)=true:=by kernel_rfl)(l:K.lookup f=some ⟨.type "function",none,.func (Ep x q (iB st) (gL st) (eQ st) .none kV doc pm an cdv ct),#[]⟩:=by kernel_rfl)(c:Jg K cdv q=true:=by kernel_rfl)(k:Ex K (.ref f)=true:=by kernel_rfl):Dm K C x q st ps f (Ep x q (iB st) (gL st) (eQ st) .none kV doc pm an cdv ct):=⟨nI l c k,⟨a,n,k⟩,(nI l c k).binds hb⟩
theorem dI(hb:zG x q st ps:=by first | exact fun _ _ _ _ _ _=>uK fun _=>rfl | exact fun _ _ _ _ _ _=>uL fun _ _=>rfl | exact fun _ _ _ _ _ _=>uM fun _ _ _=>rfl | exact fun _ _ _ _ _ _=>uN fun _ _ _ _=>rfl | exact fun _ _ _ _ _ _=>uO fun _ _ _ _ _=>rfl)(m:PySem.W.makesIn K C=true:=by kernel_rfl)(a:Cf K (.ref C) "__init__" = some (some (.ref f)):=by kernel_rfl)(n:Lm K (.ref f)=true:=by kernel_rfl)(d:Ex K (.ref C)=true:=by kernel_rfl)(l:K.lookup f=some ⟨.type "function",none,.func (Ep x q (iB st) (gL st) (eQ st) .none kV doc pm an cdv ct),#[]⟩:=by kernel_rfl)(c:Jg K cdv q=true:=by kernel_rfl)(k:Ex K (.ref f)=true:=by kernel_rfl):Di K C x q st ps f (Ep x q (iB st) (gL st) (eQ st) .none kV doc pm an cdv ct):=⟨nI l c k,⟨m,a,n,d⟩,(nI l c k).binds hb⟩
variable {P:Bo}{w:Ce}{base:Heap}{fd:Bk}{N:List Str}{k:Nat}{sp:bK}{rd:aJ}
theorem cA(P:Bo)(w:Ce)(mg:Str->Option Ae)(base:Heap)(k:Nat)(F:jO K x q st f fd)(_:Binds K fd ps [])(S:nG N ps (eQ st))(len:∀ ws M R,sp ws M R->ws.length=ps.length)(good:∀ {ws M R},sp ws M R->rd (bU R) (bX N ws) M)
  (tm:∀ {cdv:Ae} {A:Ck} {outer:List Env} {s:Ah} {H:Hp} {E:XK},cM k (A.deeper (Lz q (eQ st) s.heap.objs.size f cdv))->(A.deeper (Lz q (eQ st) s.heap.objs.size f cdv)).units + 1 < Fn->N.Nodup->jV (k7 fD P w K mg base N q (eQ st) f cdv A outer s H E).nox (gL st) rd):eC P w K mg base fD (k + 1) f fd ps (fR K sp):=
 wR F S len fun _ _ _ _ _ _ _ _ _ hr h=>⟨rd,tm hr (Q9 hr) S.nd,good h⟩
end
section
variable {X:Cx}{pos p:Pos}{x:Str}{st:Stmt}{e:Expr}{es:List Expr}{t:cZ}{k j:Nat}{f:Addr}{fd:Bk}{ps:List Str}{sp:bK}
theorem b9(F:eC X.prog X.w X.K X.mg X.base fD k f fd ps (fR X.K sp))(D:Df X.K X.mg x st ps f fd)(hr:cM j X.A)(ha:A3 X (e :: es) t)(hj:k<=j:=by decide)(hg:Gl X x:=by rfl)(hdb:(x == ("__debug__" : Str))=false:=by decide)(he:Bh (e :: es) X.env=(false,eval e X.env) :: Bh es X.env:=by rfl)(hpl:(Hf pos (Bh es X.env)).any (·.1)=false:=by rfl) :
  E3 X (.Call (.Name x p) (e :: es) [] pos) (bQ sp t):=mH F (hr.mono hj) hg D.at_ D.fn.kp D.bi ha hdb he hpl
end
end L3
namespace L2
open PySem PySem.Spec PyProof.Rows
section
variable {X:Cx}
def zc0(tk tv:TE):TE:=fun σ H Q=>∀ p,H p=none->vB [(tk,tv)] σ (aQ H p (.dT [])) fun ps H2=>∃ (b:Addr) (y:V) (k:List aE),ps=[(.ref b,y)]/\H2 p=some (.dT [])/\H2 b=some (.tup (k.map kV))/\Q (.ref p) (aQ H2 p (.dT [(k,y)]))
theorem zc1{k v:Expr}{tk tv:TE}{pos:Pos}(hu:X.A.units + 1 < Fn)(hk:PE X k tk)(hv:PE X v tv):PE X (.Dict [some k] [v] pos) (zc0 tk tv):=by
 intro pins s σ H Q I q
 have hn:=I.hok.fresh (Aj s.heap.objs.size)
 have I1:=I.laid (a:=s.heap.objs.size) (o:=.dT []) (h':=s.heap.push {cls:=.type "dict",data:=.dict #[]}) (t':=s.toks) (fun _ _ q=>Af _ q) (Aj _) (D6 s.heap I.big)
 refine wpAny_Dict_any rfl rfl (fun h=>nomatch h) (by decide:1<=15) (a9 (Q3 hk hv Q2 pins _ σ _ _ I1 (q _ hn)) fun ws s2 ⟨ps,H2,I2,rel,b,y,k,ep,e,eb,q2⟩=>?_)
 subst ep
 cases rel with
 | @cons a1 b1 _ _ r1 r2=>
  cases r2
  obtain⟨u1,u2⟩:=b1
  obtain⟨ru,rv⟩:=r1
  cases (show u1=Value.ref b from ru)
  obtain⟨z,hd,xs,rel,dd⟩:=rL I2.hok e
  cases rel
  unfold storeAll
  rw[Mc]
  refine Aa (Aa (wpAny_dictSet_heap (hsz:=Ci _) (Nat.lt_of_succ_lt hu) (iY I2.hok eb) dd fun h' dd' hs=>Ag ?_))
  show Ba _ _ (pure PUnit.unit) _ _ _
  refine Ag ⟨.ref _,_,?_,rfl,q2⟩
  obtain⟨q,es,ep,hq,h2,h3,h4,_,h5⟩:=dd'
  refine oZ I2 (by rw[e];exact True.intro) hs ⟨q,hq⟩ ⟨show 1<=Am by decide,hd,_,((show KT H2 [] [] from .nil).put k eb rv).keeps fun c ys ec=>?_,q,es,ep,hq,h2,h3,h4,h5⟩
  rw[bH (qT ec e (fun z=>nomatch z))]
  exact ec
end
end L2
namespace L3
open PySem PySem.Spec PyProof.Rows L2
section
variable {X:Cx}{a b:Expr}{ta tb:aX}{pos p:Pos}
def J1(ta tb:aX):aX:=fun τ M R=>∀ p,M p=none->ta τ (put M p (.dT [])) fun x M1=>tb τ M1 fun y M2=>M2 p=some (.dT [])/\∃ k:List aE,x=.tup (k.map wK)/\R (.ref p) (put M2 p (.dT [(k,y)]))
theorem zc2(hu:X.A.units + 1 < Fn)(ha:E3 X a ta)(hb:E3 X b tb):E3 X (.Dict [some a] [b] pos) (J1 ta tb):=
 (zc1 hu ha hb).weak fun σ H Q z0=>z0.el fun τ M R as am h k=>fun p hp=>by
  obtain⟨am0,k0⟩:=am.laid (o:=.dT []) (u:=.dT []) hp ⟨[],cU,.nil⟩
  refine⟨τ,_,_,as.kp am k0,am0,h p (am.nonM hp),fun x H1 wx M1 k1 am1 ax h1=>⟨τ,M1,_,(as.kp am k0).kp am0 k1,am1,h1,fun y H2 wy M2 k2 am2 ay ⟨e,kk,ex,r⟩=>?_⟩⟩
  subst ex
  obtain⟨ks,f,q⟩:=am2 _ _ e
  cases q
  have ax2:=ax.kp am1 k2
  exact ax2.tupE fun c xs ec fc qc=>by
   obtain⟨am3,k3⟩:=am2.write (o:=.dT [(kk,wy)]) (u:=.dT [(kk,y)]) e ⟨_,cU,.cons ⟨rfl,ay.wr am2 e⟩ .nil⟩
   exact⟨c,y,kk,by rw[ec],f,by rw[<-qc.keys];exact fc,k _ _ _ _ (((k0.trans k1).trans k2).trans k3) am3 (.ref _) r⟩
variable {x:Str}{e:Expr}{es:List Expr}{t:cZ}{k j i:Nat}{f:Addr}{fd:Bk}{ps:List Str}{sp:bK}
def zH(i:Nat)(f:Addr)(sp:bK)(t:cZ):aX:=fun τ M R=>τ[i]? = some (some (.ref f))/\bQ sp t τ M R
theorem J2{g:Addr}(ef:g=f)(F:eC X.prog X.w X.K X.mg X.base fD k f fd ps (fR X.K sp))(hr:cM j X.A)(hk:Ex X.K (.ref f)=true)(hb:Binds X.K fd ps [])(ha:A3 X (e :: es) t)(hj:k<=j:=by decide)(hN:X.N[i]? = some x:=by rfl)(hv:qV X.env.scope x:=by first | exact Or.inl rfl | exact Or.inr (Or.inl rfl) | exact Or.inr (Or.inr rfl))(hd:(x == ("__debug__" : Str))=false:=by decide)
  (hcd:(x == ("__classdict__" : Str))=false:=by decide) (he:Bh (e :: es) X.env=(false,eval e X.env) :: Bh es X.env:=by rfl) (hpl:(Hf pos (Bh es X.env)).any (·.1)=false:=by rfl) :
  E3 X (.Call (.Name x p) (e :: es) [] pos) (zH i g sp t):=by
 subst ef
 intro pins s σ H Q I ⟨τ,M,R,as,am,⟨h1,h⟩,k'⟩
 have gc:=E1 (K:=X.K) ⟨τ,M,R,as,am,h,k'⟩
 obtain⟨v,e1,av⟩:=as.get h1
 refine El (a9 (CZ (pos:=p) hN hv hd hcd pins s σ H (fun w H'=>w=.ref g/\H'=H) I ⟨v,e1,av.inv,rfl⟩) fun u s1 ⟨w,H1,I1,r1,ew,eH⟩=>?_)
 subst ew eH
 cases r1
 exact Kn (h₀:=X.base) I1.ok.mod.kin hk (a9 (ha pos pins s1 σ H1 _ I1 gc) fun us s2 ⟨vs,H2,I2,r,q⟩=>⟨I2.kIn,rF F (hr.mono hj) hb .nil nH I2 r q⟩) he hpl
theorem J3{g f:Addr}{fd:Bk}{ps:List Str}{x:Str}{pos:Pos}{st:Stmt}(ef:g=f)(D:Df X.K X.mg x st ps f fd)(hg:Gl X x:=by rfl)(hd:(x == ("__debug__" : Str))=false:=by decide):E3 X (.Name x pos) (vC (.ref g)):=by
 subst ef
 exact vT (y:=.ref g) hg D.at_ rfl (fun _ _=>.ref _) hd
end
end L3
namespace PySem
namespace Et
open PyProof.Rows L2 PySem.Spec
section
variable {prog:Bo}{w:Ce}{A:Ck}{E:Ae->Ah->Prop}{s:Ah}
theorem draws(hh:A.handled=none)(it l:Addr)(hne:l≠it)(items:Array Ae):Draws prog w A it [it,l] items.size (fun i v=>items[i]? = some v) (fun i h=>h.IsTupleIter it l i/\h.IsTuple l items) where
 live:=fun _ _ st=>let ⟨o,ho,_⟩:=st.1;⟨o,ho⟩
 frame:=fun k h h' st hk=>(Zt.side_tuple (prog:=prog) (w:=w) it l hne items).keep k h h' st fun c hc o e=>hk c (by rcases hc with rfl | rfl <;> simp) o e
 item:=fun i s Q E hi st hQ=>(Zt.side_tuple it l hne items).item A E s i items[i] Q st (by simp[hi]) fun h' a b=>hQ _ h' s.toks (by simp[hi]) a b
 done:=fun s Q E st hE=>(Zt.side_tuple it l hne items).stop A E s _ Q hh st (by simp) hE
theorem meets_new(l:Addr)(items:Array Ae)(n:Nat)(dct:Option Addr)(sl:Array (Option Ae)) :
  Meets (Ha.«enumerate.__new__» ⟨[.type "enumerate",.ref l],[]⟩) (fun _ R s=>s.heap.get? l=some {cls:=.type "tuple",dict:=dct,data:=.seq items n,slots:=sl}/\
   R (.ok (.ret (.ref (s.heap.push {cls:=.type "tuple_iterator",data:=.fields #[.ref l,.int 0 0]}).objs.size)))
    {s with heap:=(s.heap.push {cls:=.type "tuple_iterator",data:=.fields #[.ref l,.int 0 0]}).push {cls:=.type "enumerate",data:=.fields #[.none,.bool false,.ref s.heap.objs.size,Fs 0,.none,.none]}}):=
 .of_wp fun prog w A R s h=>by
  obtain⟨hp,g,d,tk,os⟩:=s;obtain⟨hl,h⟩:=h
  have hsub:=sub_enumerate
  have hL:Heap.IsTuple (Shared.heap ⟨hp,g,d,tk,os⟩) l items:=⟨_,hl,rfl,n,rfl⟩
  wp_walk using Il hl
  refine wpAny_stack_any fun st=>Ag ?_
  split
  ·rename_i c _ _ _ _ _
   cases (c == Value.type "enumerate")
   ·wp_walk using Il hl,Hr hL
    exact⟨_,rfl,h⟩
   ·wp_walk using Il hl,Hr hL
    exact⟨_,rfl,h⟩
  ·wp_walk using Il hl,Hr hL
   exact⟨_,rfl,h⟩
theorem call_new{l:Addr}{items:Array Ae}{Q:Ae->Ah->Prop}(hL:s.heap.IsTuple l items)
  (h:∀ h',IsEnum h' (s.heap.objs.size + 1) s.heap.objs.size 0 .none->h'.IsTupleIter s.heap.objs.size l 0->(∀ b o,s.heap.get? b=some o->h'.get? b=some o)->Q (.ref (s.heap.objs.size + 1)) {s with heap:=h'}) :
  Ba (Bj prog w) A (call (.type "enumerate") [.ref l]) Q E s:=by
 obtain⟨⟨c,dct,dt,sl⟩,hl,hc,n,hd⟩:=hL
 cases (show c=.type "tuple" from hc)
 cases (show dt=.seq items n from hd)
 refine callType_new F.called_enumerate (by decide) (F.typeCall_enumerate_1 _) (F.newCall_enumerate_1 _) (fun obj=>F.args_object_init_2 obj _) F.entry_enumerate_new (meets_new l items n dct sl) ⟨hl,?_⟩
 have hz:(s.heap.push {cls:=.type "tuple_iterator",data:=.fields #[.ref l,.int 0 0]}).objs.size=s.heap.objs.size + 1:=Cz ..
 show _/\_
 rw[hz]
 have he:IsEnum ((s.heap.push {cls:=.type "tuple_iterator",data:=.fields #[.ref l,.int 0 0]}).push {cls:=.type "enumerate",data:=.fields #[.none,.bool false,.ref s.heap.objs.size,Fs 0,.none,.none]}) (s.heap.objs.size + 1) s.heap.objs.size 0 .none:=by
  have:=Au (s.heap.push {cls:=.type "tuple_iterator",data:=.fields #[.ref l,.int 0 0]}) (o:={cls:=.type "enumerate",data:=.fields #[.none,.bool false,.ref s.heap.objs.size,Fs 0,.none,.none]}) rfl
  rw[hz] at this;exact this
 exact⟨⟨_,he,rfl⟩,h _ he ⟨_,Af _ (Au _ rfl),rfl,rfl⟩ fun b o x=>Af _ (Af _ x)⟩
end
end Et
end PySem
namespace L2
open PySem PySem.Spec PyProof.Rows
section
variable {X:Cx}
def J4(K:Ac)(a:Addr)(xs:List V):It:=
 ⟨fun i H=>bN K H a xs/\i < xs.length,
   fun i H x H'=>∃ p u,xs[i]? = some u/\H p=none/\x=.ref p/\H'=aQ H p (.tup [.int (i:Nat),u]),
   fun i H=>bN K H a xs/\i=xs.length⟩
theorem zc3{P:Bo}{w:Ce}{K:Ac}{es:List Expr}{kx:Nat}{px:Pos}(a e it:Addr)(xs:List V)(hne:e≠it)(hea:e≠a)(hia:a≠it) :
  iX P w K (.Tuple es kx px) (J4 K a xs) [e,it] e (fun i h=>(∃ old,IsEnum h e it (i:Nat) old)/\h.IsTupleIter it a i) where
 mem:=by simp
 obj:=fun i h st c hc=>by
  obtain⟨⟨old,h1⟩,⟨o4,h4,_,h4d⟩⟩:=st
  simp only[Ax,Cp,or_false] at hc
  rcases hc with rfl | rfl
  ·exact⟨_,h1,fun v q=>by cases q⟩
  ·exact⟨_,h4,fun v q=>by rw[h4d] at q;cases q⟩
 keep:=fun i h h' st k=>by
  obtain⟨⟨old,h1⟩,⟨o4,h4,r4⟩⟩:=st
  exact⟨⟨old,k e (by simp) _ h1⟩,⟨o4,k it (by simp) _ h4,r4⟩⟩
 item:=by
  intro X hP hw hK hc i pins s σ H E I hf st hg
  subst hP hw hK
  obtain⟨⟨old,h1⟩,h4⟩:=st
  obtain⟨hqa,hi⟩:=hg
  obtain⟨its,rv,pl,hz⟩:=I.tuple hqa
  obtain⟨u,hu,ru⟩:=rv.get (Ak hi)
  have hl:=rv.length
  refine wpAny_pyNext_enum_itemD (Et.draws (A:=X.A.in1) (I.ok.hd hc) it a hia its.toArray) h1 ⟨h4,pl⟩ (by simp;lia) hne (by simp[hne,hea]) fun x h' tk hx a1 a2 a3 a4 hk=>?_
  have ex:x=u:=by
   have hx:its.toArray[i]? = some x:=hx
   rw[Mf,hu] at hx
   exact(Cr hx).symm
  subst ex
  refine⟨_,rfl,wpAny_letOwnedTupleGo_enum a1 fun h'' e' sb=>?_⟩
  have hfr:H s.heap.objs.size=none:=I.hok.fresh (Aj _)
  have lte:e < s.heap.objs.size:=Ap h1
  have lti:it < s.heap.objs.size:=by obtain⟨_,q,_⟩:=h4;exact Ap q
  have keep2:∀ q o,q∉[e,it]->s.heap.get? q=some o->h''.get? q=some o:=fun q o hq eq=>by
   simp only[Ax,Cp,or_false,not_or] at hq
   exact(sb.2 q hq.1).trans (hk q o hq.1 hq.2 eq)
  have hp2:h''.get? s.heap.objs.size=some {cls:=.type "tuple",data:=.seq [.int (i:Nat) tk,x].toArray}:=(sb.2 _ (Ct lte)).trans a3
  have I1:Inv X pins σ (aQ H s.heap.objs.size (.tup [.int (i:Nat),xs[i]])) {s with heap:=h'',toks:=tk + 1}:=I.laidT (its:=[.int (i:Nat) tk,x]) hf keep2 (by show 2<=Am;decide) (.cons ⟨_,rfl⟩ (.cons ru .nil)) hp2
  refine⟨.ref s.heap.objs.size,_,I1,rfl,⟨s.heap.objs.size,xs[i],Ak hi,hfr,rfl,rfl⟩,⟨⟨x,by rw[Int.natCast_add];exact e'⟩,a2.1.extBut sb.extBut hne.symm⟩,fun q hq=>?_⟩
  rw[bH]
  ·exact(hf q hq).1
  ·intro eq
   subst eq
   simp only[Ax,Cp,or_false] at hq
   rcases hq with q | q
   ·exact Ct lte q
   ·exact Ct lti q
 done:=by
  intro X hP hw hK hc i pins s σ H E I hf st hg
  subst hP hw hK
  obtain⟨⟨old,h1⟩,h4⟩:=st
  obtain⟨hqa,rfl⟩:=hg
  obtain⟨its,rv,pl,hz⟩:=I.tuple hqa
  have l1:=rv.length
  refine wpAny_pyNext_enum_endD (Et.draws (A:=X.A.in1) (I.ok.hd hc) it a hia its.toArray) h1 (show Heap.IsTupleIter s.heap it a its.toArray.size/\Heap.IsTuple s.heap a its.toArray from⟨by rw[Bb,<-l1];exact h4,pl⟩) fun h' hk=>⟨rfl,?_⟩
  exact I.turnedT (tk:=s.toks) hf fun q o hq eq=>hk q o (fun z=>hq (by simp[z])) eq
 self:=fun _ _ _ _ _ st h=>by
  obtain⟨⟨old,h1⟩,_⟩:=st
  exact Lw h1 h
def zc4(K:Ac)(ta:TA):TI:=fun σ H R=>ta σ H fun vs H1=>∃ a xs,vs=[.ref a]/\bN K H1 a xs/\R (J4 K a xs) H1
theorem zc5{a:Expr}{ta:TA}{p pos:Pos}{es:List Expr}{kx:Nat}{px:Pos}(hg:Gl X "enumerate")(hm:X.mg "enumerate" = none)(ha:PA X [a] ta)(hs:Bh [a] X.env=[(false,eval a X.env)]:=by rfl) :
  PI X (.Tuple es kx px) (.Call (.Name "enumerate" p) [a] [] pos) (zc4 X.K ta):=by
 intro pins s σ H R I h
 refine Call_ (iC I hg hm boot_enumerate (Cu (a9 (ha pos pins s σ H _ I h) fun us s1 ⟨vs,H1,I1,r1,q1⟩=>?_) hs rfl))
 obtain⟨a,xs,rfl,hqa,q⟩:=q1
 obtain⟨u,rfl,ru⟩:=vals1 r1
 cases ru
 obtain⟨its,rv1,pl,hz⟩:=I1.tuple hqa
 have la:a < s1.heap.objs.size:=by obtain⟨o,e,_⟩:=pl;exact Ap e
 refine Et.call_new pl fun h' g1 g2 k=>?_
 refine Lw g1 ?_
 refine⟨s1.heap.objs.size + 1,[s1.heap.objs.size + 1,s1.heap.objs.size],_,_,H1,rfl,I1.kept (t':=s1.toks) k,zc3 a _ _ xs (rP 1 (by decide)) (Bp (Be (Gu la))) (Be la),⟨⟨_,g1⟩,g2⟩,fun q hq=>?_,q⟩
 have hge:s1.heap.objs.size<=q:=by
  simp only[Ax,Cp,or_false] at hq
  rcases hq with e | e
  ·rw[e];exact EO 1
  ·rw[e];exact Aj _
 exact I1.fpOk hge (I1.hok.fresh hge)
end
end L2
namespace L3
open PySem PySem.Spec PyProof.Rows L2
section
variable {X:Cx}{a:Expr}
def zJ(ta:cZ):gS:=fun τ M R=>ta τ M fun ws M1=>∃ zs,ws=[.tup zs]/\R (gF 0 zs) (fun _=>True) M1
theorem J5{tA:cZ}{p pos:Pos}{es:List Expr}{kx:Nat}{px:Pos}(hg:Gl X "enumerate")(hm:X.mg "enumerate" = none)(ha:A3 X [a] tA)(hs:Bh [a] X.env=[(false,eval a X.env)]:=by rfl):PI X (.Tuple es kx px) (.Call (.Name "enumerate" p) [a] [] pos) (gE X.K (zJ tA)):=
 (zc5 hg hm ha hs).weak fun σ H R' z0=>z0.el fun τ M R as am h k=>⟨τ,M,_,as,am,h,fun vs H1 ws M1 k1 am1 ax ⟨zs,ew,r⟩=>by
  subst ew
  obtain⟨v,rfl,av⟩:=ax.one
  exact av.tupE fun b xs eb fb qb=>⟨b,xs,by rw[eb],bN.of fb,k _ _ _ _ _ k1 am1 (by
   have st:∀ H M,Kp H1 M1 H M->AM X.K H M->bN X.K H b xs:=fun H M k _=>bN.of (k.fr _ _ (am1.noTup fb) fb).1
   refine⟨fun i H M k am kp hi=>⟨st H M k am,by rw[kQ] at hi;rw[qb.length];exact hi⟩,fun H M k am kp=>⟨st H M k am,by rw[kQ,qb.length]⟩,fun i H M x H' k am kp hi y=>?_⟩
   obtain⟨pp,u,hu,hn,rfl,rfl⟩:=y
   obtain⟨w,hw,av⟩:=(qb.kp am1 k).getV hu
   obtain⟨am2,k2⟩:=am.tup (u:=.tup [.int (i:Nat),u]) hn
   exact⟨.tup [.int ((i:Nat):Int),w],by rw[pX,hw];simp,k2,am2,.tup cU (.cons (.int _) (.cons (av.go (go_same hn)) .nil))⟩) r⟩⟩
end
end L3
namespace Rg
open PySem PySem.Spec PyProof.Rows L2 L3
def hW(q:aW)(row:List Str):aY:=(q.name,0,row.length)
def c9(f:aY):W:=.tup ((fK f).map wK)
def l0(own:Str->Bool)(ps:List Str)(cut:List Int):List aY:=ps.zipIdx.filterMap fun x=>if own x.1=true then some (x.1,cut.getD x.2 0,cut.getD (x.2 + 1) 0) else none
structure Wb(G:Sr)(B:bR):Prop where
 own:∀ t,G.own t=eP G.rs t
 few:G.rs.length<=100
 ord:uA G B
 bl:B.length<=1000
 pl:∀ r∈G.rs,r.parts.length<=100
abbrev nB(B:bR):W:=.ft (d6 fK f6 B)
def zK:bK:=fun ws M R=>∃ (q:aW) (rs:List aW) (row:List Str),ws=[cP (q :: rs),fL row]/\R (c9 (hW q row)) M
def zL:bK:=fun ws M R=>∃ (rs:List aW) (ps:List Str) (cut:List Int),ws=[.dk (ownOf rs),.tup (ps.map W.str),fT cut]/\cut.length=ps.length + 1/\ps.length<=100/\bA ((l0 (eP rs) ps cut).map c9) M R
def zM:bK:=fun ws M R=>∃ (G:Sr) (B:bR) (aP:aY),ws=[cP G.rs,nB B,c9 aP]/\Wb G B/\aP∈B.map (·.1)/\∀ p:aY->Bool,p aP=true->(∀ e∈B,p e.1=true->∀ f∈l0 G.own (kX G e.2.2.1) e.2.2.2,p f=true)->bA (((B.map (·.1)).filter p).map c9) M R
def zN:bK:=fun ws M R=>∃ (t:Str) (b e:Int),ws=[.str t,.int b,.int e]/\R (.str t) M
def zP:bK:=fun ws M R=>∃ (n:Nat) (p:Addr) (vs:List W),ws=[.int n,.ref p]/\M p=some (.lst vs)/\R (.tup [.int n,.tup vs]) M
def zQ(C:Cc):bK:=fun ws M R=>∃ (G:Sr) (B:bR) (aP:aY),ws=[cP G.rs,nB B,c9 aP,.ref C.f,.ref C.g]/\Wb G B/\aP∈B.map (·.1)/\R (iA G B aP) M
def zR(C:Cc):bK:=fun ws M R=>∃ (G:Sr) (B:bR) (aP:aY),ws=[cP G.rs,nB B,c9 aP]/\Wb G B/\aP∈B.map (·.1)/\R (iA G B aP) M
def uP(C:Cc):bK:=fun ws M R=>∃ (q:aW) (rs:List aW) (row:List Str),ws=[cP (q :: rs),fL row]/\e8 (q :: rs)/\Rw row/\∀ B,iT (dJ (q :: rs) row) B->(jH (q :: rs) row (hW q row)->R (iA (dJ (q :: rs) row) B (hW q row)) M)/\(¬ jH (q :: rs) row (hW q row)->R .non M)
def qP:Nat->bK
 | 0=>fun _ _ _=>False
 | d + 1=>fun ws M R=>∃ x,ws=[x]/\((∃ t,x=.str t)\/∃ (rs:List aW) (row:List Str) (B:bR) (f:aY),e8 rs/\Tr rs row B d f x)/\R (.int (mW d x)) M
abbrev qQ:bK:=qP 30
def zS:bK:=fun ws M R=>∃ (rs:List aW) (n:Nat) (r:aW) (kids:List W),ws=[cP rs,.str r.name,.tup [.int n,.tup kids]]/\rs.length<=100/\rs[n]? = some r/\kids.length=r.parts.length/\R (.bl true) M
def qR:Nat->bK
 | 0=>fun _ _ _=>False
 | d + 1=>fun ws M R=>∃ (rs:List aW) (row:List Str) (B:bR) (f:aY) (x:W) (ab:List aY),ws=[cP rs,fL row,.str f.1,x,.int f.2.1,.rl (ab.map c9)]/\e8 rs/\Rw row/\f.1∈NM/\d<=29/\Tr rs row B d f x/\(∀ a∈ab,a.1∈NM/\oF B f < oF B a)/\ab.length + d<=100/\R (.bl true) M
abbrev gA:bK:=qR 30
abbrev zc6:List Str:=["grammar","row"]
def zc7:aJ:=
   (bW (cS (aB (bQ xY (aB (aA 0) aF)) (aB (vC (.int 0)) (aB (bT cX (aB (aA 1) aF)) aF)))))
abbrev zc8:List Str:=["own","parts","cut"]
def zc9:aJ:=
   (bW (fH (zJ (aB (aA 1) aF)) (iN 2 (d9 (bP 0) (d9 (bP 1) iM))) (cD (aD (rIn false) (aA 1) (aA 2))) (cS (aB (aA 1) (aB (aD aN (aA 3) (aA 0)) (aB (aD aN (aA 3) (aD cF (aA 0) (vC (.int 1)))) aF)))) [none,none,some 0,some 2]))
abbrev zda:List Str:=["grammar","best","top","own","found","waiting","told","fact"]
def zdb:aJ:=
   (bE 3 (bQ qG (aB (dB (bQ n6 (aB (aA 0) aF))) aF)))
def zdc:aJ:=
   (bE 4 (J1 (aA 2) (vC (.bl true))))
def zdd:aJ:=
   (bE 5 (iJ (aB (aA 2) aF)))
def zde:aJ:=
   (aS (bE 6 (aD aN (aA 1) (rX "list" rPop (aA 5))))
   (eV (d8 e6 (dB (bQ zL (aB (aA 3) (aB (aD aN (aD aN (aA 0) (aD aN (aA 6) (vC (.int 1)))) (vC (.int 1))) (aB (aD aN (aA 6) (vC (.int 2))) aF)))))) (bP 7)
    (dD (cD (aD (rIn true) (aA 7) (aA 4)))
    (aS (jY (vC (.bl true)) (kP (aA 4) (aA 7)))
   (eA (eE "list" fG (aA 5) (aB (aA 7) aF))))
    eL)))
def zdf:aJ:=
   (pQ (fQ (aA 5)) zde)
def zdg:aJ:=
   (bW (fH (d8 yL (aA 1)) (bP 0) (cD (aD (rIn false) (aA 0) (aA 1))) (aA 0) [none,some 4]))
def zdh:aJ:=(aS zdb (aS zdc (aS zdd (aS zdf zdg))))
abbrev zdi:List Str:=["grammar","best","top","of_word","of_rule","own","made","fact","number","cut","values","k","part"]
def zdj(C:Cc):aJ:=
   (bE 5 (bQ qG (aB (dB (bQ n6 (aB (aA 0) aF))) aF)))
def zdk(C:Cc):aJ:=
   (bE 6 lM)
def zdl(C:Cc):aJ:=
   (aS (bE 8 (aD aN (aD aN (aA 1) (aA 7)) (vC (.int 1))))
   (aS (bE 9 (aD aN (aD aN (aA 1) (aA 7)) (vC (.int 2))))
   (aS (bE 10 (iJ aF))
   (aS (eV (zJ (aB (aD aN (aD aN (aA 0) (aA 8)) (vC (.int 1))) aF)) (iN 2 (d9 (bP 11) (d9 (bP 12) iM)))
    (dD (cD (aD (rIn false) (aA 12) (aA 5)))
    (eA (eE "list" fG (aA 10) (aB (aD aN (aA 6) (cS (aB (aA 12) (aB (aD aN (aA 9) (aA 11)) (aB (aD aN (aA 9) (aD cF (aA 11) (vC (.int 1)))) aF))))) aF)))
    (eA (eE "list" fG (aA 10) (aB (zH 3 C.f zN (aB (aA 12) (aB (aD aN (aA 9) (aA 11)) (aB (aD aN (aA 9) (aD cF (aA 11) (vC (.int 1)))) aF)))) aF)))))
   (jY (zH 4 C.g zP (aB (aA 8) (aB (aA 10) aF))) (kP (aA 6) (aA 7)))))))
def zdm(C:Cc):aJ:=
   (eV (d8 e6 (dB (bQ zM (aB (aA 0) (aB (aA 1) (aB (aA 2) aF)))))) (bP 7) (zdl C))
def zdn(C:Cc):aJ:=
   (bW (aD aN (aA 6) (aA 2)))
def zdo(C:Cc):aJ:=(aS (zdj C) (aS (zdk C) (aS (zdm C) (zdn C))))
abbrev zdp:List Str:=["word","begin","end"]
def zdq:aJ:=
   (bW (aA 0))
abbrev zdr:List Str:=["number","children"]
def zds:aJ:=
   (bW (cS (aB (aA 0) (aB (bT sF (aB (aA 1) aF)) aF))))
abbrev zdt:List Str:=["grammar","best","top"]
def zdu(C:Cc):aJ:=
   (bW (bQ (zQ C) (aB (aA 0) (aB (aA 1) (aB (aA 2) (aB (vC (.ref C.f)) (aB (vC (.ref C.g)) aF)))))))
abbrev zdv:List Str:=["grammar","row","best","top"]
def zdw(C:Cc):aJ:=
   (bE 2 (IL (bQ (yZ C) (aB (aA 0) (aB (aA 1) (aB (dB (bQ y0 (aB (aA 0) aF))) aF))))))
def zdx(C:Cc):aJ:=
   (bE 3 (bQ zK (aB (aA 0) (aB (aA 1) aF))))
def zdy(C:Cc):aJ:=
   (bW (EY (cD (aD (rIn false) (aA 3) (aA 2))) (bQ (zR C) (aB (aA 0) (aB (aA 2) (aB (aA 3) aF)))) (vC .non)))
def zdz(C:Cc):aJ:=(aS (zdw C) (aS (zdx C) (zdy C)))
abbrev J6:List Str:=["thing"]
def zdA(qQ:bK):aJ:=
   (aS (dD (fQ (bT lQ (aB (aA 0) (aB (vC (.ty "str")) aF))))
    (bW (vC (.int 1)))
    eL)
   (bW (bT GS (aB (dB (fH (d8 e6 (aD aN (aA 0) (vC (.int 1)))) (bP 0) iO (bQ qQ (aB (aA 0) aF)) [none])) aF))))
abbrev zdB:List Str:=["rules","part","knot"]
def zdC:aJ:=
   (dD (jS (iI (fQ (bT lQ (aB (aA 2) (aB (vC (.ty "tuple")) aF))))) (jS (cD (aD (rEq true) (bT cX (aB (aA 2) aF)) (vC (.int 2)))) (jS (iI (fQ (bT lQ (aB (aD aN (aA 2) (vC (.int 0))) (aB (vC (.ty "int")) aF))))) (fQ (bT lQ (aB (aD aN (aA 2) (vC (.int 0))) (aB (vC (.ty "bool")) aF)))))))
    (bW (vC (.bl false)))
    eL)
def zdD:aJ:=
   (dD (jS (iI (cD (sL v5 lH (vC (.int 0)) (aD aN (aA 2) (vC (.int 0))) (bT cX (aB (aA 0) aF))))) (jS (cD (aD (rEq true) (aD aN (aD aN (aA 0) (aD aN (aA 2) (vC (.int 0)))) (vC (.int 0))) (aA 1))) (iI (fQ (bT lQ (aB (aD aN (aA 2) (vC (.int 1))) (aB (vC (.ty "tuple")) aF)))))))
    (bW (vC (.bl false)))
    eL)
def zdE:aJ:=
   (bW (aD (rEq false) (bT cX (aB (aD aN (aA 2) (vC (.int 1))) aF)) (bT cX (aB (aD aN (aD aN (aA 0) (aD aN (aA 2) (vC (.int 0)))) (vC (.int 1))) aF))))
def zdF:aJ:=(aS zdC (aS zdD zdE))
abbrev J7:List Str:=["rules","row","part","knot","begin","above","place","own","one","child"]
def zdG(gA:bK):aJ:=
   (dD (iI (fQ (bQ zS (aB (aA 0) (aB (aA 2) (aB (aA 3) aF))))))
    (bW (vC (.bl false)))
    eL)
def zdH(gA:bK):aJ:=
   (bE 6 (aA 4))
def zdI(gA:bK):aJ:=
   (bE 7 (cS (aB (aA 2) (aB (aA 4) (aB (aD cF (aA 4) (bQ qQ (aB (aA 3) aF))) aF)))))
def zdJ(gA:bK):aJ:=
   (dD (cD (aD J0 (aA 7) (aA 5)))
    (bW (vC (.bl false)))
    eL)
def zdK(gA:bK):aJ:=
   (dD (iI (fQ (bQ oI (aB (aA 8) aF))))
    (aS (dD (jS (cD (aD (rEq true) (aA 9) (aA 8))) (jS (cD (aD v7 (aA 6) (bT cX (aB (aA 1) aF)))) (cD (aD (rEq true) (aD aN (aA 1) (aA 6)) (aA 8)))))
    (bW (vC (.bl false)))
    eL)
   (bE 6 (aD cF (aA 6) (vC (.int 1)))))
    (aS (dD (iI (fQ (bQ gA (aB (aA 0) (aB (aA 1) (aB (aA 8) (aB (aA 9) (aB (aA 6) (aB (aD cF (aA 5) (eW (aB (aA 7) aF))) aF)))))))))
    (bW (vC (.bl false)))
    eL)
   (bE 6 (aD cF (aA 6) (bQ qQ (aB (aA 9) aF))))))
def zdL(gA:bK):aJ:=
   (eV (w9 (aB (aD aN (aD aN (aA 0) (aD aN (aA 3) (vC (.int 0)))) (vC (.int 1))) (aB (aD aN (aA 3) (vC (.int 1))) aF))) (iN 2 (d9 (bP 8) (d9 (bP 9) iM))) (zdK gA))
def zdM(gA:bK):aJ:=
   (bW (vC (.bl true)))
def zdN(gA:bK):aJ:=(aS (zdG gA) (aS (zdH gA) (aS (zdI gA) (aS (zdJ gA) (aS (zdL gA) (zdM gA))))))
abbrev zdO:List Str:=["script","rules","row","grammar","holds","handed","found"]
def zdP(C:Cc):aJ:=
   (bE 1 (dB (bQ y7 (aB (aA 0) aF))))
def zdQ(C:Cc):aJ:=
   (bE 2 (dB (bQ y8 (aB (aA 0) (aB (aA 1) (aB (vC (.int 6)) aF))))))
def zdR(C:Cc):aJ:=
   (bE 3 (dB (bQ yA (aB (aA 1) aF))))
def zdS(C:Cc):aJ:=
   (bE 4 (aD (rIn false) (cS (aB (aD aN (aD aN (aA 1) (vC (.int 0))) (vC (.int 0))) (aB (vC (.int 0)) (aB (bT cX (aB (aA 2) aF)) aF)))) (dB (bQ zA (aB (aA 1) (aB (aA 2) aF))))))
def J8(C:Cc):aJ:=
   (bE 5 (eW (aB (bT sM (aB (aA 3) aF)) (aB (bT sM (aB (aA 2) aF)) aF))))
def zdT(C:Cc):aJ:=
   (bE 6 (bQ (uP C) (aB (aD aN (aA 5) (vC (.int 0))) (aB (aD aN (aA 5) (vC (.int 1))) aF))))
def zdU(C:Cc):aJ:=
   (dD (jS (cD (aD (rEq true) (aA 5) (eW (aB (aA 3) (aB (aA 2) aF))))) (cD (aD (rEq true) (bQ (uP C) (aB (aD aN (aA 5) (vC (.int 0))) (aB (aD aN (aA 5) (vC (.int 1))) aF))) (aA 6))))
    (bW (vC (.bl false)))
    eL)
def zdV(C:Cc):aJ:=
   (dD (iI (fQ (aA 4)))
    (bW (aD (v8 false) (aA 6) (vC .non)))
    eL)
def zdW(C:Cc):aJ:=
   (bW (pI (bQ gA (aB (aA 1) (aB (aA 2) (aB (aD aN (aD aN (aA 1) (vC (.int 0))) (vC (.int 0))) (aB (aA 6) (aB (vC (.int 0)) (aB (eW aF) aF))))))) (aD (rEq false) (bQ qQ (aB (aA 6) aF)) (bT cX (aB (aA 2) aF)))))
def zdX(C:Cc):aJ:=(aS (zdP C) (aS (zdQ C) (aS (zdR C) (aS (zdS C) (aS (J8 C) (aS (zdT C) (aS (zdU C) (aS (zdV C) (zdW C)))))))))
abbrev J9:bK:=pR
theorem zdY:∀ ws M R,zK ws M R->ws.length=2:=by rintro ws M R ⟨_,_,_,rfl,_⟩;rfl
theorem zdZ:∀ ws M R,zL ws M R->ws.length=3:=by rintro ws M R ⟨_,_,_,rfl,_⟩;rfl
theorem zd0:∀ ws M R,zM ws M R->ws.length=3:=by rintro ws M R ⟨_,_,_,rfl,_⟩;rfl
theorem zd1:∀ ws M R,zN ws M R->ws.length=3:=by rintro ws M R ⟨_,_,_,rfl,_⟩;rfl
theorem zd2:∀ ws M R,zP ws M R->ws.length=2:=by rintro ws M R ⟨_,_,_,rfl,_⟩;rfl
theorem zd3{C:Cc}:∀ ws M R,zQ C ws M R->ws.length=5:=by rintro ws M R ⟨_,_,_,rfl,_⟩;rfl
theorem zd4{C:Cc}:∀ ws M R,zR C ws M R->ws.length=3:=by rintro ws M R ⟨_,_,_,rfl,_⟩;rfl
theorem zd5{C:Cc}:∀ ws M R,uP C ws M R->ws.length=2:=by rintro ws M R ⟨_,_,_,rfl,_⟩;rfl
theorem zd6(n:Nat):∀ ws M R,qP n ws M R->ws.length=1:=by cases n <;> rintro ws M R ⟨_,rfl,_⟩;rfl
theorem zd7:∀ ws M R,zS ws M R->ws.length=3:=by rintro ws M R ⟨_,_,_,_,rfl,_⟩;rfl
theorem zd8(n:Nat):∀ ws M R,qR n ws M R->ws.length=6:=by cases n <;> rintro ws M R ⟨_,_,_,_,_,_,rfl,_⟩;rfl
theorem zd9:∀ ws M R,J9 ws M R->ws.length=1:=by rintro ws M R ⟨_,rfl,_⟩;rfl
theorem KA{rs:List aW}(h:rs.length<=100):(namesOf rs).length<=400:=by
 have h1:=sX (rs.map aW.name) []
 rw[Ab,List.length_nil,Jq] at h1
 exact Bc h1 (Bc h (by decide))
theorem uQ{cut:List Int}{k:Nat}(h:k < cut.length):cB (cut.map W.int) (k:Int)=some (.int (cut.getD k 0)):=iE (by rw[Av,Ef,Ak h];rfl)
theorem zea{ws:List W}{M:Mm}{R:K3}(h:zK ws M R):zc7 (bU R) (bX zc6 ws) M:=by
 obtain⟨q,rs,row,rfl,r⟩:=h
 refine⟨_,rfl,q,rs,rfl,_,rfl,z3,_,Sub.refl _,?_⟩
 rw[Ab]
 exact r
theorem zeb{ws:List W}{M:Mm}{R:K3}(h:zN ws M R):zdq (bU R) (bX zdp ws) M:=by
 obtain⟨t,b,e,rfl,r⟩:=h
 exact⟨_,rfl,_,Sub.refl _,r⟩
theorem zec{ws:List W}{M:Mm}{R:K3}(h:zP ws M R):zds (bU R) (bX zdr ws) M:=by
 obtain⟨n,p,vs,rfl,e,r⟩:=h
 exact⟨_,rfl,_,rfl,_,e,z2,_,Sub.refl _,r⟩
theorem zed{C:Cc}{ws:List W}{M:Mm}{R:K3}(h:zR C ws M R):zdu C (bU R) (bX zdt ws) M:=by
 obtain⟨G,B,aP,rfl,w,ht,r⟩:=h
 exact⟨_,rfl,_,rfl,_,rfl,G,B,aP,rfl,w,ht,_,Sub.refl _,r⟩
def zT(rs:List aW)(cut:List Int):W->Option W
 | .tup [.int i,.str t]=>if eP rs t=true then some (c9 (t,cut.getD i.toNat 0,cut.getD (i.toNat + 1) 0)) else none
 | _=>none
theorem zee{F:W->Option W}{ws:List W}{os:List (Option W)}(h:Gr (fun w o=>o=F w) ws os):os.filterMap id=ws.filterMap F:=by
 induction h with
 | nil=>rfl
 | cons a _ ih=>rw[a,Dz,Dz,ih];rfl
theorem zef(rs:List aW)(cut:List Int)(ps:List Str):(gF 0 (ps.map W.str)).filterMap (zT rs cut)=(l0 (eP rs) ps cut).map c9:=by
 unfold l0
 rw[enum_zip,Kv,List.map_filterMap]
 refine congrArg (fun f=>List.filterMap f ps.zipIdx) (funext fun x=>?_)
 show(if eP rs x.1=true then _ else none)=_
 rw[Bz]
 by_cases h:eP rs x.1=true
 ·rw[if_pos h,if_pos h];rfl
 ·rw[if_neg h,if_neg h];rfl
theorem zeg{ws:List W}{M:Mm}{R:K3}(h:zL ws M R):zc9 (bU R) (bX zc8 ws) M:=by
 obtain⟨rs,ps,cut,rfl,hc,hp,r⟩:=h
 refine⟨_,rfl,_,rfl,GK (rest:=[some (.dk (ownOf rs)),some (fT cut)]) (fun w o=>o=zT rs cut w) (fun w hw=>?_) (dX (by rw[kQ,Ab];lia)) (fun _ _=>trivial) (fun a b hm M' C D sb h1 h2=>?_) fun os po=>?_⟩
 ·rw[enum_zip] at hw
  obtain⟨x,_,rfl⟩:=Az.mp hw
  exact⟨_,_,rfl⟩
 ·rw[enum_zip] at hm
  obtain⟨⟨t,k⟩,hx,e⟩:=Az.mp hm
  cases e
  have hk:=(Ai.mp (Hk.mp hx)).1
  have ep:zT rs cut (.tup [.int (k:Int),.str t])=if eP rs t=true then some (c9 (t,cut.getD k 0,cut.getD (k + 1) 0)) else none:=rfl
  have ho:(bD (ownOf rs) (Sum.inr t:aE)).isSome=eP rs t:=zB rs t
  exact⟨_,rfl,_,rfl,_,⟨Sum.inr t,rfl,rfl⟩,_,rfl,bV (fun z=>⟨_,rfl,_,rfl,_,rfl,_,uQ (by lia),_,rfl,_,rfl,_,uQ (k:=k + 1) (by lia),z3,h1 _ (by rw[ep,if_pos (ho.symm.trans z)];rfl)⟩) fun z=>h2 (by rw[ep,if_neg (ne_true_of_eq_false (ho.symm.trans z))])⟩
 ·rw[zee po,zef]
  exact qN r
structure FW(G:Sr)(B:bR)(aP:aY)(ex:aY->Prop)(fs wt:List aY):Prop where
 tp:aP∈fs
 nd:fs.Nodup
 sub:∀ f∈fs,f∈B.map (·.1)
 wq:∀ f∈wt,f∈fs
 wl:wt.length<=fs.length
 cl:∀ e∈B,e.1∈fs->e.1∈wt\/ex e.1\/∀ f∈l0 G.own (kX G e.2.2.1) e.2.2.2,f∈fs
theorem FW.len{G:Sr}{B:bR}{aP:aY}{fs wt:List aY}{ex:aY->Prop}(h:FW G B aP ex fs wt):fs.length<=B.length:=by
 have:=len_sub h.nd h.sub
 rw[Ab] at this;exact this
theorem FW.add{G:Sr}{B:bR}{aP g:aY}{fs wt:List aY}{ex:aY->Prop}(h:FW G B aP ex fs wt)(hg:g∉fs)(hb:g∈B.map (·.1)):FW G B aP ex (fs ++ [g]) (wt ++ [g]):=by
 refine⟨Bv _ h.tp,?_,fun f hf=>?_,fun f hf=>?_,(by rw[Ao,Ao];exact Nat.add_le_add_right h.wl _),fun e he hf=>?_⟩
 ·rw[Ea]
  exact⟨h.nd,(by simp),fun a ha b hb e=>hg (by cases Aw.mp hb;rw[<-e];exact ha)⟩
 ·rcases Bl.mp hf with z | z
  ·exact h.sub f z
  ·cases Aw.mp z;exact hb
 ·rcases Bl.mp hf with z | z
  ·exact Bv _ (h.wq f z)
  ·exact Ca _ z
 ·rcases Bl.mp hf with z | z
  ·rcases h.cl e he z with y | y | y
   ·exact .inl (Bv _ y)
   ·exact .inr (.inl y)
   ·exact .inr (.inr fun f hf=>Bv _ (y f hf))
  ·exact .inl (Ca _ z)
def oO(fs:List aY):W->Option W
 | .tup [.str n,.int b,.int e]=>if (n,b,e)∈fs then some (.tup [.str n,.int b,.int e]) else none
 | _=>none
theorem zeh(fs gs:List aY):(gs.map c9).filterMap (oO fs)=(gs.filter fun f=>decide (f∈fs)).map c9:=by
 induction gs with
 | nil=>rfl
 | cons f gs ih=>
  have e:oO fs (c9 f)=if f∈fs then some (c9 f) else none:=rfl
  rw[Ay,Dz,Dk,e,ih]
  by_cases h:f∈fs
  ·rw[if_pos h,if_pos (decide_eq_true h),Ay]
  ·rw[if_neg h,if_neg (by rw[decide_eq_false h];exact Ar)]
theorem KC{B:bR}{f:aY}(h:f∈B.map (·.1)):∃ v,aH B f=some v/\bD (d6 fK f6 B) (fK f)=some (f6 v):=by
 obtain⟨v,hv⟩:=Gs.mp (jI.mpr h)
 exact⟨v,hv,by rw[lV mX,hv];rfl⟩
theorem zei{G:Sr}{B:bR}(o:uA G B){e:En}(he:e∈B):aH B e.1=some e.2:=by
 obtain⟨a,b,sp⟩:=List.append_of_mem he
 obtain⟨r,E⟩:=o a e b sp
 rw[sp,uB,E.no,dG,if_pos rfl];rfl
theorem KD{G:Sr}{pre:bR}{e:En}{r:aW}(E:t9 G pre e r){g:aY}(hg:g∈l0 G.own r.parts e.2.2.2):g∈pre.map (·.1):=by
 obtain⟨⟨t,k⟩,hx,e1⟩:=Jd.mp hg
 have hx:=Hk.mp hx
 by_cases ho:G.own t=true
 ·rw[if_pos ho] at e1
  cases e1
  exact jI.mp (E.pn k t hx ho)
 ·rw[if_neg ho] at e1;cases e1
theorem KG{G:Sr}{pre:bR}{e:En}{r:aW}(E:t9 G pre e r):kX G e.2.2.1=r.parts:=by unfold kX;rw[E.ru];rfl
theorem zej{ws:List W}{M:Mm}{R:K3}(h:zM ws M R):zdh (bU R) (bX zda ws) M:=by
 obtain⟨G,B,aP,rfl,w,ht,r⟩:=h
 have hown:G.own=eP G.rs:=funext w.own
 refine⟨_,rfl,G.rs,rfl,w.few,bA.frz ⟨namesOf G.rs,rfl,KA w.few,fun p hp=>⟨_,rfl,bB,fK aP,rfl,_,rfl,z1,fun q hq=>?_⟩⟩⟩
 rw[gP] at hq ⊢
 have hpq:q≠p:=fun e=>by rw[e,bB] at hq;cases hq
 have hq0:M q=none:=by rw[aT hpq] at hq;exact hq
 have atp:∀ {X Y:MO},put (put M p X) q Y p=some X:=fun {X Y}=>by rw[aT (Bp hpq),bB]
 have setp:∀ {X X' Y:MO},put (put (put M p X) q Y) p X'=put (put M p X') q Y:=fun {X X' Y}=>by rw[vS hpq,gP]
 refine⟨fun m τ M'=>∃ fs wt o6 o7,τ=[some (cP G.rs),some (nB B),some (c9 aP),some (.dk (ownOf G.rs)),some (.ref p),some (.ref q),o6,o7]/\M'=put (put M p (.dT (eI fs))) q (.lst (wt.map c9))/\FW G B aP (fun _=>False) fs wt/\m=2 * (B.length - fs.length) + wt.length,
  ⟨_,[aP],[aP],_,_,rfl,rfl,⟨List.mem_singleton_self _,(by simp),fun f hf=>by cases Aw.mp hf;exact ht,fun f hf=>hf,Aj _,fun e _ hf=>.inl hf⟩,rfl⟩,?_⟩
 rintro m τ M' ⟨fs,wt,o6,o7,rfl,rfl,F,rfl⟩
 refine⟨_,rfl,.inl ⟨_,bB,bV (fun h=>?_) fun h=>?_⟩⟩
 ·rcases Fi wt with e | ⟨wt',f,e⟩
  ·rw[e] at h;cases h
  rw[Fj] at e
  subst e
  obtain⟨v,hv,lv⟩:=KC (F.sub f (F.wq f (by simp)))
  obtain⟨pre,post,sp⟩:=qC hv
  obtain⟨ru,E⟩:=w.ord pre _ post sp
  obtain⟨ru',h1,h2⟩:=oA (rs:=G.rs) (n:=v.2.1) (Ai.mp E.ru).1
  cases (show some ru'=some ru from h1.symm.trans E.ru)
  refine⟨_,rfl,_,rfl,fU bB,_,_,by rw[Bi];exact bB,_,⟨fK f,rfl,lv.symm⟩,_,rfl,_,rfl,_,rfl,_,rfl,_,h2,_,rfl,_,rfl,_,rfl,G.rs,ru.parts,v.2.2,rfl,E.ln,w.pl ru (An h1),bA.frz (lU ?_)⟩
  rw[gP,<-hown]
  obtain⟨pf,hpf⟩:∃ pf,pf=l0 G.own ru.parts v.2.2:=⟨_,rfl⟩
  rw[<-hpf]
  have hpB:∀ g∈pf,g∈B.map (·.1):=fun g hg=>by
   rw[hpf] at hg
   rw[sp,Bi]
   exact Bv _ (KD E hg)
  have hlen:=F.len
  refine eN (fun j τ M'=>∃ fs2 wt2 o7,τ=[some (cP G.rs),some (nB B),some (c9 aP),some (.dk (ownOf G.rs)),some (.ref p),some (.ref q),some (f6 v),o7]/\M'=put (put M p (.dT (eI fs2))) q (.lst (wt2.map c9))/\(∀ g∈pf.take j,g∈fs2)/\FW G B aP (fun x=>x=f) fs2 wt2/\2 * (B.length - fs2.length) + wt2.length + 1<=2 * (B.length - fs.length) + (wt' ++ [f]).length) ?_ (fun _ _ _ _ _=>trivial) ?_ ?_
  ·refine⟨fs,wt',_,rfl,rfl,(fun g hg=>nomatch hg),⟨F.tp,F.nd,F.sub,fun x hx=>F.wq x (Bv _ hx),Bc (by rw[Ao];exact Nat.le_add_right _ _) F.wl,fun e he hf=>?_⟩,by rw[Ao];exact Aj _⟩
   rcases F.cl e he hf with y | y | y
   ·rcases Bl.mp y with y | y
    ·exact .inl y
    ·exact .inr (.inl (Aw.mp y))
   ·exact y.elim
   ·exact .inr (.inr y)
  ·rintro j x τ M' hx ⟨fs2,wt2,o7,rfl,rfl,hin,F2,hm⟩
   rw[Av] at hx
   obtain⟨g,hg,rfl⟩:=Bg.mp hx
   have hgm:=An hg
   have hl2:=F2.len
   have hbl:=w.bl
   refine⟨_,rfl,_,rfl,.inr ⟨_,.inr ⟨eI fs2,fK g,atp,rfl,rfl⟩,_,rfl,?_⟩⟩
   show if (!(bD (eI fs2) (fK g)).isSome)=true then _ else _
   rw[oJ]
   refine bV (fun hn=>?_) fun hn=>?_
   ·have hn:g∉fs2:=of_decide_eq_false (by rw[<-Jp (decide _),hn];rfl)
    have F3:=F2.add hn (hpB g hgm)
    have hl3:=F3.len
    rw[Ao,Cd] at hl3
    have lw:=F2.wl
    refine⟨_,rfl,_,rfl,nV (k:=fK g) atp (by unfold eI;rw[Ab];exact fS (by lia)) ?_⟩
    rw[JW hn,setp]
    refine⟨_,rfl,fU bB,_,rfl,_,bB,fS (by rw[Ab];lia),_,Sub.refl _,fs2 ++ [g],wt2 ++ [g],_,rfl,?_,fun y hy=>?_,F3,?_⟩
    ·rw[gP,Bi];rfl
    ·rw[Du,hg] at hy
     rcases Bl.mp hy with z | z
     ·exact Bv _ (hin y z)
     ·exact Ca _ z
    ·rw[Ao,Ao,Cd]
     lia
   ·have hn:g∈fs2:=of_decide_eq_true (by rw[<-Jp (decide _),hn];rfl)
    refine⟨_,Sub.refl _,fs2,wt2,_,rfl,rfl,fun y hy=>?_,F2,hm⟩
    rw[Du,hg] at hy
    rcases Bl.mp hy with z | z
    ·exact hin y z
    ·cases Aw.mp z;exact hn
  ·rintro τ M' ⟨fs2,wt2,o7,rfl,rfl,hin,F2,hm⟩
   rw[Ab,De] at hin
   refine⟨_,_,hm,Sub.refl _,fs2,wt2,_,_,rfl,rfl,⟨F2.tp,F2.nd,F2.sub,F2.wq,F2.wl,fun e he hf=>?_⟩,rfl⟩
   rcases F2.cl e he hf with y | y | y
   ·exact .inl y
   ·have:=zei w.ord he
    rw[y,hv] at this
    refine .inr (.inr fun g hg=>hin g ?_)
    rw[<-Cr this,show kX G v.2.1=ru.parts from KG E] at hg
    rw[hpf];exact hg
   ·exact .inr (.inr y)
 ·have e:wt=[]:=by
   cases wt with
   | nil=>rfl
   | cons a b=>cases h
  subst e
  have hbl:=w.bl
  refine⟨_,rfl,nT (rest:=[some (.ref p)]) (oO fs) (dX (by rw[Ab,Ab];lia)) (fun _ _=>trivial) (fun x hx M3 C D sb d1 d2=>?_) ?_⟩
  ·rw[Dl] at hx
   obtain⟨e,he,rfl⟩:=Az.mp hx
   have ei:oO fs (c9 e.1)=if e.1∈fs then some (c9 e.1) else none:=rfl
   refine⟨_,rfl,_,rfl,.inr ⟨_,.inr ⟨eI fs,fK e.1,sb _ _ atp,rfl,rfl⟩,_,rfl,?_⟩⟩
   show if (bD (eI fs) (fK e.1)).isSome=true then _ else _
   rw[oJ]
   exact bV (fun z=>⟨_,rfl,d1 _ (by show oO fs (c9 e.1)=_;rw[ei,if_pos (of_decide_eq_true z)];rfl)⟩) fun z=>d2 (by show oO fs (c9 e.1)=_;rw[ei,if_neg (of_decide_eq_false z)])
  ·have e:((d6 fK f6 B).map fun p=>W.tup (p.1.map wK))=(B.map (·.1)).map c9:=by rw[Dl,Dl];rfl
   rw[e,zeh]
   have z:=r (fun f=>decide (f∈fs)) (decide_eq_true F.tp) fun e he hf f hm=>by
    rcases F.cl e he (of_decide_eq_true hf) with y | y | y
    ·cases y
    ·exact y.elim
    ·exact decide_eq_true (y f hm)
   intro s hs
   have hs1:s≠q:=fun e=>by rw[e,bB] at hs;cases hs
   have hs2:s≠p:=fun e=>by rw[e,atp] at hs;cases hs
   rw[aT hs1,aT hs2] at hs
   exact⟨_,Sub.put (gK (gK (Sub.refl _) hp) hq0),z s hs⟩
theorem zek{G:Sr}{B:bR}(o:uA G B):(B.map (·.1)).Nodup:=by
 rw[Ku,Ld]
 refine Im.mpr fun i j hi hj hij e=>?_
 obtain⟨r,E⟩:=o (B.take j) B[j] (B.drop (j + 1)) (by rw[<-Gp hj,List.take_append_drop])
 have hm:B[j].1∈(B.take j).map (·.1):=by
  rw[<-e]
  exact Fx (Kg.mpr ⟨i,by rw[Cb];lia,by rw[List.getElem_take]⟩)
 rw[<-jI,E.no] at hm
 cases hm
theorem zel{l:List aY}(nd:l.Nodup){a b:List aY}{f:aY}(e:l=a ++ f :: b){j:Nat}(h:l[j]? = some f):l.take j=a:=by
 have:j=a.length:=(List.getElem?_inj (Ai.mp h).1 nd).mp (h.trans (by rw[e,List.getElem?_append_right (Aj _),Nat.sub_self];rfl))
 rw[this,e,List.take_left]
theorem zem{T:aY->W}{fs:List aY}{g:aY}(h:g∈fs):aH (fs.map fun f=>(f,T f)) g=some (T g):=by
 induction fs with
 | nil=>cases h
 | cons f fs ih=>
  rw[Ay,dG]
  by_cases e:f=g
  ·rw[if_pos e,e]
  ·rw[if_neg e]
   exact ih ((Ax.mp h).resolve_left fun z=>e z.symm)
abbrev nC(T:aY->W)(fs:List aY):List (List aE×W):=d6 fK (fun w=>w) (fs.map fun f=>(f,T f))
theorem KH{T:aY->W}{fs:List aY}{g:aY}(h:g∈fs):bD (nC T fs) (fK g)=some (T g):=by rw[lV mX,zem h];rfl
theorem zen{T:aY->W}{fs:List aY}{g:aY}(h:g∉fs):cC (nC T fs) (fK g) (T g)=nC T (fs ++ [g]):=by
 refine(yB (f:=fun w=>w) mX _ g (T g)).trans ?_
 rw[tT (by rw[<-Option.not_isSome_iff_eq_none,jI,Dl];exact fun z=>h (by simpa using z))]
 show _=d6 fK (fun w=>w) ((fs ++ [g]).map fun f=>(f,T f))
 rw[Bi];rfl
theorem zeo{C:Cc}{ws:List W}{M:Mm}{R:K3}(h:zQ C ws M R):zdo C (bU R) (bX zdi ws) M:=by
 obtain⟨G,B,aP,rfl,w,ht,r⟩:=h
 have hown:G.own=eP G.rs:=funext w.own
 have nd:=zek w.ord
 refine⟨_,rfl,G.rs,rfl,w.few,bA.frz ⟨namesOf G.rs,rfl,KA w.few,fun p hp=>⟨_,rfl,_,rfl,_,rfl,G,B,aP,rfl,w,ht,fun P hP hcl=>bA.frz (lU ?_)⟩⟩⟩
 obtain⟨F,hF⟩:∃ F,F=(B.map (·.1)).filter P:=⟨_,rfl⟩
 rw[<-hF]
 have ndF:F.Nodup:=by rw[hF];exact nd.filter _
 have lF:F.length<=1000:=Bc (by rw[hF];exact Gk _ _) (by rw[Ab];exact w.bl)
 refine eN (fun j τ M'=>∃ o7 o8 o9 o10 o11 o12,τ=[some (cP G.rs),some (nB B),some (c9 aP),some (.ref C.f),some (.ref C.g),some (.dk (ownOf G.rs)),some (.ref p),o7,o8,o9,o10,o11,o12]/\M'=put M p (.dT (nC (iA G B) (F.take j)))) ⟨_,_,_,_,_,_,rfl,rfl⟩ (fun _ _ _ _ _=>trivial) ?_ ?_
 ·rintro j x τ M' hx ⟨o7,o8,o9,o10,o11,o12,rfl,rfl⟩
  rw[Av] at hx
  obtain⟨f,hf,rfl⟩:=Bg.mp hx
  have hfm:f∈F:=An hf
  have hfm2:=hfm
  rw[hF] at hfm2
  obtain⟨hfB,hfP⟩:=Cv.mp hfm2
  obtain⟨v,hv,lv⟩:=KC hfB
  obtain⟨pre,post,sp⟩:=qC hv
  obtain⟨ru,E⟩:=w.ord pre _ post sp
  obtain⟨ru',h1,h2⟩:=oA (rs:=G.rs) (n:=v.2.1) (Ai.mp E.ru).1
  cases (show some ru'=some ru from h1.symm.trans E.ru)
  have hpl:=w.pl ru (An h1)
  have hcutl:v.2.2.length=ru.parts.length + 1:=E.ln
  have htk:F.take j=(pre.map (·.1)).filter P:=zel ndF (by rw[hF,sp,Bi,Ay,List.filter_append,Dk,if_pos hfP]) hf
  have hpf:∀ k t,ru.parts[k]? = some t->G.own t=true->(t,v.2.2.getD k 0,v.2.2.getD (k + 1) 0)∈F.take j:=fun k t hk ho=>by
   have hg:(t,v.2.2.getD k 0,v.2.2.getD (k + 1) 0)∈l0 G.own ru.parts v.2.2:=Jd.mpr ⟨(t,k),Hk.mpr hk,by rw[if_pos ho]⟩
   rw[htk]
   refine Cv.mpr ⟨KD E hg,hcl (f,v) (by rw[sp];simp) hfP _ ?_⟩
   rw[KG E];exact hg
  have hnf:f∉F.take j:=fun z=>by
   rw[htk] at z
   have:=(Cv.mp z).1
   rw[<-jI,E.no] at this
   cases this
  refine⟨_,rfl,_,rfl,_,⟨fK f,rfl,lv.symm⟩,_,rfl,_,rfl,_,rfl,_,⟨fK f,rfl,lv.symm⟩,_,rfl,Ci _,fun q hq=>?_⟩
  have hpq:q≠p:=fun e=>by rw[e,bB] at hq;cases hq
  have atp:∀ {X Y:MO},put (put M p X) q Y p=some X:=fun {X Y}=>by rw[aT (Bp hpq),bB]
  obtain⟨kids,hk⟩:∃ kids,kids=kW G (fun t _ _=>.str t) (iA G B) v.2.2 ru.parts:=⟨_,rfl⟩
  have hkl:kids.length=ru.parts.length:=by rw[hk];unfold kW;rw[Ab,List.length_zipIdx]
  have hka:∀ k t,ru.parts[k]? = some t->kids[k]? = some (if G.own t=true then iA G B (t,v.2.2.getD k 0,v.2.2.getD (k + 1) 0) else .str t):=fun k t ht=>by
   rw[hk];unfold kW
   rw[Av,Mr,ht,Jq];rfl
  refine⟨_,rfl,_,rfl,_,h2,_,rfl,_,rfl,?_⟩
  refine eN (fun k τ M'=>∃ o11 o12,τ=[some (cP G.rs),some (nB B),some (c9 aP),some (.ref C.f),some (.ref C.g),some (.dk (ownOf G.rs)),some (.ref p),some (c9 f),some (.int v.2.1),some (fT v.2.2),some (.ref q),o11,o12]/\M'=put (put M p (.dT (nC (iA G B) (F.take j)))) q (.lst (kids.take k))) ⟨_,_,rfl,rfl⟩ (fun _ _ _ _ _=>trivial) ?_ ?_
  ·rintro k x τ M' hx ⟨o11,o12,rfl,rfl⟩
   rw[pX,Av] at hx
   cases hs:ru.parts[k]? with
   | none=>rw[hs] at hx;cases hx
   | some t=>
    rw[hs] at hx
    cases hx
    have hk1:=(Ai.mp hs).1
    have ho:(bD (ownOf G.rs) (Sum.inr t:aE)).isSome=G.own t:=by rw[hown];exact zB G.rs t
    have lk:(kids.take k).length < Am:=fS (by rw[Cb];lia)
    have c1:cB (v.2.2.map W.int) ((0 + k:Nat):Int)=some (.int (v.2.2.getD k 0)):=by rw[Jq];exact uQ (by lia)
    have c2:cB (v.2.2.map W.int) (((0 + k:Nat):Int) + 1)=some (.int (v.2.2.getD (k + 1) 0)):=by rw[Jq];exact uQ (k:=k + 1) (by lia)
    have fin:∀ y,kids[k]? = some y->put (put (put M p (.dT (nC (iA G B) (F.take j)))) q (.lst (kids.take k))) q (.lst (kids.take k ++ [y]))=put (put M p (.dT (nC (iA G B) (F.take j)))) q (.lst (kids.take (k + 1))):=fun y hy=>by rw[gP,Du,hy];rfl
    refine⟨rfl,rfl,_,rfl,_,rfl,_,⟨Sum.inr t,rfl,rfl⟩,_,rfl,bV (fun z=>?_) fun z=>?_⟩
    ·have z:=ho.symm.trans z
     exact⟨_,rfl,fU bB,_,rfl,_,rfl,_,rfl,_,rfl,_,c1,_,rfl,_,rfl,_,c2,z3,mU (k:=fK (t,v.2.2.getD k 0,v.2.2.getD (k + 1) 0)) atp (KH (hpf k t hs z)) ⟨_,bB,lk,_,Sub.refl _,_,_,rfl,fin _ (by rw[hka k t hs,if_pos z])⟩⟩
    ·have z:=ho.symm.trans z
     exact⟨_,rfl,fU bB,rfl,_,rfl,_,rfl,_,rfl,_,c1,_,rfl,_,rfl,_,c2,t,_,_,rfl,_,bB,lk,_,Sub.refl _,_,_,rfl,fin _ (by rw[hka k t hs,if_neg (ne_true_of_eq_false z)])⟩
  ·rintro τ M' ⟨o11,o12,rfl,rfl⟩
   rw[kQ,Ab,<-hkl,De]
   have et:iA G B f=.tup [.int v.2.1,.tup kids]:=by rw[hk];exact JO sp E
   refine⟨rfl,_,rfl,_,rfl,v.2.1,q,kids,rfl,bB,_,rfl,_,rfl,nV (k:=fK f) atp (fS (by rw[Ab,Ab,Cb];lia)) ?_⟩
   rw[<-et,zen hnf,vS hpq,gP]
   refine⟨_,Sub.new ?_,_,_,_,_,_,_,rfl,?_⟩
   ·rw[aT hpq];rw[aT hpq] at hq;exact hq
   ·rw[Du,hf];rfl
 ·rintro τ M' ⟨o7,o8,o9,o10,o11,o12,rfl,rfl⟩
  rw[Ab,De]
  exact⟨_,rfl,_,rfl,mU (k:=fK aP) bB (KH (by rw[hF];exact Cv.mpr ⟨ht,hP⟩)) ⟨_,Sub.new hp,r⟩⟩
theorem zep{rs:List aW}{row:List Str}{B:bR}(g:e8 rs)(w:Rw row)(hB:iT (dJ rs row) B):Wb (dJ rs row) B:=by
 refine⟨fun t=>rfl,Bc g.few (by decide),JM hB,?_,fun r hr=>Bc (g.fp r hr) (by decide)⟩
 have:=JK w.few (t7 hB) fun f hf=>t6 g ((qM hB f).mp hf)
 rw[Ab] at this
 lia
theorem zeq{C:Cc}{ws:List W}{M:Mm}{R:K3}(h:uP C ws M R):zdz C (bU R) (bX zdv ws) M:=by
 obtain⟨q,rs,row,rfl,g,w,r⟩:=h
 have hf:=g.few
 refine⟨_,rfl,_,rfl,_,rfl,q :: rs,rfl,Bc hf (by decide),bA.frz ⟨q :: rs,row,rfl,g,w,fun B hB p hp=>⟨p,rfl,.inr ⟨_,bB,?_⟩⟩⟩⟩
 rw[pC hp]
 refine⟨_,rfl,_,rfl,q,rs,row,rfl,?_⟩
 obtain⟨r1,r2⟩:=r B hB
 refine⟨_,rfl,_,rfl,_,⟨fK (hW q row),rfl,rfl⟩,_,rfl,?_⟩
 show if (bD (d6 fK f6 B) (fK (hW q row))).isSome=true then _ else _
 rw[lV mX,Ky]
 have iff:(aH B (hW q row)).isSome=true↔jH (q :: rs) row (hW q row):=jI.trans (qM hB _)
 refine bV (fun z=>⟨_,rfl,_,rfl,_,rfl,dJ (q :: rs) row,B,hW q row,rfl,zep g w hB,jI.mp z,_,Sub.refl _,r1 (iff.mp z)⟩) fun z=>⟨_,Sub.refl _,r2 fun d=>?_⟩
 rw[iff.mpr d] at z;cases z
theorem zer{d:Nat}{ws:List W}{M:Mm}{R:K3}(h:qP (d + 1) ws M R):zdA (qP d) (bU R) (bX J6 ws) M:=by
 obtain⟨x,rfl,⟨t,rfl⟩ | ⟨rs,row,B,f,g,tr⟩,r⟩:=h
 ·rw[show mW d (.str t)=1 by unfold mW;cases d <;> rfl] at r
  exact⟨_,rfl,oM ⟨"str",true,rfl,by decide,⟨_,Sub.refl _,r⟩⟩⟩
 cases d with
 | zero=>exact tr.elim
 | succ d=>
  obtain⟨n,ru,cut,kids,rfl,h2,_,h4,h5⟩:=tr
  have hp4:=g.fp ru (An h2)
  refine⟨_,rfl,oM ⟨"tuple",false,rfl,by decide,⟨_,rfl,_,rfl,zcU (ws:=kids) (sO (rest:=[]) (fun w=>.int (mW d w)) (dX (by lia)) (fun _ _=>trivial) (fun w hw M' C sb h1=>?_) (bA.frz ⟨kids.map (mW d),by rw[Dl];rfl,_,Sub.refl _,r⟩))⟩⟩⟩
  obtain⟨k,hk⟩:=Jv.mp hw
  have hkl:=(Ai.mp hk).1
  obtain⟨t,ht⟩:∃ t,ru.parts[k]? = some t:=⟨_,Ak (by lia)⟩
  obtain⟨_,a,b⟩:=h5 k t ht
  refine⟨_,rfl,w,rfl,?_,h1⟩
  cases ho:isN t with
  | false=>rw[(a ho).1] at hk;cases hk;exact .inl ⟨_,rfl⟩
  | true=>
   obtain⟨w',y,z,_⟩:=b ho
   rw[y] at hk;cases hk
   exact .inr ⟨rs,row,B,_,g,z⟩
theorem zes{ws:List W}{M:Mm}{R:K3}(h:zS ws M R):zdF (bU R) (bX zdB ws) M:=by
 obtain⟨rs,n,ru,kids,rfl,hl,h2,h4,r⟩:=h
 obtain⟨ru',h1,hat⟩:=oA (rs:=rs) (n:=n) (Ai.mp h2).1
 cases (show some ru'=some ru from h1.symm.trans h2)
 have hn:=(Ai.mp h2).1
 refine⟨_,rfl,oM ⟨"tuple",true,rfl,by decide,⟨_,rfl,_,rfl,bV (fun h=>nomatch (show false=true from h)) fun _=>⟨_,rfl,_,rfl,oM ⟨"int",true,rfl,by decide,⟨_,rfl,_,rfl,oM ⟨"int",false,rfl,by decide,?_⟩⟩⟩⟩⟩⟩⟩
 refine⟨_,rfl,_,rfl,_,rfl,bV (fun _=>⟨_,rfl,_,rfl,bV (fun z=>?_) fun z=>?_⟩) fun z=>?_⟩
 ·have z:=of_decide_eq_false (show decide ((n:Int) < (rs.map cY).length)=false by rw[<-Jp (decide _),show(!decide ((n:Int) < (rs.map cY).length))=true from z];rfl)
  rw[Ab] at z
  lia
 ·refine⟨_,rfl,_,rfl,_,rfl,_,hat,_,rfl,_,rfl,_,rfl,bV (fun h=>?_) fun _=>⟨_,rfl,_,rfl,oM ⟨"tuple",true,rfl,by decide,⟨_,rfl,_,rfl,_,rfl,_,rfl,_,rfl,_,hat,_,rfl,_,Sub.refl _,?_⟩⟩⟩⟩
  ·rw[show(!decide (ru.name=ru.name))=false by rw[decide_eq_true rfl];rfl] at h
   cases h
  ·show R (.bl (decide ((kids.length:Int)=(ru.parts.map W.str).length))) M
   rw[Ab,h4,decide_eq_true rfl]
   exact r
 ·exact absurd (Int.natCast_nonneg n) (of_decide_eq_false z)
theorem KI{f:aY}(h:f.1∈NM):Pl 1 (c9 f):=zcV (L:=[fK f]) (fun k hk=>⟨f,Aw.mp hk,h⟩) _ Bf
theorem zet{f g:aY}(h:c9 f=c9 g):f=g:=by
 obtain⟨a,b,c⟩:=f
 obtain⟨a',b',c'⟩:=g
 cases h;rfl
theorem zeu{d:Nat}{ws:List W}{M:Mm}{R:K3}(h:qR (d + 1) ws M R):zdN (qR d) (bU R) (bX J7 ws) M:=by
 obtain⟨rs,row,B,f,x,ab,rfl,g,w,hf,hd,tr,hab,hl,r⟩:=h
 have hmany:=(tr.le (e:=29) (by lia)).many
 have tr29:=tr.le (e:=29) (by lia)
 cases d with
 | zero=>exact tr.elim
 | succ d=>
  obtain⟨n,ru,cut,kids,rfl,h2,hfa,h4,h5⟩:=tr
  have hrf:=g.few
  have hrm:=An h2
  have hp4:=g.fp ru hrm
  obtain⟨ru',h1,hat⟩:=oA (rs:=rs) (n:=n) (Ai.mp h2).1
  cases (show some ru'=some ru from h1.symm.trans h2)
  have f1:f.1=ru.name:=by rw[hfa]
  have f2:f.2.1=cut.getD 0 0:=by rw[hfa]
  have hm2:f.2.1 + mW 29 (.tup [.int n,.tup kids])=f.2.2:=by rw[hmany];lia
  refine⟨_,rfl,_,rfl,_,rfl,rs,n,ru,kids,by rw[f1],Bc hrf (by decide),h2,h4,_,rfl,_,rfl,_,rfl,_,rfl,_,rfl,_,rfl,.inr ⟨rs,row,B,_,g,tr29⟩,z3,?_⟩
  rw[hm2]
  refine⟨_,rfl,_,rfl,ab.map c9,1,rfl,by decide,KI hf,fun y hy=>?_,fun b hb=>⟨_,rfl,bV (fun z=>?_) fun _=>?_⟩⟩
  ·obtain⟨a,ha,rfl⟩:=Az.mp hy
   exact KI (hab a ha).1
  ·obtain⟨a,ha,e⟩:=Az.mp (hb.mp z)
   have:=(hab a ha).2
   rw[zet e] at this
   exact absurd this (Gv _)
  refine⟨_,rfl,_,rfl,_,rfl,_,hat,_,rfl,_,rfl,_,rfl,?_⟩
  refine eN (ws:=hU (ru.parts.map W.str) kids) (fun k τ M'=>∃ o8 o9,τ=[some (cP rs),some (fL row),some (.str f.1),some (.tup [.int n,.tup kids]),some (.int f.2.1),some (.rl (ab.map c9)),some (.int (cut.getD k 0)),some (c9 f),o8,o9]/\M'=M) ⟨_,_,by rw[<-f2];rfl,rfl⟩ (fun _ _ _ _ _=>trivial) ?_ ?_
  ·rintro k y τ M' hy ⟨o8,o9,rfl,rfl⟩
   obtain⟨t,kid,ht,hk,rfl⟩:∃ t kid,ru.parts[k]? = some t/\kids[k]? = some kid/\y=.tup [.str t,kid]:=by
    have hk:=(Ai.mp hy).1
    rw[kR,Ab,h4,Nat.min_self] at hk
    have e1:ru.parts[k]? = some ru.parts[k]:=Ak hk
    have e2:kids[k]? = some (kids[k]'(by rw[h4];exact hk)):=Ak (by rw[h4];exact hk)
    rw[pY (by rw[Av,e1];rfl) e2] at hy
    cases hy
    exact⟨_,_,e1,e2,rfl⟩
   obtain⟨mo,wd,nm⟩:=h5 k t ht
   have hnm:=g.prt ru hrm t (An ht)
   refine⟨rfl,rfl,_,rfl,t,rfl,hnm.elim (fun z=>.inr (lW z)) fun z=>.inl z.1,bV (b:=!isN t) (fun z=>?_) fun z=>?_⟩
   ·have z:isN t=false:=by rw[<-Jp (isN t),z];rfl
    obtain⟨a1,a2,a3,a4⟩:=wd z
    rw[a1] at hk
    cases hk
    have hlr:=(Ai.mp a3).1
    have ha:cB (row.map W.str) (cut.getD k 0)=some (.str t):=by
     rw[show cut.getD k 0=((cut.getD k 0).toNat:Int) by lia]
     exact iE (by rw[Av,a3];rfl)
    have tt:(!decide (t=t))=false:=by rw[decide_eq_true rfl];rfl
    refine⟨_,rfl,_,rfl,_,rfl,bV (fun h=>absurd (tt.symm.trans h) Ar) fun _=>⟨_,rfl,_,rfl,_,rfl,bV (fun h=>?_) fun _=>⟨_,rfl,_,rfl,_,ha,_,rfl,_,rfl,bV (fun h=>absurd (tt.symm.trans h) Ar) fun _=>⟨_,rfl,_,Sub.refl _,_,_,by rw[a4];rfl,rfl⟩⟩⟩⟩
    have h:=of_decide_eq_true h
    rw[Ab] at h
    lia
   ·have z:isN t=true:=by rw[<-Jp (isN t),z];rfl
    obtain⟨w',b1,b2,b3⟩:=nm z
    rw[b1] at hk
    cases hk
    have tN:t∈NM:=of_decide_eq_true z
    have b29:=b2.le (e:=29) (by lia)
    have mk:cut.getD k 0 + mW 29 kid=cut.getD (k + 1) 0:=by rw[b29.many];simp only;lia
    refine⟨_,rfl,_,rfl,_,rfl,_,rfl,_,rfl,_,rfl,_,rfl,z1,dX (by rw[Ab];show ab.length + 1<=_;lia),rs,row,B,(t,cut.getD k 0,cut.getD (k + 1) 0),kid,ab ++ [f],by rw[Bi];rfl,g,w,tN,by lia,b2,fun a ha=>?_,by rw[Ao,Cd];lia,⟨_,rfl,_,rfl,kid,rfl,.inr ⟨rs,row,B,_,g,b29⟩,_,Sub.refl _,_,_,by rw[mk];rfl,rfl⟩⟩
    rcases Bl.mp ha with ha | ha
    ·exact⟨(hab a ha).1,Gd b3 (hab a ha).2⟩
    ·cases Aw.mp ha;exact⟨hf,b3⟩
  ·rintro τ M' ⟨o8,o9,rfl,rfl⟩
   exact⟨_,Sub.refl _,r⟩
theorem zev{C:Cc}{ws:List W}{M:Mm}{R:K3}(h:J9 ws M R):zdX C (bU R) (bX zdO ws) M:=by
 obtain⟨zs,rfl,hz,_,r⟩:=h
 refine⟨_,rfl,zs,rfl,hz,fun rs g=>bA.frz ?_⟩
 refine⟨_,rfl,_,rfl,zs,rs,rfl,hz,g,fun row w=>bA.frz ?_⟩
 refine⟨_,rfl,rs,rfl,g.good,bA.frz ?_⟩
 obtain⟨q,rs,rfl⟩:∃ q rs',rs=q :: rs':=by
  cases rs with
  | nil=>exact(g.ne rfl).elim
  | cons q rs=>exact⟨_,_,rfl⟩
 have e0:cB ((q :: rs).map cY) 0=some (cY q):=iE (j:=0) rfl
 have same:∀ {M:Mm} {R:K3},R (.bl false) M->rEq true (.rl [cP (q :: rs),fL row]) (.rl [cP (q :: rs),fL row]) M R:=fun h=>wY (neg:=true) 4 (by decide) (fun w1 hw=>by
  rcases Ax.mp hw with rfl | hw
  ·exact zcW g
  ·cases Aw.mp hw
   intro y hy
   obtain⟨t,ht,rfl⟩:=Az.mp hy
   have w4:∀ t∈W4,mQ t:=by unfold W4 mQ;decide +kernel
   exact w4 t (w.wd t ht)) rfl h
 refine⟨_,rfl,_,e0,_,rfl,_,rfl,z3,_,rfl,_,rfl,q :: rs,row,rfl,g,w,fun fs nd hfs=>iH.frz ⟨_,⟨fK (hW q row),by rw[Ab];rfl,rfl⟩,?_⟩⟩
 show J8 C _ (List.set _ 4 (some (.bl (bD (eI fs) (fK (hW q row))).isSome))) M
 rw[oJ]
 refine⟨_,rfl,_,rfl,z2,_,rfl,_,rfl,_,rfl,_,rfl,q,rs,row,rfl,g,w,fun B hB=>⟨fun d=>?_,fun nd=>?_⟩⟩
 ·have T:=zbq g w hB ((qM hB _).mpr d)
  have T29:=T.le (e:=29) (by decide)
  have T2:=T
  obtain⟨n,ru,cut,kids,ex,_⟩:=T2
  rw[ex] at T T29 ⊢
  refine⟨_,rfl,_,rfl,_,rfl,z2,same ⟨_,rfl,⟨_,rfl,_,rfl,_,rfl,_,rfl,q,rs,row,rfl,g,w,fun B' hB'=>⟨fun _=>?_,fun z=>absurd d z⟩⟩⟩⟩
  rw[hB'.uniq hB,ex]
  refine⟨_,rfl,wY (neg:=true) 56 (by decide) (T.pl g) rfl ⟨_,rfl,_,rfl,bV (b:=!decide (hW q row∈fs)) (fun h=>?_) fun _=>?_⟩⟩
  ·rw[decide_eq_true ((hfs _).mpr d)] at h;cases h
  refine⟨_,rfl,_,rfl,_,rfl,_,e0,_,rfl,_,rfl,z0,q :: rs,row,B,hW q row,_,[],rfl,g,w,g.nm q Bf,by decide,T29,(fun a ha=>nomatch ha),by decide,_,rfl,⟨_,rfl,_,rfl,.inr ⟨_,_,_,_,g,T29⟩,_,rfl,_,Sub.refl _,?_⟩⟩
  rw[T29.many,Ab]
  show R (.bl (decide ((row.length:Int) - 0=row.length))) M
  rw[Int.sub_zero,decide_eq_true rfl]
  exact r _
 ·refine⟨_,rfl,_,rfl,_,rfl,z2,same ⟨_,rfl,⟨_,rfl,_,rfl,_,rfl,_,rfl,q,rs,row,rfl,g,w,fun B' hB'=>⟨fun z=>absurd z nd,fun _=>?_⟩⟩⟩⟩
  refine⟨_,rfl,wY (neg:=true) 1 (by decide) trivial rfl ⟨_,rfl,_,rfl,bV (b:=!decide (hW q row∈fs)) (fun _=>⟨_,rfl,_,Sub.refl _,r _⟩) fun h=>?_⟩⟩
  rw[decide_eq_false fun z=>nd ((hfs _).mp z)] at h;cases h
structure Tx(mg:Str->Option Ae):Prop where
 c_FIGURES:∃ t,mg "FIGURES" = some (.str "0123456789" t)
 c_GREAT_LETTERS:∃ t,mg "GREAT_LETTERS" = some (.str "ABCDEFGHIJKLMNOPQRSTUVWXYZ" t)
 all_:mg "all" = none
 bool_:mg "bool" = none
 dict_:mg "dict" = none
 enumerate_:mg "enumerate" = none
 int_:mg "int" = none
 isinstance_:mg "isinstance" = none
 len_:mg "len" = none
 list_:mg "list" = none
 range_:mg "range" = none
 set_:mg "set" = none
 sorted_:mg "sorted" = none
 str_:mg "str" = none
 sum_:mg "sum" = none
 tuple_:mg "tuple" = none
 zip_:mg "zip" = none
structure Kc(K:Ac)(mg:Str->Option Ae)(C:Cc):Prop where
 cls_Queue:gB K C.q
 at__Queue:mg "Queue" = some (.ref C.q)
 cls_Search:gB K C.s
 at__Search:mg "Search" = some (.ref C.s)
 na_costs:fN K C.q "costs"
 na_waiting:fN K C.q "waiting"
 na_grammar:fN K C.s "grammar"
 na_own:fN K C.s "own"
 na_steps:fN K C.s "steps"
 na_queue:fN K C.s "queue"
 na_reached:fN K C.s "reached"
 na_best:fN K C.s "best"
 na_ends:fN K C.s "ends"
 na_begun:fN K C.s "begun"
structure Al(K:Ac)(mg:Str->Option Ae)(C:Cc)(fa:Nat->Addr)(fb:Nat->Bk):Prop extends Tx mg,Kc K mg C where
 x0:Df K mg "made_of" zW ["text","signs"] (fa 0) (fb 0)
 x1:Df K mg "is_name" zX ["part"] (fa 1) (fb 1)
 x2:Df K mg "names" zY ["grammar"] (fa 2) (fb 2)
 x3:Df K mg "first_name" zZ ["grammar"] (fa 3) (fb 3)
 x4:Df K mg "check_rule" z9 ["rule","known"] (fa 4) (fb 4)
 x5:Df K mg "grammar_of" AA ["rules"] (fa 5) (fb 5)
 x6:Df K mg "marks" AB ["things"] (fa 6) (fb 6)
 x7:Df K mg "places_of" AD ["row"] (fa 7) (fb 7)
 x8:Df K mg "row_steps" AE ["row"] (fa 8) (fb 8)
 x9:Df K mg "part_facts" AF ["own","parts","cut"] (fa 9) (fb 9)
 x10:Di K C.q "__init__" "Queue.__init__" AG ["self"] (fa 10) (fb 10)
 x11:Dm K C.q "is_done" "Queue.is_done" AH ["self"] (fa 11) (fb 11)
 x12:Dm K C.q "place_of" "Queue.place_of" AJ ["self","cost"] (fa 12) (fb 12)
 x13:Dm K C.q "put" "Queue.put" AI ["self","cost","thing"] (fa 13) (fb 13)
 x14:Dm K C.q "take" "Queue.take" AK ["self"] (fa 14) (fb 14)
 x15:Df K mg "added" AL ["cost","other"] (fa 15) (fb 15)
 x16:Di K C.s "__init__" "Search.__init__" AN ["self","grammar","steps"] (fa 16) (fb 16)
 x17:Dm K C.s "reach" "Search.reach" AQ ["self","number","cut","cost"] (fa 17) (fb 17)
 x18:Dm K C.s "settle" "Search.settle" AW ["self","number","cut","cost"] (fa 18) (fb 18)
 x19:Dm K C.s "step_by_name" "Search.step_by_name" AU ["self","number","cut","cost","key"] (fa 19) (fb 19)
 x20:Dm K C.s "take_next" "Search.take_next" AR ["self"] (fa 20) (fb 20)
 x21:Df K mg "least_trees" AX ["grammar","places","steps","weights"] (fa 21) (fb 21)
 x22:Df K mg "facts_within" AY ["grammar","best","top"] (fa 22) (fb 22)
 x23:Df K mg "knot_of" A1 ["number","children"] (fa 23) (fb 23)
 x24:Df K mg "same_word" A0 ["word","begin","end"] (fa 24) (fb 24)
 x25:Df K mg "made_of_best" AZ ["grammar","best","top","of_word","of_rule"] (fa 25) (fb 25)
 x26:Df K mg "best_tree" A2 ["grammar","best","top"] (fa 26) (fb 26)
 x27:Df K mg "row_trees" A5 ["grammar","row","weights"] (fa 27) (fb 27)
 x28:Df K mg "no_weights" A6 ["grammar"] (fa 28) (fb 28)
 x29:Df K mg "whole_fact" A7 ["grammar","row"] (fa 29) (fb 29)
 x30:Df K mg "reading" A8 ["grammar","row"] (fa 30) (fb 30)
 x31:Df K mg "_law_cell" A9 ["script","k"] (fa 31) (fb 31)
 x32:Df K mg "_law_stir" BA ["cell","k"] (fa 32) (fb 32)
 x33:Df K mg "_law_drawn" BC ["cell","sizes"] (fa 33) (fb 33)
 x34:Df K mg "_law_grammar" BD ["script"] (fa 34) (fb 34)
 x35:Df K mg "_law_is_name" BE ["part"] (fa 35) (fb 35)
 x36:Df K mg "_law_row" BF ["script","rules","most"] (fa 36) (fb 36)
 x37:Df K mg "_law_covers" BG ["parts","row","known","begin","end"] (fa 37) (fb 37)
 x38:Df K mg "_law_facts" BH ["rules","row"] (fa 38) (fb 38)
 x39:Df K mg "_law_many" BI ["thing"] (fa 39) (fb 39)
 x40:Df K mg "_law_is_knot" BJ ["rules","part","knot"] (fa 40) (fb 40)
 x41:Df K mg "_law_good" BK ["rules","row","part","knot","begin","above"] (fa 41) (fb 41)
 x42:Df K mg "law" BL ["script"] (fa 42) (fb 42)
 f_same_word:C.f=fa 24
 f_knot_of:C.g=fa 23
section
variable {P:Bo}{w:Ce}{K:Ac}{mg:Str->Option Ae}{base:Heap}{C:Cc}{fa:Nat->Addr}{fb:Nat->Bk}(Y:Al K mg C fa fb)
seal L2.PE L2.PA L2.PS L2.fM L2.PT L2.PG L2.PI L2.PO
def KJ:=cA P w mg base 0 Y.x0.fn Y.x0.bi b6 YK YT fun hr hu nd=>(aV (b5 (v_and (iV (lI hr.units) (v 0) gQ) (pJ (cH (T8 rfl) (by rfl) Y.all_ U1 (aC (eD (i9 ["sign","signs"] [none,some 1] (fX (v 0)) (fun B=>(f9 (i:=0))) (fun B=>lP) (fun B=>(iV (i7 hu) (v 0) (v 1))))) aG))))))
def zew:=cA P w mg base 1 Y.x1.fn Y.x1.bi b6 YL YW fun hr hu nd=>Y.c_GREAT_LETTERS.elim fun t_GREAT_LETTERS h_GREAT_LETTERS=>Y.c_FIGURES.elim fun t_FIGURES h_FIGURES=>(aU (bL (i:=1) nd (fE F.plainAttrs_str F.slot_str_partition F.type_str_partition m_partition (v 0) (aC gQ aG)))
   (aU (bL (i:=2) nd (v_or (iV (kN hr.units) (aR hu (v 1) aL) gQ) (pJ (b9 (KJ Y) Y.x0 hr (aC (aR hu (v 1) aL) (aC (vT (y:=V.str "0123456789") (by rfl) h_FIGURES ⟨_,rfl⟩ (fun _ _=>.str _)) aG))))))
   (aV (b5 (v_and (v 2) (pJ (b9 (KJ Y) Y.x0 hr (aC (aR hu (v 1) aL) (aC (vT (y:=V.str "ABCDEFGHIJKLMNOPQRSTUVWXYZ") (by rfl) h_GREAT_LETTERS ⟨_,rfl⟩ (fun _ _=>.str _)) aG)))))))))
def uR:=cA P w mg base 0 Y.x2.fn Y.x2.bi b6 YM YX fun hr hu nd=>(aU (bL (i:=1) nd T9)
   (aU (eZ Br rfl (fX (v 0)) (dN (i:=2) nd)
    (aV (mL gD (w_sub hu (v 1) (aR hu (v 2) aL)))))
   (aV (b5 (jT (wH rfl) (by rfl) Y.list_ pV (aC (v 1) aG))))))
def zex:=cA P w mg base 0 Y.x3.fn Y.x3.bi b6 YN YY fun hr hu nd=>(aV (b5 (aR hu (aR hu (v 0) aL) aL)))
def zey:=cA P w mg base 2 Y.x4.fn Y.x4.bi b6 YO YZ fun hr hu nd=>(aU (dP (cQ mJ (aR hu (v 0) aL) aL)
    (aV wL)
    eU)
   (aV (eZ Br rfl (fX (aR hu (v 0) aL)) (dN (i:=2) nd)
    (aV (dP (PW.pt (vV (fW (b9 (zew Y) Y.x1 hr (aC (v 2) aG))) (vU (cQ (nP hu) (v 2) (v 1)))))
    (aV wL)
    eU)))))
def zez:=cA P w mg base 3 Y.x5.fn Y.x5.bi b6 YQ Y0 fun hr hu nd=>(aU (dP (cQ (kN hr.units) (cH dC (by rfl) Y.len_ dE (aC (v 0) aG)) aL)
    (aV wL)
    eU)
   (aU (bL (i:=1) nd (eD (b9 (uR Y) Y.x2 hr (aC (v 0) aG))))
   (aU (eZ Br rfl (fX (v 0)) (dN (i:=2) nd)
    (aV (eM (b9 (zey Y) Y.x4 hr (aC (v 2) (aC (v 1) aG))))))
   (aV (b5 (jT (wH rfl) (by rfl) Y.list_ pV (aC (v 0) aG)))))))
def zU:=cA P w mg base 0 Y.x6.fn Y.x6.bi b6 zae zam fun hr hu nd=>(aV (b5 (jT (VC rfl) (by rfl) Y.dict_ GN (aC (eD (i9 ["thing"] [none] (fX (v 0)) (fun B=>(f9 (i:=0))) (fun B=>lP) (fun B=>(c7 (aC (v 0) (aC gD aG)))))) aG))))
def zeA:=cA P w mg base 0 Y.x7.fn Y.x7.bi b6 zcl zcx fun hr hu nd=>(aV (b5 (zbj (by rfl) Y.list_ (by rfl) Y.range_ (bJ cJ (cH dC (by rfl) Y.len_ dE (aC (v 0) aG)) aL))))
def zeB:=cA P w mg base 0 Y.x8.fn Y.x8.bi b6 zcm zcB fun hr hu nd=>(aV (b5 (jT (zaJ rfl (VP hr)) (by rfl) Y.dict_ GN (aC (eD (i9 ["place","word"] [none,none] (GQ (by rfl) Y.enumerate_ (aC (v 0) aG)) (fun B=>(jX rfl (eT (f9 (i:=0)) (eT (f9 (i:=1)) jW)))) (fun B=>lP) (fun B=>(c7 (aC (c7 (aC (v 1) (aC (v 0) aG))) (aC (e7 (aC (c7 (aC (bJ cJ (v 0) aL) (aC aL aG))) aG)) aG)))))) aG))))
def zeC:=cA P w mg base 0 Y.x9.fn Y.x9.bi b6 zdZ zeg fun hr hu nd=>(aV (b5 (i9 ["k","part","own","cut"] [none,none,some 0,some 2] (J5 (by rfl) Y.enumerate_ (aC (v 1) aG)) (fun B=>(jX rfl (eT (f9 (i:=0)) (eT (f9 (i:=1)) jW)))) (fun B=>(mP (cQ (i7 hu) (v 1) (v 2)))) (fun B=>(c7 (aC (v 1) (aC (aR hu (v 3) (v 0)) (aC (aR hu (v 3) (bJ cJ (v 0) aL)) aG))))))))
def zeD:=cA P w mg base 0 Y.x10.fn Y.x10.bi b6 XJ XS fun hr hu nd=>(aU (j0 Y.cls_Queue Y.na_costs (v 0) (kI aG))
   (aV (j0 Y.cls_Queue Y.na_waiting (v 0) mK)))
def zeE:=cA P w mg base 0 Y.x11.fn Y.x11.bi b6 XM XR fun hr hu nd=>(aV (b5 (iV (kN hr.units) (cH dC (by rfl) Y.len_ dE (aC (dU Y.cls_Queue Y.na_costs (v 0)) aG)) aL)))
def zeF:=cA P w mg base 0 Y.x12.fn Y.x12.bi b6 XN XT fun hr hu nd=>(aU (bL (i:=2) nd aL)
   (aU (bL (i:=3) nd (cH dC (by rfl) Y.len_ dE (aC (dU Y.cls_Queue Y.na_costs (v 0)) aG)))
   (aU (sH Br (cQ mJ (v 2) (v 3))
    (aU (bL (i:=4) nd (bJ pN (bJ cJ (v 2) (v 3)) aL))
   (aV (dP (cQ (VT hu) (aR hu (dU Y.cls_Queue Y.na_costs (v 0)) (v 4)) (v 1))
    (aV (bL (i:=2) nd (bJ cJ (v 4) aL)))
    (aV (bL (i:=3) nd (v 4)))))))
   (aV (b5 (v 2))))))
def zeG:=cA P w mg base 1 Y.x13.fn Y.x13.bi b6 XO XU fun hr hu nd=>(aU (dP (cQ (nP hu) (v 1) (dU Y.cls_Queue Y.na_waiting (v 0)))
    (aU (mL (kI aG) (w_sub hu (dU Y.cls_Queue Y.na_waiting (v 0)) (v 1)))
   (aV (eM (fE Cw F.slot_list_insert F.type_list_insert VU (dU Y.cls_Queue Y.na_costs (v 0)) (aC (lS Y.cls_Queue Y.x12.me (zeF Y) (hr.mono (by decide)) Y.x12.bi (v 0) (aC (v 1) aG)) (aC (v 1) aG))))))
    eU)
   (aV (eM (fE Cw Dr Dx i8 (aR hu (dU Y.cls_Queue Y.na_waiting (v 0)) (v 1)) (aC (v 2) aG)))))
def zeH:=cA P w mg base 0 Y.x14.fn Y.x14.bi b6 XQ XW fun hr hu nd=>(aU (bL (i:=1) nd (aR hu (dU Y.cls_Queue Y.na_costs (v 0)) (lE lG aL)))
   (aU (bL (i:=2) nd (aR hu (dU Y.cls_Queue Y.na_waiting (v 0)) (v 1)))
   (aU (bL (i:=3) nd (vX Cw Mu F.type_list_pop wI (v 2)))
   (aU (dP (cQ (kN hr.units) (cH dC (by rfl) Y.len_ dE (aC (v 2) aG)) aL)
    (aU (eM (vX Cw Mu F.type_list_pop wI (dU Y.cls_Queue Y.na_costs (v 0))))
   (aV (eM (fE Ia F.slot_dict_pop F.type_dict_pop (VM hu) (dU Y.cls_Queue Y.na_waiting (v 0)) (aC (v 1) aG)))))
    eU)
   (aV (b5 (c7 (aC (v 1) (aC (v 3) aG)))))))))
def KL:=cA P w mg base 0 Y.x15.fn Y.x15.bi b6 zaf zan fun hr hu nd=>(aV (b5 (c7 (aC (bJ cJ (aR hu (v 0) aL) (aR hu (v 1) aL)) (aC (bJ cJ (aR hu (v 0) aL) (aR hu (v 1) aL)) aG)))))
def zeI:=cA P w mg base 2 Y.x16.fn Y.x16.bi b6 zak zav fun hr hu nd=>(aU (j0 Y.cls_Search Y.na_grammar (v 0) (v 1))
   (aU (j0 Y.cls_Search Y.na_own (v 0) (b9 (zU Y) Y.x6 hr (aC (eD (b9 (uR Y) Y.x2 hr (aC (v 1) aG))) aG)))
   (aU (j0 Y.cls_Search Y.na_steps (v 0) (v 2))
   (aU (j0 Y.cls_Search Y.na_queue (v 0) (VF Y.x10.mak (zeD Y) (hr.mono (by decide)) (by rfl) Y.at__Queue Y.x10.bi))
   (aU (j0 Y.cls_Search Y.na_reached (v 0) mK)
   (aU (j0 Y.cls_Search Y.na_best (v 0) mK)
   (aU (j0 Y.cls_Search Y.na_ends (v 0) mK)
   (aV (j0 Y.cls_Search Y.na_begun (v 0) mK)))))))))
def uS:=cA P w mg base 2 Y.x17.fn Y.x17.bi b6 zag zap fun hr hu nd=>(aU (bL (i:=4) nd (c7 (aC (v 1) (aC (cH dC (by rfl) Y.len_ dE (aC (v 2) aG)) (aC (aR hu (v 2) aL) (aC (aR hu (v 2) (lE lG aL)) aG))))))
   (aV (dP (PW.pt (kH (cQ (nP hu) (v 4) (dU Y.cls_Search Y.na_reached (v 0))) (pH (cQ (G5 hu) (v 3) (aR hu (dU Y.cls_Search Y.na_reached (v 0)) (v 4))))))
    (aU (mL (v 3) (w_sub hu (dU Y.cls_Search Y.na_reached (v 0)) (v 4)))
   (aV (eM (lS Y.cls_Queue Y.x13.me (zeG Y) (hr.mono (by decide)) Y.x13.bi (dU Y.cls_Search Y.na_queue (v 0)) (aC (v 3) (aC (c7 (aC (v 1) (aC (v 2) aG))) aG))))))
    eU)))
def zeJ:=cA P w mg base 3 Y.x18.fn Y.x18.bi b6 zai zas fun hr hu nd=>(aU (bL (i:=4) nd (c7 (aC (aR hu (aR hu (dU Y.cls_Search Y.na_grammar (v 0)) (v 1)) aL) (aC (aR hu (v 2) aL) aG))))
   (aU (bL (i:=5) nd (bJ cJ (v 4) (c7 (aC (aR hu (v 2) (lE lG aL)) aG))))
   (aU (dP (cQ (i7 hu) (v 5) (dU Y.cls_Search Y.na_best (v 0)))
    (aV FT)
    eU)
   (aU (mL (c7 (aC (v 3) (aC (v 1) (aC (v 2) aG)))) (w_sub hu (dU Y.cls_Search Y.na_best (v 0)) (v 5)))
   (aU (eM (fE Cw Dr Dx i8 (fE Ia F.slot_dict_setdefault F.type_dict_setdefault (GZ hu) (dU Y.cls_Search Y.na_ends (v 0)) (aC (v 4) (aC (kI aG) aG))) (aC (c7 (aC (aR hu (v 2) (lE lG aL)) (aC (v 3) aG))) aG)))
   (aV (eZ Br rfl (sJ (fE Ia F.slot_dict_get F.type_dict_get (xB hu) (dU Y.cls_Search Y.na_begun (v 0)) (aC (v 4) (aC (e7 aG) aG)))) (jX rfl (eT (dN (i:=6) nd) (eT (dN (i:=7) nd) (eT (dN (i:=8) nd) jW))))
    (aV (eM (lS Y.cls_Search Y.x17.me (uS Y) (hr.mono (by decide)) Y.x17.bi (v 0) (aC (v 6) (aC (bJ cJ (v 7) (c7 (aC (aR hu (v 2) (lE lG aL)) aG))) (aC (b9 (KL Y) Y.x15 hr (aC (v 8) (aC (v 3) aG))) aG)))))))))))))
def zeK:=cA P w mg base 3 Y.x19.fn Y.x19.bi b6 zah zaq fun hr hu nd=>(aU (eM (fE Cw Dr Dx i8 (fE Ia F.slot_dict_setdefault F.type_dict_setdefault (GZ hu) (dU Y.cls_Search Y.na_begun (v 0)) (aC (v 4) (aC (kI aG) aG))) (aC (c7 (aC (v 1) (aC (v 2) (aC (v 3) aG)))) aG)))
   (aV (eZ Br rfl (sJ (fE Ia F.slot_dict_get F.type_dict_get (xB hu) (dU Y.cls_Search Y.na_ends (v 0)) (aC (v 4) (aC (e7 aG) aG)))) (jX rfl (eT (dN (i:=5) nd) (eT (dN (i:=6) nd) jW)))
    (aV (eM (lS Y.cls_Search Y.x17.me (uS Y) (hr.mono (by decide)) Y.x17.bi (v 0) (aC (v 1) (aC (bJ cJ (v 2) (c7 (aC (v 5) aG))) (aC (b9 (KL Y) Y.x15 hr (aC (v 3) (aC (v 6) aG))) aG)))))))))
def zeL:=cA P w mg base 4 Y.x20.fn Y.x20.bi b6 zaj zat fun hr hu nd=>(aU (bL (i:=1) nd (xA Y.cls_Queue Y.x14.me (zeH Y) (hr.mono (by decide)) Y.x14.bi (dU Y.cls_Search Y.na_queue (v 0))))
   (aU (bL (i:=2) nd (aR hu (v 1) aL))
   (aU (bL (i:=3) nd (aR hu (aR hu (v 1) aL) aL))
   (aU (bL (i:=4) nd (aR hu (aR hu (v 1) aL) aL))
   (aU (dP (cQ (G5 hu) (aR hu (dU Y.cls_Search Y.na_reached (v 0)) (c7 (aC (v 3) (aC (cH dC (by rfl) Y.len_ dE (aC (v 4) aG)) (aC (aR hu (v 4) aL) (aC (aR hu (v 4) (lE lG aL)) aG)))))) (v 2))
    (aV FT)
    eU)
   (aU (bL (i:=5) nd (aR hu (aR hu (dU Y.cls_Search Y.na_grammar (v 0)) (v 3)) aL))
   (aV (dP (cQ TB (cH dC (by rfl) Y.len_ dE (aC (v 4) aG)) (cH dC (by rfl) Y.len_ dE (aC (v 5) aG)))
    (aV (eM (lS Y.cls_Search Y.x18.me (zeJ Y) (hr.mono (by decide)) Y.x18.bi (v 0) (aC (v 3) (aC (v 4) (aC (v 2) aG))))))
    (aV (dP (cQ (i7 hu) (aR hu (v 5) (bJ pM (cH dC (by rfl) Y.len_ dE (aC (v 4) aG)) aL)) (dU Y.cls_Search Y.na_own (v 0)))
    (aV (eM (lS Y.cls_Search Y.x19.me (zeK Y) (hr.mono (by decide)) Y.x19.bi (v 0) (aC (v 3) (aC (v 4) (aC (v 2) (aC (c7 (aC (aR hu (v 5) (bJ pM (cH dC (by rfl) Y.len_ dE (aC (v 4) aG)) aL)) (aC (aR hu (v 4) (lE lG aL)) aG))) aG)))))))
    (aV (eZ Br rfl (sJ (fE Ia F.slot_dict_get F.type_dict_get (xB hu) (dU Y.cls_Search Y.na_steps (v 0)) (aC (c7 (aC (aR hu (v 5) (bJ pM (cH dC (by rfl) Y.len_ dE (aC (v 4) aG)) aL)) (aC (aR hu (v 4) (lE lG aL)) aG))) (aC (e7 aG) aG)))) (jX rfl (eT (dN (i:=6) nd) (eT (dN (i:=7) nd) jW)))
    (aV (eM (lS Y.cls_Search Y.x17.me (uS Y) (hr.mono (by decide)) Y.x17.bi (v 0) (aC (v 3) (aC (bJ cJ (v 4) (c7 (aC (v 6) aG))) (aC (c7 (aC (bJ cJ (aR hu (v 2) aL) (v 7)) (aC (aR hu (v 2) aL) aG))) aG))))))))))))))))))
def zeM:=cA P w mg base 5 Y.x21.fn Y.x21.bi b6 zal zaA fun hr hu nd=>(aU (bL (i:=4) nd (VE Y.x16.mak (zeI Y) (hr.mono (by decide)) (by rfl) Y.at__Search Y.x16.bi (aC (v 0) (aC (v 2) aG))))
   (aU (eZ Br rfl (nR (by rfl) Y.range_ (aC (cH dC (by rfl) Y.len_ dE (aC (v 0) aG)) aG)) (dN (i:=5) nd)
    (aV (eZ Br rfl (fX (v 1)) (dN (i:=6) nd)
    (aV (eM (lS Y.cls_Search Y.x17.me (uS Y) (hr.mono (by decide)) Y.x17.bi (v 4) (aC (v 5) (aC (c7 (aC (v 6) aG)) (aC (c7 (aC (aR hu (v 3) (v 5)) (aC aL aG))) aG)))))))))
   (aU (sH Br (iZ (fW (xA Y.cls_Queue Y.x11.me (zeE Y) (hr.mono (by decide)) Y.x11.bi (dU Y.cls_Search Y.na_queue (v 4)))))
    (aV (eM (xA Y.cls_Search Y.x20.me (zeL Y) (hr.mono (by decide)) Y.x20.bi (v 4)))))
   (aV (b5 (dU Y.cls_Search Y.na_best (v 4)))))))
def zeN:=cA P w mg base 1 Y.x22.fn Y.x22.bi b6 zd0 zej fun hr hu nd=>(aU (bL (i:=3) nd (b9 (zU Y) Y.x6 hr (aC (eD (b9 (uR Y) Y.x2 hr (aC (v 0) aG))) aG)))
   (aU (bL (i:=4) nd (zc2 hu (v 2) gD))
   (aU (bL (i:=5) nd (kI (aC (v 2) aG)))
   (aU (sH Br (fW (v 5))
    (aU (bL (i:=6) nd (aR hu (v 1) (vX Cw Mu F.type_list_pop wI (v 5))))
   (aV (eZ Br rfl (fX (eD (b9 (zeC Y) Y.x9 hr (aC (v 3) (aC (aR hu (aR hu (v 0) (aR hu (v 6) aL)) aL) (aC (aR hu (v 6) aL) aG)))))) (dN (i:=7) nd)
    (aV (dP (cQ (nP hu) (v 7) (v 4))
    (aU (mL gD (w_sub hu (v 4) (v 7)))
   (aV (eM (fE Cw Dr Dx i8 (v 5) (aC (v 7) aG)))))
    eU))))))
   (aV (b5 (i9 ["fact","found"] [none,some 4] (zaI (v 1)) (fun B=>(f9 (i:=0))) (fun B=>(mP (cQ (i7 hu) (v 0) (v 1)))) (fun B=>(v 0)))))))))
def zeO:=cA P w mg base 0 Y.x23.fn Y.x23.bi b6 zd2 zec fun hr hu nd=>(aV (b5 (c7 (aC (v 0) (aC (jT FN (by rfl) Y.tuple_ sP (aC (v 1) aG)) aG)))))
def zeP:=cA P w mg base 0 Y.x24.fn Y.x24.bi b6 zd1 zeb fun hr hu nd=>(aV (b5 (v 0)))
def zeQ:=cA P w mg base 2 Y.x25.fn Y.x25.bi b6 zd3 zeo fun hr hu nd=>(aU (bL (i:=5) nd (b9 (zU Y) Y.x6 hr (aC (eD (b9 (uR Y) Y.x2 hr (aC (v 0) aG))) aG)))
   (aU (bL (i:=6) nd mK)
   (aU (eZ Br rfl (fX (eD (b9 (zeN Y) Y.x22 hr (aC (v 0) (aC (v 1) (aC (v 2) aG)))))) (dN (i:=7) nd)
    (aU (bL (i:=8) nd (aR hu (aR hu (v 1) (v 7)) aL))
   (aU (bL (i:=9) nd (aR hu (aR hu (v 1) (v 7)) aL))
   (aU (bL (i:=10) nd (kI aG))
   (aU (eZ Br rfl (J5 (by rfl) Y.enumerate_ (aC (aR hu (aR hu (v 0) (v 8)) aL) aG)) (jX rfl (eT (dN (i:=11) nd) (eT (dN (i:=12) nd) jW)))
    (aV (dP (cQ (i7 hu) (v 12) (v 5))
    (aV (eM (fE Cw Dr Dx i8 (v 10) (aC (aR hu (v 6) (c7 (aC (v 12) (aC (aR hu (v 9) (v 11)) (aC (aR hu (v 9) (bJ cJ (v 11) aL)) aG))))) aG))))
    (aV (eM (fE Cw Dr Dx i8 (v 10) (aC (J2 (i:=3) Y.f_same_word (zeP Y) hr Y.x24.fn.kp Y.x24.bi (aC (v 12) (aC (aR hu (v 9) (v 11)) (aC (aR hu (v 9) (bJ cJ (v 11) aL)) aG)))) aG)))))))
   (aV (mL (J2 (i:=4) Y.f_knot_of (zeO Y) hr Y.x23.fn.kp Y.x23.bi (aC (v 8) (aC (v 10) aG))) (w_sub hu (v 6) (v 7)))))))))
   (aV (b5 (aR hu (v 6) (v 2)))))))
def zeR:=cA P w mg base 3 Y.x26.fn Y.x26.bi b6 zd4 zed fun hr hu nd=>(aV (b5 (b9 (zeQ Y) Y.x25 hr (aC (v 0) (aC (v 1) (aC (v 2) (aC (J3 Y.f_same_word Y.x24) (aC (J3 Y.f_knot_of Y.x23) aG))))))))
def zeS:=cA P w mg base 6 Y.x27.fn Y.x27.bi b6 zcn zcD fun hr hu nd=>(aV (b5 (b9 (zeM Y) Y.x21 hr (aC (v 0) (aC (eD (b9 (zeA Y) Y.x7 hr (aC (v 1) aG))) (aC (eD (b9 (zeB Y) Y.x8 hr (aC (v 1) aG))) (aC (v 2) aG)))))))
def zeT:=cA P w mg base 0 Y.x28.fn Y.x28.bi b6 zco zcy fun hr hu nd=>(aV (b5 (i9 ["rule"] [none] (fX (v 0)) (fun B=>(f9 (i:=0))) (fun B=>lP) (fun B=>aL))))
def zeU:=cA P w mg base 1 Y.x29.fn Y.x29.bi b6 zdY zea fun hr hu nd=>(aV (b5 (c7 (aC (b9 (zex Y) Y.x3 hr (aC (v 0) aG)) (aC aL (aC (cH dC (by rfl) Y.len_ dE (aC (v 1) aG)) aG))))))
def KN:=cA P w mg base 7 Y.x30.fn Y.x30.bi b6 zd5 zeq fun hr hu nd=>(aU (bL (i:=2) nd (zaD (b9 (zeS Y) Y.x27 hr (aC (v 0) (aC (v 1) (aC (eD (b9 (zeT Y) Y.x28 hr (aC (v 0) aG))) aG))))))
   (aU (bL (i:=3) nd (b9 (zeU Y) Y.x29 hr (aC (v 0) (aC (v 1) aG))))
   (aV (b5 (SX (cQ (i7 hu) (v 3) (v 2)) (b9 (zeR Y) Y.x26 hr (aC (v 0) (aC (v 2) (aC (v 3) aG)))) EW)))))
def uU:=cA P w mg base 0 Y.x31.fn Y.x31.bi b6 zcp zcF fun hr hu nd=>(aU (dP (GO E6 mJ aL (v 1) (cH dC (by rfl) Y.len_ dE (aC (v 0) aG)))
    (aV (b5 (aR hu (v 0) (v 1))))
    eU)
   (aV (b5 (v 1))))
def zeV:=cA P w mg base 0 Y.x32.fn Y.x32.bi b6 zcq zcG fun hr hu nd=>(aU (bL (i:=2) nd (bJ lR (bJ cJ (bJ cJ (bJ i0 (v 0) (bJ v3 aL aL)) (bJ lR aL (v 1))) aL) aL))
   (aU (bL (i:=2) nd (bJ i0 (v 2) aL))
   (aU (bL (i:=2) nd (bJ i0 (bJ cJ (bJ cJ (bJ lR (v 2) (v 2)) (bJ lR aL (v 1))) aL) aL))
   (aV (b5 (bJ pN (bJ i0 (bJ lR (v 2) (v 2)) aL) aL))))))
def uV:=cA P w mg base 1 Y.x33.fn Y.x33.bi b6 zcr zcH fun hr hu nd=>(aU (bL (i:=2) nd (kI aG))
   (aU (bL (i:=3) nd (bJ pM (v 0) (bJ v3 aL aL)))
   (aU (eZ Br rfl (GQ (by rfl) Y.enumerate_ (aC (v 1) aG)) (jX rfl (eT (dN (i:=4) nd) (eT (dN (i:=5) nd) jW)))
    (aV (dP (cQ E8 (v 3) aL)
    (aU (eM (fE Cw Dr Dx i8 (v 2) (aC (bJ i0 (v 3) (v 5)) aG)))
   (aV (bL (i:=3) nd (bJ pN (v 3) (v 5)))))
    (aV (eM (fE Cw Dr Dx i8 (v 2) (aC (bJ i0 (b9 (zeV Y) Y.x32 hr (aC (v 0) (aC (v 4) aG))) (v 5)) aG)))))))
   (aV (b5 (v 2))))))
def zeW:=cA P w mg base 2 Y.x34.fn Y.x34.bi b6 zcs zcP fun hr hu nd=>(aU (uJ (i:=1) nd ["k","script"] [none,some 0] (nR (by rfl) Y.range_ (aC (bJ cJ aL (bJ i0 (b9 (uU Y) Y.x31 hr (aC (v 0) (aC aL aG))) aL)) aG)) (fun B=>(f9 (i:=0))) (fun B=>lP) (fun B=>(b9 (uU Y) Y.x31 hr (aC (v 1) (aC (bJ cJ aL (v 0)) aG)))))
   (aU (bL (i:=2) nd (eD (i9 ["cell"] [none] (fX (v 1)) (fun B=>(f9 (i:=0))) (fun B=>lP) (fun B=>(aR hu (e7 (aC gQ (aC gQ (aC gQ (aC gQ aG))))) (aR hu (eD (b9 (uV Y) Y.x33 hr (aC (v 0) (aC (e7 (aC aL aG)) aG)))) aL))))))
   (aU (uJ (i:=3) nd ["k","heads"] [none,some 2] (nR (by rfl) Y.range_ (aC (cH dC (by rfl) Y.len_ dE (aC (v 2) aG)) aG)) (fun B=>(f9 (i:=0))) (fun B=>(mP (cQ (nP hu) (aR hu (v 1) (v 0)) (pU (v 1) sD (lL (v 0)))))) (fun B=>(aR hu (v 1) (v 0))))
   (aU (bL (i:=4) nd (kI aG))
   (aU (eZ Br rfl (GR (by rfl) Y.zip_ (aC (v 2) (aC (v 1) aG))) (jX rfl (eT (dN (i:=5) nd) (eT (dN (i:=6) nd) jW)))
    (aU (bL (i:=7) nd (eD (b9 (uV Y) Y.x33 hr (aC (v 6) (aC (e7 (aC aL (aC aL (aC aL (aC aL (aC aL (aC aL (aC aL (aC (bJ v3 aL aL) aG))))))))) aG)))))
   (aU (bL (i:=8) nd (kI aG))
   (aU (eZ Br rfl (fX (pU (v 7) (lL aL) (lL (bJ cJ aL (aR hu (v 7) aL))))) (dN (i:=9) nd)
    (aV (dP (cQ mJ (v 9) aL)
    (aV (eM (fE Cw Dr Dx i8 (v 8) (aC (aR hu (e7 (aC gQ (aC gQ (aC gQ aG)))) (v 9)) aG))))
    (aV (eM (fE Cw Dr Dx i8 (v 8) (aC (aR hu (v 3) (bJ i0 (bJ pM (v 9) aL) (cH dC (by rfl) Y.len_ dE (aC (v 3) aG)))) aG)))))))
   (aV (eM (fE Cw Dr Dx i8 (v 4) (aC (c7 (aC (v 5) (aC (jT FN (by rfl) Y.tuple_ sP (aC (v 8) aG)) (aC (aR hu (e7 (aC aL (aC aL (aC (bJ i0 (aR hu (v 7) aL) aL) (aC (aR hu (v 7) aL) aG))))) (aR hu (v 7) aL)) aG)))) aG))))))))
   (aV (b5 (v 4))))))))
def uW:=cA P w mg base 0 Y.x35.fn Y.x35.bi b6 zct zcI fun hr hu nd=>(aV (b5 (iV (i7 hu) (aR hu (v 0) aL) gQ)))
def zeX:=cA P w mg base 2 Y.x36.fn Y.x36.bi b6 zcu zcT fun hr hu nd=>(aU (bL (i:=3) nd (pU (v 0) (lL aL) (lL (bJ cJ aL (v 2)))))
   (aU (dP (cQ (kN hr.units) (bJ i0 (bJ pN (b9 (uU Y) Y.x31 hr (aC (v 0) (aC aL aG))) aL) aL) aL)
    (aV (b5 (i9 ["cell"] [none] (fX (v 3)) (fun B=>(f9 (i:=0))) (fun B=>lP) (fun B=>(aR hu (e7 (aC gQ (aC gQ (aC gQ (aC gQ aG))))) (aR hu (eD (b9 (uV Y) Y.x33 hr (aC (v 0) (aC (e7 (aC aL aG)) aG)))) aL))))))
    eU)
   (aU (bL (i:=4) nd (e7 (aC (aR hu (aR hu (v 1) aL) aL) aG)))
   (aU (eZ Br rfl (nR (by rfl) Y.range_ (aC aL aG)) (dN (i:=5) nd)
    (aU (uJ (i:=6) nd ["at","row"] [none,some 4] (nR (by rfl) Y.range_ (aC (cH dC (by rfl) Y.len_ dE (aC (v 4) aG)) aG)) (fun B=>(f9 (i:=0))) (fun B=>(mP (fW (b9 (uW Y) Y.x35 hr (aC (aR hu (v 1) (v 0)) aG))))) (fun B=>(v 0)))
   (aV (dP (PW.pt (vV (cQ (lI hr.units) (v 6) (e7 aG)) (vU (cQ mJ (cH dC (by rfl) Y.len_ dE (aC (v 4) aG)) (bJ lR aL (v 2))))))
    (aU (bL (i:=7) nd (aR hu (v 6) aL))
   (aU (uJ (i:=8) nd ["rule","row","at"] [none,some 4,some 7] (fX (v 1)) (fun B=>(f9 (i:=0))) (fun B=>(mP (cQ (kN hr.units) (aR hu (v 0) aL) (aR hu (v 1) (v 2))))) (fun B=>(v 0)))
   (aU (bL (i:=9) nd (aR hu (v 8) (aR hu (eD (b9 (uV Y) Y.x33 hr (aC (bJ cJ (b9 (uU Y) Y.x31 hr (aC (v 0) (aC (bJ cJ aL (bJ i0 (v 5) aL)) aG))) (bJ lR (bJ pN (v 5) aL) aL)) (aC (e7 (aC (cH dC (by rfl) Y.len_ dE (aC (v 8) aG)) aG)) aG)))) aL)))
   (aV (bL (i:=4) nd (bJ cJ (bJ cJ (pU (v 4) sD (lL (v 7))) (jT (wV rfl) (by rfl) Y.list_ pV (aC (aR hu (v 9) aL) aG))) (pU (v 4) (lL (bJ cJ (v 7) aL)) sD)))))))
    eU))))
   (aV (b5 (TX (eD (i9 ["word"] [none] (fX (v 4)) (fun B=>(f9 (i:=0))) (fun B=>(mP (iZ (fW (b9 (uW Y) Y.x35 hr (aC (v 0) aG)))))) (fun B=>(v 0)))) sD (lL (v 2)))))))))
def zeY:=cA P w mg base 1 Y.x37.fn Y.x37.bi b6 zcv zcJ fun hr hu nd=>(aU (bL (i:=5) nd (e7 (aC (v 3) aG)))
   (aU (eZ Br rfl (fX (v 0)) (dN (i:=6) nd)
    (aU (bL (i:=7) nd (e7 aG))
   (aU (eZ Br rfl (fX (v 5)) (dN (i:=8) nd)
    (aV (dP (iZ (fW (b9 (uW Y) Y.x35 hr (aC (v 6) aG))))
    (aV (bL (i:=7) nd (bJ cJ (v 7) (bJ lR (e7 (aC (bJ cJ (v 8) aL) aG)) (jT zbr (by rfl) Y.int_ GL (aC (v_and (iV mJ (v 8) (cH dC (by rfl) Y.len_ dE (aC (v 1) aG))) (pJ (iV (kN hr.units) (aR hu (v 1) (v 8)) (v 6)))) aG))))))
    (aV (bL (i:=7) nd (bJ cJ (v 7) (eD (i9 ["to","known","part","place"] [none,some 2,some 6,some 8] (FZ (by rfl) Y.range_ (aC (v 8) (aC (bJ cJ (cH dC (by rfl) Y.len_ dE (aC (v 1) aG)) aL) aG))) (fun B=>(f9 (i:=0))) (fun B=>(mP (cQ (i7 hu) (c7 (aC (v 2) (aC (v 3) (aC (v 0) aG)))) (v 1)))) (fun B=>(v 0))))))))))
   (aV (bL (i:=5) nd (zbg (by rfl) Y.sorted_ (by rfl) Y.set_ (v 7)))))))
   (aV (b5 (iV (i7 hu) (v 4) (v 5))))))
def zeZ:=cA P w mg base 2 Y.x38.fn Y.x38.bi b6 zcw zcK fun hr hu nd=>(aU (bL (i:=2) nd mK)
   (aU (bL (i:=3) nd gD)
   (aU (sH Br (fW (v 3))
    (aU (bL (i:=3) nd gD)
   (aV (eZ Br rfl (sJ (v 0)) (jX rfl (eT (dN (i:=4) nd) (eT (dN (i:=5) nd) (eT (dN (i:=6) nd) jW))))
    (aV (eZ Br rfl (nR (by rfl) Y.range_ (aC (bJ cJ (cH dC (by rfl) Y.len_ dE (aC (v 1) aG)) aL) aG)) (dN (i:=7) nd)
    (aV (eZ Br rfl (FZ (by rfl) Y.range_ (aC (v 7) (aC (bJ cJ (cH dC (by rfl) Y.len_ dE (aC (v 1) aG)) aL) aG))) (dN (i:=8) nd)
    (aV (dP (PW.pt (vV (cQ (nP hu) (c7 (aC (v 4) (aC (v 7) (aC (v 8) aG)))) (v 2)) (vU (fW (b9 (zeY Y) Y.x37 hr (aC (v 5) (aC (v 1) (aC (v 2) (aC (v 7) (aC (v 8) aG))))))))))
    (aU (mL gD (w_sub hu (v 2) (c7 (aC (v 4) (aC (v 7) (aC (v 8) aG))))))
   (aV (bL (i:=3) nd gD)))
    eU))))))))))
   (aV (b5 (v 2))))))
theorem KO(Y:Al K mg C fa fb):∀ n,eC P w K mg base fD (1 + n) (fa 39) (fb 39) ["thing"] (fR K (qP n))
 | 0=>wR (k:=0) Y.x39.fn (b6 (N:=J6)) (fun _ _ _ h=>h.elim) fun _ _ _ _ _ _ _ _ _ _ h=>h.elim
 | n + 1=>cA P w mg base (1 + n) Y.x39.fn Y.x39.bi b6 (zd6 (n + 1)) zer fun hr hu nd=>(aU (dP (fW (cH pT (by rfl) Y.isinstance_ pW (aC (v 0) (aC (pG (by rfl) Y.str_ UZ (y:=.ty "str") rfl (fun _ _=>.ty _)) aG))))
    (aV (b5 aL))
    eU)
   (aV (b5 (cH (U9 rfl) (by rfl) Y.sum_ U2 (aC (eD (i9 ["child"] [none] (fX (aR hu (v 0) aL)) (fun B=>(f9 (i:=0))) (fun B=>lP) (fun B=>(mH (KO Y n) (hr.mono (by omega)) (by rfl) Y.x39.at_ Y.x39.fn.kp Y.x39.bi (aC (v 0) aG))))) aG)))))
def zV:=KO (P:=P) (w:=w) (base:=base) Y 30
def ze0:=cA P w mg base 0 Y.x40.fn Y.x40.bi b6 zd7 zes fun hr hu nd=>(aU (dP (PW.pt (kH (iZ (fW (cH pT (by rfl) Y.isinstance_ pW (aC (v 2) (aC (pG (by rfl) Y.tuple_ sP (y:=.ty "tuple") rfl (fun _ _=>.ty _)) aG))))) (kH (cQ (lI hr.units) (cH dC (by rfl) Y.len_ dE (aC (v 2) aG)) aL) (kH (iZ (fW (cH pT (by rfl) Y.isinstance_ pW (aC (aR hu (v 2) aL) (aC (pG (by rfl) Y.int_ GL (y:=.ty "int") rfl (fun _ _=>.ty _)) aG))))) (pH (fW (cH pT (by rfl) Y.isinstance_ pW (aC (aR hu (v 2) aL) (aC (pG (by rfl) Y.bool_ U0 (y:=.ty "bool") rfl (fun _ _=>.ty _)) aG)))))))))
    (aV (b5 gD))
    eU)
   (aU (dP (PW.pt (kH (iZ (GO E6 mJ aL (aR hu (v 2) aL) (cH dC (by rfl) Y.len_ dE (aC (v 0) aG)))) (kH (cQ (lI hr.units) (aR hu (aR hu (v 0) (aR hu (v 2) aL)) aL) (v 1)) (pH (iZ (fW (cH pT (by rfl) Y.isinstance_ pW (aC (aR hu (v 2) aL) (aC (pG (by rfl) Y.tuple_ sP (y:=.ty "tuple") rfl (fun _ _=>.ty _)) aG)))))))))
    (aV (b5 gD))
    eU)
   (aV (b5 (iV (kN hr.units) (cH dC (by rfl) Y.len_ dE (aC (aR hu (v 2) aL) aG)) (cH dC (by rfl) Y.len_ dE (aC (aR hu (aR hu (v 0) (aR hu (v 2) aL)) aL) aG)))))))
theorem KP(Y:Al K mg C fa fb):∀ n,eC P w K mg base fD (32 + n) (fa 41) (fb 41) ["rules","row","part","knot","begin","above"] (fR K (qR n))
 | 0=>wR (k:=31) Y.x41.fn (b6 (N:=J7)) (fun _ _ _ h=>h.elim) fun _ _ _ _ _ _ _ _ _ _ h=>h.elim
 | n + 1=>cA P w mg base (32 + n) Y.x41.fn Y.x41.bi b6 (zd8 (n + 1)) zeu fun hr hu nd=>(aU (dP (iZ (fW (mH (ze0 Y) (hr.mono (by omega)) (by rfl) Y.x40.at_ Y.x40.fn.kp Y.x40.bi (aC (v 0) (aC (v 2) (aC (v 3) aG))))))
    (aV (b5 gD))
    eU)
   (aU (bL (i:=6) nd (v 4))
   (aU (bL (i:=7) nd (c7 (aC (v 2) (aC (v 4) (aC (bJ cJ (v 4) (mH (zV Y) (hr.mono (by omega)) (by rfl) Y.x39.at_ Y.x39.fn.kp Y.x39.bi (aC (v 3) aG))) aG)))))
   (aU (dP (cQ (zcX hr.units) (v 7) (v 5))
    (aV (b5 gD))
    eU)
   (aU (eZ Br rfl (GR (by rfl) Y.zip_ (aC (aR hu (aR hu (v 0) (aR hu (v 3) aL)) aL) (aC (aR hu (v 3) aL) aG))) (jX rfl (eT (dN (i:=8) nd) (eT (dN (i:=9) nd) jW)))
    (aV (dP (iZ (fW (mH (uW Y) (hr.mono (by omega)) (by rfl) Y.x35.at_ Y.x35.fn.kp Y.x35.bi (aC (v 8) aG))))
    (aU (dP (PW.pt (kH (cQ (lI hr.units) (v 9) (v 8)) (kH (cQ E8 (v 6) (cH dC (by rfl) Y.len_ dE (aC (v 1) aG))) (pH (cQ (lI hr.units) (aR hu (v 1) (v 6)) (v 8))))))
    (aV (b5 gD))
    eU)
   (aV (bL (i:=6) nd (bJ cJ (v 6) aL))))
    (aU (dP (iZ (fW (mH (KP Y n) (hr.mono (by omega)) (by rfl) Y.x41.at_ Y.x41.fn.kp Y.x41.bi (aC (v 0) (aC (v 1) (aC (v 8) (aC (v 9) (aC (v 6) (aC (bJ cJ (v 5) (e7 (aC (v 7) aG))) aG)))))))))
    (aV (b5 gD))
    eU)
   (aV (bL (i:=6) nd (bJ cJ (v 6) (mH (zV Y) (hr.mono (by omega)) (by rfl) Y.x39.at_ Y.x39.fn.kp Y.x39.bi (aC (v 9) aG)))))))))
   (aV (b5 gD)))))))
def ze1:=KP (P:=P) (w:=w) (base:=base) Y 30
def ze2:=cA P w mg base 62 Y.x42.fn Y.x42.bi b6 zd9 zev fun hr hu nd=>(aU (bL (i:=1) nd (eD (b9 (zeW Y) Y.x34 hr (aC (v 0) aG))))
   (aU (bL (i:=2) nd (eD (b9 (zeX Y) Y.x36 hr (aC (v 0) (aC (v 1) (aC aL aG))))))
   (aU (bL (i:=3) nd (eD (b9 (zez Y) Y.x5 hr (aC (v 1) aG))))
   (aU (bL (i:=4) nd (iV (i7 hu) (c7 (aC (aR hu (aR hu (v 1) aL) aL) (aC aL (aC (cH dC (by rfl) Y.len_ dE (aC (v 2) aG)) aG)))) (eD (b9 (zeZ Y) Y.x38 hr (aC (v 1) (aC (v 2) aG))))))
   (aU (bL (i:=5) nd (e7 (aC (jT (wV rfl) (by rfl) Y.list_ pV (aC (v 3) aG)) (aC (jT (wV rfl) (by rfl) Y.list_ pV (aC (v 2) aG)) aG))))
   (aU (bL (i:=6) nd (b9 (KN Y) Y.x30 hr (aC (aR hu (v 5) aL) (aC (aR hu (v 5) aL) aG))))
   (aU (dP (PW.pt (kH (cQ (lI hr.units) (v 5) (e7 (aC (v 3) (aC (v 2) aG)))) (pH (cQ (lI hr.units) (b9 (KN Y) Y.x30 hr (aC (aR hu (v 5) aL) (aC (aR hu (v 5) aL) aG))) (v 6)))))
    (aV (b5 gD))
    eU)
   (aU (dP (iZ (fW (v 4)))
    (aV (b5 (iV TF (v 6) EW)))
    eU)
   (aV (b5 (v_and (b9 (ze1 Y) Y.x41 hr (aC (v 1) (aC (v 2) (aC (aR hu (aR hu (v 1) aL) aL) (aC (v 6) (aC aL (aC (e7 aG) aG))))))) (pJ (iV (kN hr.units) (b9 (zV Y) Y.x39 hr (aC (v 6) aG)) (cH dC (by rfl) Y.len_ dE (aC (v 2) aG)))))))))))))))
end
section
variable {w:Ce}{h:Heap}{mg:Str->Option Ae}
theorem mn{x:Str}(X:(hpK w.params).In h)(G:h.Ns Eb mg)(e:PySem.W.nsIn (hpK w.params) Eb x=some none:=by kernel_rfl):mg x=none:=PySem.W.mg_none_of X G e
theorem ze3(X:(hpK w.params).In h)(G:h.Ns Eb mg):Tx mg:=⟨⟨227,Jt (v:=.str "0123456789" 227) X G (by kernel_rfl)⟩,⟨225,Jt (v:=.str "ABCDEFGHIJKLMNOPQRSTUVWXYZ" 225) X G (by kernel_rfl)⟩,mn X G,mn X G,mn X G,mn X G,mn X G,mn X G,mn X G,mn X G,mn X G,mn X G,mn X G,mn X G,mn X G,mn X G,mn X G⟩
theorem ze4(X:(hpK w.params).In h)(G:h.Ns Eb mg):Kc (hpK w.params) mg ⟨146,202,232,239⟩:=⟨⟨by kernel_rfl,by kernel_rfl,by kernel_rfl,by kernel_rfl⟩,Jt (v:=.ref 146) X G (by kernel_rfl),⟨by kernel_rfl,by kernel_rfl,by kernel_rfl,by kernel_rfl⟩,Jt (v:=.ref 202) X G (by kernel_rfl),(show Cf (hpK w.params) (.ref 146) "costs" = some none by kernel_rfl),(show Cf (hpK w.params) (.ref 146) "waiting" = some none by kernel_rfl),(show Cf (hpK w.params) (.ref 202) "grammar" = some none by kernel_rfl),(show Cf (hpK w.params) (.ref 202) "own" = some none by kernel_rfl),(show Cf (hpK w.params) (.ref 202) "steps" = some none by kernel_rfl),(show Cf (hpK w.params) (.ref 202) "queue" = some none by kernel_rfl),(show Cf (hpK w.params) (.ref 202) "reached" = some none by kernel_rfl),(show Cf (hpK w.params) (.ref 202) "best" = some none by kernel_rfl),(show Cf (hpK w.params) (.ref 202) "ends" = some none by kernel_rfl),(show Cf (hpK w.params) (.ref 202) "begun" = some none by kernel_rfl)⟩
def ze5(i:Nat):Addr:=([44,51,58,65,72,79,84,91,96,101,115,122,136,129,143,157,171,178,199,192,185,213,218,239,232,225,246,253,258,265,272,279,286,293,298,305,310,315,322,327,334,341,348]:List Addr).getD i 0
noncomputable def ze6(i:Nat):Bk:=[BM,BN,BO,BP,BQ,BR,BS,BU,BV,BW,BX,BY,B0,BZ,B1,B2,B3,B4,B7,B6,B5,B8,B9,CC,CB,CA,CD,CF,CG,CH,CI,CJ,CK,CL,CM,CN,CO,CP,CQ,CS,CT,CU,qS].getD i qS
theorem ze7(X:(hpK w.params).In h)(G:h.Ns Eb mg):Al (hpK w.params) mg ⟨146,202,232,239⟩ ze5 ze6:=⟨ze3 X G,ze4 X G,dF X G,dF X G,dF X G,dF X G,dF X G,dF X G,dF X G,dF X G,dF X G,dF X G,dI,dM,dM,dM,dM,dF X G,dI,dM,dM,dM,dM,dF X G,dF X G,dF X G,dF X G,dF X G,dF X G,dF X G,dF X G,dF X G,dF X G,dF X G,dF X G,dF X G,dF X G,dF X G,dF X G,dF X G,dF X G,dF X G,dF X G,dF X G,dF X G,rfl,rfl⟩
end
theorem ze8{l:PySem.W.OpenLaw}{w:Ce}{h:Heap}{mg:Str->Option Ae}{fa:Addr}(X:(hpK w.params).In h)(G:h.Ns Eb mg)(hfa:mg "law" = some (.ref fa)) :
  ∃ fd:Bk,(∀ (s:Ah) (v:Ae),BindsTo s fd ⟨[v],[]⟩ [("script",v)])/\∀ base:Heap,(hpK w.params).In base->base.Ns Eb mg->eC l.prog w (hpK w.params) mg base fD 63 fa fd ["script"] (fR (hpK w.params) pR):=by
 have e:=hfa.symm.trans (Jt (v:=.ref 348) X G (by kernel_rfl))
 cases e
 exact⟨qS,fun s v=>.of_eq rfl,fun base _ _=>ze2 (ze7 X G)⟩
theorem ze9{l:PySem.W.OpenLaw}{q:Bo}{loose:List Str}{XP:(Str->Option Ae)->Heap->Prop}{YP:Ce->Heap->Prop}{d:DefRec}{K:Params->Ac}(hn:l.most=some 63)(hdf:d.params.defaults=[])
  (hY:∀ (w:Ce) (h:Heap),YP w h->(K w.params).In h)
  (F:∀ (w:Ce) (mg:Str->Option Ae) (fa:Addr) (h:Heap),(K w.params).In h->h.Ns Eb mg->mg d.name=some (.ref fa)->
   ∃ fd:Bk,(∀ (s:Ah) (u:Ae),BindsTo s fd ⟨[u],[]⟩ [("script",u)])/\∀ base:Heap,(K w.params).In base->base.Ns Eb mg->eC l.prog w (K w.params) mg base fD 63 fa fd ["script"] (fR (K w.params) pR)) :
  PySem.W.WalkO q loose XP YP l.row.toRowW d [] (fun f vs=>PySem.call f vs):=
 L2.Q8 (n:=63) (k:=63) (x:="script") (CX:=fun _=>fD) (sp:=fun w=>fR (K w.params) pR) hn (by decide) hdf ⟨rfl,by decide,by decide⟩ hY F (fun _ _ a ns hl ho hS=>UN hl ho hS) fun _ _ _ _ _ z=>z
end Rg
open PySem PySem.W PyProof.Rows
set_option maxRecDepth 100000 in
set_option maxHeartbeats 0 in
theorem PySem.Challenge.cw_readgrove_k19_readings_told_holds : PySem.Challenge.rw_readgrove_k19_readings_told.Holds := by
 w_on; o_law
 refine PySem.W.holds_open (r := PySem.Challenge.rw_readgrove_k19_readings_told.row) (q := Rg.qv) (loose := []) (N := 4568)
  (Xt := fun s => xlAt Rg.qv [] s && recOk (RowW.records (OpenRow.toRowW PySem.Challenge.rw_readgrove_k19_readings_told.row)) s)
  (XP := XL Rg.qv []) (Yf := Rg.hk.obs) (Ya := Rg.hk.val) (YP := Rg.hk.says) ?hl Rg.hk.of Rg.hk.keeps
  (fun s e => xl_of s (Kh.mp e).1) XL.keeps (by rfl) (by rfl) (by rfl) (fun s e => recFacts_of (Kh.mp e).2)
  (by rfl) (by assumption) (by decide +kernel) ⟨rfl, rfl, rfl, rfl, rfl, by decide +kernel⟩ ?hw ?hc
 case hw => w_witness2
 case hc => exact Rg.ze9 (l := PySem.Challenge.rw_readgrove_k19_readings_told) rfl rfl (fun w h Y => PySem.W.kIn_of Y) (fun w mg fa h KX G hmg => Rg.ze8 KX G hmg)
 case hl => exact Rg.KR
