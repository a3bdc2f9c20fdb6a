import PyProof.Rows.All
import Wide.All
import OpenK.AllK
import Wide.FinOn
import Lean
import PyProof.EqAt
import PyProof.EqKinds
import PyProof.TupleCall
import PySem.Challenge.RW_readgrove_k48_whole_no_fewer_mends
open List renaming length_map→Aa,length_append→Af,getElem?_eq_some_iff→Ah,mem_singleton→An,length_cons→Ar,getElem?_map→Au,mem_cons_of_mem→Av,size_toArray→Aw,getElem?_eq_getElem→Ax,mem_cons→Ay,mem_map→Ba,mem_cons_self→Bb,map_cons→Bc,mem_append→Be,map_append→Bf,length_take→Bj,length_singleton→Bl,mem_of_getElem?→Bn,lookup_cons→Br,mem_append_right→Bt,map_map→Bv,replicate→Bw,mem_append_left→Bx,lookup→Bz,take_length→Ck,append_nil→Ct,range→Cw,length→Cz,mem_filter→Dh,append_assoc→Dl,length_drop→Ds,nodup_cons→Dy,foldl_cons→Dz,filterMap_cons→Ea,eq_nil_or_concat→Ed,concat_eq_append→Ee,nil_append→Eh,filter_cons→Em,take_add_one→Eu,nodup_append→Ew,flatten_cons→Ex,length_pos_iff→Fb,find?_cons→Fc,mem_flatMap→Fg,length_range→Fj,getElem?_cons_succ→Fl,length_nil→Fm,replicate_succ→Fq,any_cons→Fw,mem_nil_iff→Fx,getD_eq_getElem?_getD→Fz,getElem?_append_left→Ge,nodup_nil→Gm,length_eq_zero_iff→Gp,take_of_length_le→Gs,drop_eq_nil_of_le→Gu,append_of_mem→Gv,mem_zipIdx_iff_getElem?→Gz,length_filter_le→Hd,mem_range→Hl,getElem?_append_right→Hm,getElem_mem→Hr,getLastD_eq_getLast?→Ht,map_congr_left→Hx,mem_filterMap→Ie,filterMap_map→Ig,foldl_append→Ip,take_append_drop→Iw,getElem?_eq_none→Iy,all_eq_true→Iz,map_drop→Jd,map→Ji,flatten_append→Jo,map_nil→Jp,pairwise_iff_getElem→Kb,getElem?_eq_none_iff→Kd,drop_eq_getElem_cons→Ke,map_take→Kj,zipIdx_cons→Kq,map_const'→Lb,mem_of_mem_take→Lh,getElem?_zipIdx→Li,getElem?_of_mem→Lj,all_cons→Ly
open PySem.W renaming Frag→Ab,findIn→Cf,keepIn→Eb,fnOf→Ec,emptyDict→Er,tabObj→Fh,instObj→Gd,kla_obj→Hw,callWith_K→Hy,codeIn→Ih,mg_of→Iu,plainGet→Kh,codeHdIn→Ki,isFn→Kn,lookIn→La,plainGet_of→Lg
open PySem renaming wpAny_bind→Ac,Value→Ae,Shared→Ag,sizeLine→Ak,wpAny_pure→Am,starEach→Bg,wpAny→Bh,FuncData→Bi,model→Bq,Program→Bu,compareOp→Ci,World→Cm,Around→Co,mainGlobals→De,wpAny_Call_Name_kw→Dg,wpAny_holding→Dq,bootBuiltins→Dv,wpAny_newObj_type→Eg,tupleKind_room_in1→Ep,mem_of_lookup→Es,binaryOp→Fe,cLine→Ff,wpAny_call_entry→Fi,Paired→Fn,tupleKind→Fs,sysModules→Ft,backTo→Gf,assignEach→Gg,foldedSetIterable→Gk,wpAny_callSpecial?_slot→Gx,wpAny_typeNameOfWhole_keyiter→Hb,Scope→Hc,wpAny_mono→He,wpAny_passesOwn→Hi,behindInMarks→Hj,DictEntry→Ho,wpAny_dictEntries→Hq,NameKind→Hz,wpAny_typeNameOf_keyiter→Ij,attributeBase→Ik,holding→Il,swapsWith→Ir,codeAny→Jb,wpAny_notOrdered_dict→Jk,wpAny_rule→Jl,wpAny_eqBool_int→Jm,call_meets→Jn,wpAny_field→Jq,sliceBounds→Jr,codeAny_mono→Kf,call_meetsIn→Kg,wpAny_tupleItemsOf→Kk,wpAny_pyIter_tuple→Kl,rawInt→Km,PyData→Ko,Expr→Kr,wpAny_pyIter_enum→Ku,sizeLine_eq→Kv,keywordEach→Kw,pyNext→Ky,assign→Kz,wpAny_isInstance→Ld,atKey→Lf,builtinsNs→Lo,wpAny_execs_nil→Ls,size_of_entries→Lu,letOwnedTupleGo→Lv,builtinLookup_eq_fast→Lw,wpAny_setField→Lz,firstArgMember→Ma,storedH→Mb,standAt→Mc,getMethod→Md,wpAny_standAt→Me,Builtin→Mg
open Nat renaming le_refl→Ai,le_trans→Ao,ne_of_lt→Bo,lt_of_lt_of_le→Ca,zero_le→Cd,le_of_eq→Ez,min_eq_left→Fo,ne_of_gt→Fu,le_of_lt→Fv,min_le_left→Gh,zero_add→Gi,mul_le_mul→Gq,lt_succ_self→Jc,lt_irrefl→Jh,lt_of_le_of_lt→Ka,le_succ→Lq,add_le_add_left→Lx
open PySem.Heap renaming get?_push_of_some→Aj,lt_size→Az,get?_push_size→Bd,SameBut→Ei,size_push→Ey,get?_update_self→Gb,get?_update_other→Gw,ExtBut→Lk
open Bool renaming false_ne_true→Ap,and_eq_true→Cr,eq_iff_iff→Dr,false_eq_true→Ek,not_true→Jf,not_not→Kx,not_false→Lm
open Option renaming map_eq_some_iff→Bk,isSome_iff_exists→Cq,isSome_map→Jx,map_some→Ks
open PySem.F renaming plainAttrs_list→Bp,slot_list_append→Cb,type_list_append→Ce,slot_dict_keyiterator_next→Ef,plainAttrs_dict→Hn,slot_tuple_iterator_next→Hv,entry_dict_get→Ii,slot_dict_get→Im,slot_list_getattribute→Kt,slot_list_pop→Ll
open PySem.PassesOwn renaming never→Bs
open Ne renaming symm→Cg
open Option.some renaming inj→Cj,injEq→Fy
open Int renaming emod_lt_of_pos→Cp,toNat_natCast→Cu,emod_nonneg→Cv,le_trans→Dc,eq_ofNat_of_zero_le→Dk,le_refl→Eo,add_assoc→Gj,zero_add→Gy,add_zero→Iq,natCast_add→Lc
open PyProof.Rows renaming callWith_type1→Cy,slot_tuple_getitem→Ia,envOfC→Ja,AllBare→Lr
open Prod.mk renaming injEq→Dj
open List.cons renaming injEq→Dn,inj→Js
open False renaming elim→Du
open PySem.Paired renaming length→Dw
open Prod renaming fst→Dx,snd→Ic
open PySem.Str renaming ofString→Ej
open PySem.Heap.SameBut renaming update→El
open Array renaming length_toList→Fp,getElem?_toList→Ga,toArray_toList→Jg,getElem?_eq_some_iff→Ju
open PySem.Builtin.SmallTypes renaming nextOf→Gr
open PySem.Builtin.Slice renaming slicePlaces→Ha,sliceAdjust→Je
open PySem.Builtin.Tuple renaming tupleExact→Hf
open PySem.Builtin.List renaming listTooLong→Hg,listExtendWith→Iv
open PySem.PyData renaming depth→Hk,eqv→Ib,eqvAll→Lp
open PySem.AutoSeq1 renaming wpAny_loadPart'→Hs
open PySem.Obj renaming data_mapDictKeys→Jj,mapSeq→Jy,data_mapFields→Jz
open PySem.Builtin.Str renaming occurrences→Jt
open Function renaming comp→Jv
open Sum.inl renaming injEq→Jw
set_option Elab.async false
set_option compiler.extract_closed false
set_option bootstrap.genMatcherCode false
set_option linter.all false
set_option genSizeOf false
set_option maxRecDepth 100000
namespace L2
open PySem PySem.Spec PyProof.Rows
def jQ(s:Stmt)(j:Nat):Stmt:=match s with
 | .ClassDef _ _ _ body _ _ _ _ _ _ _=>body.getD j (.Pass ⟨0,0,0,0⟩)
 | _=>.Pass ⟨0,0,0,0⟩
def iU(s:Stmt):Arguments:=match s with
 | .FunctionDef _ a _ _ _ _ _ _ _ _=>a
 | _=>{posonlyargs:=[],args:=[],vararg:=none,kwonlyargs:=[],kw_defaults:=[],kwarg:=none,defaults:=[]}
def gQ(s:Stmt):List Stmt:=match s with
 | .FunctionDef _ _ b _ _ _ _ _ _ _=>b
 | _=>[]
def d6(s:Stmt):Hc:=match s with
 | .FunctionDef _ _ _ _ _ _ sc _ _ _=>sc
 | _=>{kind:=.function,names:=[],isGenerator:=false,isCoroutine:=false}
end L2
namespace M47
open PySem PySem.Spec PyProof.Rows L2
noncomputable def aM(i:Nat):Stmt:=PySem.Challenge.pw_readgrove_k48_whole_no_fewer_mends.main.body.getD i (.Pass ⟨0,0,0,0⟩)
noncomputable abbrev zJ:Stmt:=aM 1
noncomputable abbrev zK:Stmt:=aM 2
noncomputable abbrev zL:Stmt:=aM 4
noncomputable abbrev zM:Stmt:=aM 5
noncomputable abbrev zN:Stmt:=aM 6
noncomputable abbrev zO:Stmt:=aM 7
noncomputable abbrev zP:Stmt:=jQ (aM 9) 0
noncomputable abbrev zQ:Stmt:=jQ (aM 9) 1
noncomputable abbrev zR:Stmt:=jQ (aM 9) 2
noncomputable abbrev zS:Stmt:=jQ (aM 9) 3
noncomputable abbrev zT:Stmt:=jQ (aM 9) 4
noncomputable abbrev zU:Stmt:=aM 11
noncomputable abbrev zV:Stmt:=jQ (aM 12) 0
noncomputable abbrev zW:Stmt:=jQ (aM 12) 1
noncomputable abbrev zX:Stmt:=jQ (aM 12) 2
noncomputable abbrev zY:Stmt:=jQ (aM 12) 3
noncomputable abbrev zZ:Stmt:=jQ (aM 12) 4
noncomputable abbrev z5:Stmt:=aM 13
noncomputable abbrev z6:Stmt:=aM 14
noncomputable abbrev z7:Stmt:=aM 15
noncomputable abbrev z9:Stmt:=aM 16
noncomputable abbrev AA:Stmt:=aM 17
noncomputable abbrev AB:Stmt:=aM 18
noncomputable abbrev AD:Stmt:=aM 19
noncomputable abbrev AE:Stmt:=aM 20
noncomputable abbrev AF:Stmt:=aM 22
noncomputable abbrev AG:Stmt:=aM 23
noncomputable abbrev AH:Stmt:=aM 25
noncomputable abbrev AI:Stmt:=aM 26
noncomputable abbrev AJ:Stmt:=aM 28
noncomputable abbrev AK:Stmt:=aM 31
noncomputable abbrev AL:Stmt:=aM 32
noncomputable abbrev AN:Stmt:=aM 33
noncomputable abbrev AQ:Stmt:=aM 34
noncomputable abbrev AR:Stmt:=aM 35
noncomputable abbrev AU:Stmt:=aM 36
noncomputable abbrev AW:Stmt:=aM 37
noncomputable abbrev AX:Stmt:=aM 38
noncomputable abbrev AY:Stmt:=aM 39
noncomputable abbrev AZ:Stmt:=aM 41
noncomputable abbrev A0:Stmt:=aM 42
noncomputable abbrev A1:Stmt:=aM 43
noncomputable abbrev A2:Stmt:=aM 44
noncomputable abbrev A5:Stmt:=aM 45
noncomputable abbrev A6:Stmt:=aM 46
noncomputable abbrev A7:Stmt:=aM 47
noncomputable abbrev A8:Stmt:=aM 48
noncomputable def en(P:Params)(x:String)(t:Tok)(v:Ae):Ho:=⟨PyData.keyHash P (Ej x),.str (Ej x) t,v⟩
abbrev sT(x:String)(t:Tok):Ae:=.str (Ej x) t
abbrev cO(x:String)(a:Tok)(q:String)(b c:Tok)(l n:Int)(r:Addr)(u v w y z:Ae)(k:Int)(d:Tok):Obj:=⟨.type "code",none,.fields #[sT x a,sT q b,sT "/claim/cut.py" c,.int l 0,.int n 0,.int 0 0,.int 0 0,.int 3 0,.ref r,.bool true,.int 181 0,u,v,w,y,z,.int k 0,.int l 0,sT "/claim/cut.py" d],#[]⟩
abbrev fO(x q:Str)(s:Stmt)(m c:Ae):Bi:=Ec x q (iU s) (gQ s) (d6 s) .none .none .none m none c .none
noncomputable abbrev A9:Bi:=fO "names" "names" zJ (sT "readgrove.grammars" 187) (.ref 20)
noncomputable abbrev BA:Bi:=fO "first_name" "first_name" zK (sT "readgrove.grammars" 187) (.ref 27)
noncomputable abbrev BB:Bi:=fO "marks" "marks" zL (sT "readgrove.covers" 205) (.ref 32)
noncomputable abbrev BC:Bi:=fO "places_of" "places_of" zM (sT "readgrove.covers" 205) (.ref 39)
noncomputable abbrev BD:Bi:=fO "row_steps" "row_steps" zN (sT "readgrove.covers" 205) (.ref 44)
noncomputable abbrev BE:Bi:=fO "part_facts" "part_facts" zO (sT "readgrove.covers" 205) (.ref 49)
noncomputable abbrev BF:Bi:=fO "__init__" "Queue.__init__" zP (sT "readgrove.queues" 232) (.ref 63)
noncomputable abbrev BG:Bi:=fO "is_done" "Queue.is_done" zQ (sT "readgrove.queues" 232) (.ref 70)
noncomputable abbrev BH:Bi:=fO "put" "Queue.put" zR (sT "readgrove.queues" 232) (.ref 77)
noncomputable abbrev BI:Bi:=fO "place_of" "Queue.place_of" zS (sT "readgrove.queues" 232) (.ref 84)
noncomputable abbrev BJ:Bi:=fO "take" "Queue.take" zT (sT "readgrove.queues" 232) (.ref 91)
noncomputable abbrev BK:Bi:=fO "added" "added" zU (sT "readgrove.leasts" 300) (.ref 105)
noncomputable abbrev BL:Bi:=fO "__init__" "Search.__init__" zV (sT "readgrove.leasts" 300) (.ref 119)
noncomputable abbrev BM:Bi:=fO "reach" "Search.reach" zW (sT "readgrove.leasts" 300) (.ref 126)
noncomputable abbrev BN:Bi:=fO "take_next" "Search.take_next" zX (sT "readgrove.leasts" 300) (.ref 133)
noncomputable abbrev BO:Bi:=fO "step_by_name" "Search.step_by_name" zY (sT "readgrove.leasts" 300) (.ref 140)
noncomputable abbrev BP:Bi:=fO "settle" "Search.settle" zZ (sT "readgrove.leasts" 300) (.ref 147)
noncomputable abbrev BQ:Bi:=fO "least_trees" "least_trees" z5 (sT "readgrove.leasts" 300) (.ref 161)
noncomputable abbrev BR:Bi:=fO "facts_within" "facts_within" z6 (sT "readgrove.leasts" 300) (.ref 166)
noncomputable abbrev BS:Bi:=fO "made_of_best" "made_of_best" z7 (sT "readgrove.leasts" 300) (.ref 173)
noncomputable abbrev BU:Bi:=fO "same_word" "same_word" z9 (sT "readgrove.leasts" 300) (.ref 180)
noncomputable abbrev BV:Bi:=fO "knot_of" "knot_of" AA (sT "readgrove.leasts" 300) (.ref 187)
noncomputable abbrev BW:Bi:=fO "best_tree" "best_tree" AB (sT "readgrove.leasts" 300) (.ref 194)
noncomputable abbrev BX:Bi:=fO "one_behind_another" "one_behind_another" AD (sT "readgrove.leasts" 300) (.ref 201)
noncomputable abbrev BY:Bi:=fO "joined" "joined" AE (sT "readgrove.leasts" 300) (.ref 208)
noncomputable abbrev BZ:Bi:=fO "row_trees" "row_trees" AF (sT "readgrove.spans" 481) (.ref 215)
noncomputable abbrev B2:Bi:=fO "no_weights" "no_weights" AG (sT "readgrove.spans" 481) (.ref 220)
noncomputable abbrev B3:Bi:=fO "whole_fact" "whole_fact" AH (sT "readgrove.readings" 498) (.ref 227)
noncomputable abbrev B4:Bi:=fO "reading" "reading" AI (sT "readgrove.readings" 498) (.ref 234)
noncomputable abbrev B5:Bi:=fO "words_of" "words_of" AJ (sT "readgrove.nexts" 518) (.ref 241)
noncomputable abbrev B6:Bi:=fO "with_gaps" "with_gaps" AK (sT "readgrove.mends" 531) (.ref 246)
noncomputable abbrev B7:Bi:=fO "mend_cost" "mend_cost" AL (sT "readgrove.mends" 531) (.ref 253)
noncomputable abbrev B8:Bi:=fO "drops" "drops" AN (sT "readgrove.mends" 531) (.ref 258)
noncomputable abbrev B9:Bi:=fO "mend_steps" "mend_steps" AQ (sT "readgrove.mends" 531) (.ref 265)
noncomputable abbrev CA:Bi:=fO "mending_steps" "mending_steps" AR (sT "readgrove.mends" 531) (.ref 270)
noncomputable abbrev CB:Bi:=fO "least_mends" "least_mends" AU (sT "readgrove.mends" 531) (.ref 277)
noncomputable abbrev CC:Bi:=fO "fewest_mends" "fewest_mends" AW (sT "readgrove.mends" 531) (.ref 284)
noncomputable abbrev CD:Bi:=fO "mended" "mended" AX (sT "readgrove.mends" 531) (.ref 289)
noncomputable abbrev CF:Bi:=fO "is_mend" "is_mend" AY (sT "readgrove.mends" 531) (.ref 294)
noncomputable abbrev CG:Bi:=fO "_law_cell_at" "_law_cell_at" AZ (sT "law_readgrove_k48_whole_no_fewer_mends" 609) (.ref 301)
noncomputable abbrev CH:Bi:=fO "_law_parts" "_law_parts" A0 (sT "law_readgrove_k48_whole_no_fewer_mends" 609) (.ref 308)
noncomputable abbrev CI:Bi:=fO "_law_grammar" "_law_grammar" A1 (sT "law_readgrove_k48_whole_no_fewer_mends" 609) (.ref 315)
noncomputable abbrev CJ:Bi:=fO "_law_row" "_law_row" A2 (sT "law_readgrove_k48_whole_no_fewer_mends" 609) (.ref 320)
noncomputable abbrev CK:Bi:=fO "_law_ladder" "_law_ladder" A5 (sT "law_readgrove_k48_whole_no_fewer_mends" 609) (.ref 327)
noncomputable abbrev CL:Bi:=fO "_law_case" "_law_case" A6 (sT "law_readgrove_k48_whole_no_fewer_mends" 609) (.ref 334)
noncomputable abbrev CM:Bi:=fO "_law_mend" "_law_mend" A7 (sT "law_readgrove_k48_whole_no_fewer_mends" 609) (.ref 339)
noncomputable abbrev qN:Bi:=fO "law" "law" A8 (sT "law_readgrove_k48_whole_no_fewer_mends" 609) (.ref 344)
noncomputable def hpK:Params->Ab:=fun P=>[(nat_lit 3,⟨(.type "dict"),none,.dict [en P "__name__" 165 (sT "law_readgrove_k48_whole_no_fewer_mends" 609),en P "__doc__" 166 .none,en P "__package__" 167 .none,en P "__loader__" 168 (.builtin "__main__.__loader__#opaque"),en P "__spec__" 169 .none,en P "__annotations__" 170 (.ref 6),en P "__builtins__" 171 (.ref 4),en P "__file__" 173 (sT "/claim/cut.py" 172),en P "__cached__" 174 .none,en P "names" 197 (.ref 21),en P "first_name" 204 (.ref 28),en P "marks" 212 (.ref 33),en P "places_of" 219 (.ref 40),en P "row_steps" 225 (.ref 45),en P "part_facts" 231 (.ref 50),en P "Queue" 299 (.ref 95),en P "added" 309 (.ref 106),en P "Search" 399 (.ref 151),en P "least_trees" 412 (.ref 162),en P "facts_within" 418 (.ref 167),en P "made_of_best" 437 (.ref 174),en P "same_word" 446 (.ref 181),en P "knot_of" 454 (.ref 188),en P "best_tree" 463 (.ref 195),en P "one_behind_another" 472 (.ref 202),en P "joined" 480 (.ref 209),en P "row_trees" 491 (.ref 216),en P "no_weights" 497 (.ref 221),en P "whole_fact" 507 (.ref 228),en P "reading" 517 (.ref 235),en P "words_of" 530 (.ref 242),en P "GAP" 534 (sT "" 533),en P "with_gaps" 540 (.ref 247),en P "mend_cost" 551 (.ref 254),en P "drops" 557 (.ref 259),en P "mend_steps" 569 (.ref 266),en P "mending_steps" 575 (.ref 271),en P "least_mends" 584 (.ref 278),en P "fewest_mends" 596 (.ref 285),en P "mended" 602 (.ref 290),en P "is_mend" 608 (.ref 295),en P "_law_cell_at" 618 (.ref 302),en P "_law_parts" 629 (.ref 309),en P "_law_grammar" 642 (.ref 316),en P "_law_row" 648 (.ref 321),en P "_law_ladder" 658 (.ref 328),en P "_law_case" 667 (.ref 335),en P "_law_mend" 673 (.ref 340),en P "law" 679 (.ref 345)].toArray 49,#[]⟩),
 (nat_lit 4,⟨(.type "module"),(some 0),.plain,#[]⟩),
 (nat_lit 20,cO "names" 189 "names" 190 191 2 1 15 (.ref 16) .none (.ref 17) (.ref 18) (.ref 19) 195 196),
 (nat_lit 21,⟨(.type "function"),none,.func A9,#[]⟩),
 (nat_lit 27,cO "first_name" 198 "first_name" 199 200 7 1 22 (.ref 23) .none (.ref 24) (.ref 25) (.ref 26) 202 203),
 (nat_lit 28,⟨(.type "function"),none,.func BA,#[]⟩),
 (nat_lit 32,cO "marks" 207 "marks" 208 209 10 1 29 (.ref 30) .none .none .none (.ref 31) 210 211),
 (nat_lit 33,⟨(.type "function"),none,.func BB,#[]⟩),
 (nat_lit 39,cO "places_of" 213 "places_of" 214 215 12 1 34 (.ref 35) .none (.ref 36) (.ref 37) (.ref 38) 217 218),
 (nat_lit 40,⟨(.type "function"),none,.func BC,#[]⟩),
 (nat_lit 44,cO "row_steps" 220 "row_steps" 221 222 14 1 41 (.ref 42) .none .none .none (.ref 43) 223 224),
 (nat_lit 45,⟨(.type "function"),none,.func BD,#[]⟩),
 (nat_lit 49,cO "part_facts" 226 "part_facts" 227 228 16 3 46 (.ref 47) .none .none .none (.ref 48) 229 230),
 (nat_lit 50,⟨(.type "function"),none,.func BE,#[]⟩),
 (nat_lit 63,cO "__init__" 246 "Queue.__init__" 247 248 21 1 58 (.ref 59) .none (.ref 60) (.ref 61) (.ref 62) 250 251),
 (nat_lit 64,⟨(.type "function"),none,.func BF,#[]⟩),
 (nat_lit 70,cO "is_done" 253 "Queue.is_done" 254 255 25 1 65 (.ref 66) .none (.ref 67) (.ref 68) (.ref 69) 257 258),
 (nat_lit 71,⟨(.type "function"),none,.func BG,#[]⟩),
 (nat_lit 77,cO "put" 260 "Queue.put" 261 262 28 3 72 (.ref 73) .none (.ref 74) (.ref 75) (.ref 76) 266 267),
 (nat_lit 78,⟨(.type "function"),none,.func BH,#[]⟩),
 (nat_lit 84,cO "place_of" 269 "Queue.place_of" 270 271 34 2 79 (.ref 80) .none (.ref 81) (.ref 82) (.ref 83) 277 278),
 (nat_lit 85,⟨(.type "function"),none,.func BI,#[]⟩),
 (nat_lit 91,cO "take" 280 "Queue.take" 281 282 45 1 86 (.ref 87) .none (.ref 88) (.ref 89) (.ref 90) 287 288),
 (nat_lit 92,⟨(.type "function"),none,.func BJ,#[]⟩),
 (nat_lit 94,⟨(.type "dict"),none,.dict [en P "__module__" 241 (sT "readgrove.queues" 232),en P "__firstlineno__" 245 (.int 19 244),en P "__init__" 252 (.ref 64),en P "is_done" 259 (.ref 71),en P "put" 268 (.ref 78),en P "place_of" 279 (.ref 85),en P "take" 289 (.ref 92),en P "__static_attributes__" 292 (.ref 93),en P "__dict__" 294 (.ref 96),en P "__weakref__" 296 (.ref 97),en P "__doc__" 297 .none].toArray 4,#[]⟩),
 (nat_lit 95,⟨(.type "type"),none,.cls ⟨(Ej "Queue"),[(.type "object")],[(.ref 95),(.type "object")],94,(Ej "Queue"),true,[],[],false,none,false⟩,#[none,none,some (sT "Queue" 234),some (sT "Queue" 242),some (.builtin "object.__new__"),some (.bool true)]⟩),
 (nat_lit 105,cO "added" 302 "added" 303 304 54 2 100 (.ref 101) .none (.ref 102) (.ref 103) (.ref 104) 307 308),
 (nat_lit 106,⟨(.type "function"),none,.func BK,#[]⟩),
 (nat_lit 119,cO "__init__" 322 "Search.__init__" 323 324 58 3 114 (.ref 115) .none (.ref 116) (.ref 117) (.ref 118) 328 329),
 (nat_lit 120,⟨(.type "function"),none,.func BL,#[]⟩),
 (nat_lit 126,cO "reach" 331 "Search.reach" 332 333 68 4 121 (.ref 122) .none (.ref 123) (.ref 124) (.ref 125) 339 340),
 (nat_lit 127,⟨(.type "function"),none,.func BM,#[]⟩),
 (nat_lit 133,cO "take_next" 342 "Search.take_next" 343 344 74 1 128 (.ref 129) .none (.ref 130) (.ref 131) (.ref 132) 353 354),
 (nat_lit 134,⟨(.type "function"),none,.func BN,#[]⟩),
 (nat_lit 140,cO "step_by_name" 356 "Search.step_by_name" 357 358 90 5 135 (.ref 136) .none (.ref 137) (.ref 138) (.ref 139) 366 367),
 (nat_lit 141,⟨(.type "function"),none,.func BO,#[]⟩),
 (nat_lit 147,cO "settle" 369 "Search.settle" 370 371 95 4 142 (.ref 143) .none (.ref 144) (.ref 145) (.ref 146) 381 382),
 (nat_lit 148,⟨(.type "function"),none,.func BP,#[]⟩),
 (nat_lit 150,⟨(.type "dict"),none,.dict [en P "__module__" 317 (sT "readgrove.leasts" 300),en P "__firstlineno__" 321 (.int 56 320),en P "__init__" 330 (.ref 120),en P "reach" 341 (.ref 127),en P "take_next" 355 (.ref 134),en P "step_by_name" 368 (.ref 141),en P "settle" 383 (.ref 148),en P "__static_attributes__" 392 (.ref 149),en P "__dict__" 394 (.ref 152),en P "__weakref__" 396 (.ref 153),en P "__doc__" 397 .none].toArray 4,#[]⟩),
 (nat_lit 151,⟨(.type "type"),none,.cls ⟨(Ej "Search"),[(.type "object")],[(.ref 151),(.type "object")],150,(Ej "Search"),true,[],[],false,none,false⟩,#[none,none,some (sT "Search" 310),some (sT "Search" 318),some (.builtin "object.__new__"),some (.bool true)]⟩),
 (nat_lit 161,cO "least_trees" 400 "least_trees" 401 402 104 4 156 (.ref 157) .none (.ref 158) (.ref 159) (.ref 160) 410 411),
 (nat_lit 162,⟨(.type "function"),none,.func BQ,#[]⟩),
 (nat_lit 166,cO "facts_within" 413 "facts_within" 414 415 112 3 163 (.ref 164) .none .none .none (.ref 165) 416 417),
 (nat_lit 167,⟨(.type "function"),none,.func BR,#[]⟩),
 (nat_lit 173,cO "made_of_best" 419 "made_of_best" 420 421 123 5 168 (.ref 169) .none (.ref 170) (.ref 171) (.ref 172) 435 436),
 (nat_lit 174,⟨(.type "function"),none,.func BS,#[]⟩),
 (nat_lit 180,cO "same_word" 438 "same_word" 439 440 137 3 175 (.ref 176) .none (.ref 177) (.ref 178) (.ref 179) 444 445),
 (nat_lit 181,⟨(.type "function"),none,.func BU,#[]⟩),
 (nat_lit 187,cO "knot_of" 447 "knot_of" 448 449 139 2 182 (.ref 183) .none (.ref 184) (.ref 185) (.ref 186) 452 453),
 (nat_lit 188,⟨(.type "function"),none,.func BV,#[]⟩),
 (nat_lit 194,cO "best_tree" 455 "best_tree" 456 457 141 3 189 (.ref 190) .none (.ref 191) (.ref 192) (.ref 193) 461 462),
 (nat_lit 195,⟨(.type "function"),none,.func BW,#[]⟩),
 (nat_lit 201,cO "one_behind_another" 464 "one_behind_another" 465 466 143 1 196 (.ref 197) .none (.ref 198) (.ref 199) (.ref 200) 470 471),
 (nat_lit 202,⟨(.type "function"),none,.func BX,#[]⟩),
 (nat_lit 208,cO "joined" 473 "joined" 474 475 148 2 203 (.ref 204) .none (.ref 205) (.ref 206) (.ref 207) 478 479),
 (nat_lit 209,⟨(.type "function"),none,.func BY,#[]⟩),
 (nat_lit 215,cO "row_trees" 483 "row_trees" 484 485 151 3 210 (.ref 211) .none (.ref 212) (.ref 213) (.ref 214) 489 490),
 (nat_lit 216,⟨(.type "function"),none,.func BZ,#[]⟩),
 (nat_lit 220,cO "no_weights" 492 "no_weights" 493 494 153 1 217 (.ref 218) .none .none .none (.ref 219) 495 496),
 (nat_lit 221,⟨(.type "function"),none,.func B2,#[]⟩),
 (nat_lit 227,cO "whole_fact" 500 "whole_fact" 501 502 156 2 222 (.ref 223) .none (.ref 224) (.ref 225) (.ref 226) 505 506),
 (nat_lit 228,⟨(.type "function"),none,.func B3,#[]⟩),
 (nat_lit 234,cO "reading" 508 "reading" 509 510 158 2 229 (.ref 230) .none (.ref 231) (.ref 232) (.ref 233) 515 516),
 (nat_lit 235,⟨(.type "function"),none,.func B4,#[]⟩),
 (nat_lit 241,cO "words_of" 520 "words_of" 521 522 163 1 236 (.ref 237) .none (.ref 238) (.ref 239) (.ref 240) 528 529),
 (nat_lit 242,⟨(.type "function"),none,.func B5,#[]⟩),
 (nat_lit 246,cO "with_gaps" 535 "with_gaps" 536 537 173 1 243 (.ref 244) .none .none .none (.ref 245) 538 539),
 (nat_lit 247,⟨(.type "function"),none,.func B6,#[]⟩),
 (nat_lit 253,cO "mend_cost" 541 "mend_cost" 542 543 175 4 248 (.ref 249) .none (.ref 250) (.ref 251) (.ref 252) 549 550),
 (nat_lit 254,⟨(.type "function"),none,.func B7,#[]⟩),
 (nat_lit 258,cO "drops" 552 "drops" 553 554 182 1 255 (.ref 256) .none .none .none (.ref 257) 555 556),
 (nat_lit 259,⟨(.type "function"),none,.func B8,#[]⟩),
 (nat_lit 265,cO "mend_steps" 558 "mend_steps" 559 560 184 4 260 (.ref 261) .none (.ref 262) (.ref 263) (.ref 264) 567 568),
 (nat_lit 266,⟨(.type "function"),none,.func B9,#[]⟩),
 (nat_lit 270,cO "mending_steps" 570 "mending_steps" 571 572 194 2 267 (.ref 268) .none .none .none (.ref 269) 573 574),
 (nat_lit 271,⟨(.type "function"),none,.func CA,#[]⟩),
 (nat_lit 277,cO "least_mends" 576 "least_mends" 577 578 201 2 272 (.ref 273) .none (.ref 274) (.ref 275) (.ref 276) 582 583),
 (nat_lit 278,⟨(.type "function"),none,.func CB,#[]⟩),
 (nat_lit 284,cO "fewest_mends" 585 "fewest_mends" 586 587 204 2 279 (.ref 280) .none (.ref 281) (.ref 282) (.ref 283) 594 595),
 (nat_lit 285,⟨(.type "function"),none,.func CC,#[]⟩),
 (nat_lit 289,cO "mended" 597 "mended" 598 599 211 1 286 (.ref 287) .none .none .none (.ref 288) 600 601),
 (nat_lit 290,⟨(.type "function"),none,.func CD,#[]⟩),
 (nat_lit 294,cO "is_mend" 603 "is_mend" 604 605 213 2 291 (.ref 292) .none .none .none (.ref 293) 606 607),
 (nat_lit 295,⟨(.type "function"),none,.func CF,#[]⟩),
 (nat_lit 301,cO "_law_cell_at" 611 "_law_cell_at" 612 613 216 2 296 (.ref 297) .none (.ref 298) (.ref 299) (.ref 300) 616 617),
 (nat_lit 302,⟨(.type "function"),none,.func CG,#[]⟩),
 (nat_lit 308,cO "_law_parts" 619 "_law_parts" 620 621 220 2 303 (.ref 304) .none (.ref 305) (.ref 306) (.ref 307) 627 628),
 (nat_lit 309,⟨(.type "function"),none,.func CH,#[]⟩),
 (nat_lit 315,cO "_law_grammar" 630 "_law_grammar" 631 632 229 1 310 (.ref 311) .none (.ref 312) (.ref 313) (.ref 314) 640 641),
 (nat_lit 316,⟨(.type "function"),none,.func CI,#[]⟩),
 (nat_lit 320,cO "_law_row" 643 "_law_row" 644 645 242 2 317 (.ref 318) .none .none .none (.ref 319) 646 647),
 (nat_lit 321,⟨(.type "function"),none,.func CJ,#[]⟩),
 (nat_lit 327,cO "_law_ladder" 649 "_law_ladder" 650 651 244 1 322 (.ref 323) .none (.ref 324) (.ref 325) (.ref 326) 656 657),
 (nat_lit 328,⟨(.type "function"),none,.func CK,#[]⟩),
 (nat_lit 334,cO "_law_case" 659 "_law_case" 660 661 254 1 329 (.ref 330) .none (.ref 331) (.ref 332) (.ref 333) 665 666),
 (nat_lit 335,⟨(.type "function"),none,.func CL,#[]⟩),
 (nat_lit 339,cO "_law_mend" 668 "_law_mend" 669 670 260 2 336 (.ref 337) .none .none .none (.ref 338) 671 672),
 (nat_lit 340,⟨(.type "function"),none,.func CM,#[]⟩),
 (nat_lit 344,cO "law" 674 "law" 675 676 276 1 341 (.ref 342) .none .none .none (.ref 343) 677 678),
 (nat_lit 345,⟨(.type "function"),none,.func qN,#[]⟩)]
noncomputable def LN:List Addr:=[nat_lit 3,nat_lit 4,nat_lit 20,nat_lit 21,nat_lit 27,nat_lit 28,nat_lit 32,nat_lit 33,nat_lit 39,nat_lit 40,nat_lit 44,nat_lit 45,nat_lit 49,nat_lit 50,nat_lit 63,nat_lit 64,nat_lit 70,nat_lit 71,nat_lit 77,nat_lit 78,nat_lit 84,nat_lit 85,nat_lit 91,nat_lit 92,nat_lit 94,nat_lit 95,nat_lit 105,nat_lit 106,nat_lit 119,nat_lit 120,nat_lit 126,nat_lit 127,nat_lit 133,nat_lit 134,nat_lit 140,nat_lit 141,nat_lit 147,nat_lit 148,nat_lit 150,nat_lit 151,nat_lit 161,nat_lit 162,nat_lit 166,nat_lit 167,nat_lit 173,nat_lit 174,nat_lit 180,nat_lit 181,nat_lit 187,nat_lit 188,nat_lit 194,nat_lit 195,nat_lit 201,nat_lit 202,nat_lit 208,nat_lit 209,nat_lit 215,nat_lit 216,nat_lit 220,nat_lit 221,nat_lit 227,nat_lit 228,nat_lit 234,nat_lit 235,nat_lit 241,nat_lit 242,nat_lit 246,nat_lit 247,nat_lit 253,nat_lit 254,nat_lit 258,nat_lit 259,nat_lit 265,nat_lit 266,nat_lit 270,nat_lit 271,nat_lit 277,nat_lit 278,nat_lit 284,nat_lit 285,nat_lit 289,nat_lit 290,nat_lit 294,nat_lit 295,nat_lit 301,nat_lit 302,nat_lit 308,nat_lit 309,nat_lit 315,nat_lit 316,nat_lit 320,nat_lit 321,nat_lit 327,nat_lit 328,nat_lit 334,nat_lit 335,nat_lit 339,nat_lit 340,nat_lit 344,nat_lit 345]
noncomputable def qv:Bu:={PySem.Challenge.pw_readgrove_k48_whole_no_fewer_mends with main:={PySem.Challenge.pw_readgrove_k48_whole_no_fewer_mends.main with body:=[aM 1,aM 2,aM 4,aM 5,aM 6,aM 7,aM 9,aM 11,aM 12,aM 13,aM 14,aM 15,aM 16,aM 17,aM 18,aM 19,aM 20,aM 22,aM 23,aM 25,aM 26,aM 28,aM 30,aM 31,aM 32,aM 33,aM 34,aM 35,aM 36,aM 37,aM 38,aM 39,aM 41,aM 42,aM 43,aM 44,aM 45,aM 46,aM 47,aM 48]}}
noncomputable def hk:PySem.W.Hook:=PySem.W.kmHook hpK LN (fun _=>by kernel_rfl) [280]
theorem LO{σ α β:Type}{o:Option σ}{f:σ->α}{g:σ->β}{a:α}{b:β}(h:o.map f=some a)(k:o.map g=some b):o.map (fun s=>(f s,g s))=some (a,b):=by
 cases o with
 | none=>cases h
 | some s=>cases h;cases k;rfl
set_option maxHeartbeats 0 in
open PySem.W in
theorem oM(w:Cm):(openEnds treeTable PySem.Challenge.rw_readgrove_k48_whole_no_fewer_mends.row.prog w 3984).map hk.obs=some (hk.val w):=by kernel_rfl
set_option maxHeartbeats 0 in
open PySem.W in
theorem oN(w:Cm):(openEnds treeTable PySem.Challenge.rw_readgrove_k48_whole_no_fewer_mends.row.prog w 3984).map (fun s=>openSeen qv [] (importedModules PySem.Challenge.rw_readgrove_k48_whole_no_fewer_mends.row.prog.main.body) (fun s=>xlAt qv [] s && recOk (RowW.records (OpenRow.toRowW PySem.Challenge.rw_readgrove_k48_whole_no_fewer_mends.row)) s) true s)=some (openGood qv []):=by kernel_rfl
set_option maxHeartbeats 0 in
theorem hws:PySem.Challenge.rw_readgrove_k48_whole_no_fewer_mends.wellSaid=true:=by kernel_rfl
open PySem.W in
theorem hlx:LeftO PySem.Challenge.rw_readgrove_k48_whole_no_fewer_mends.row.prog qv [] (fun s=>xlAt qv [] s && recOk (RowW.records (OpenRow.toRowW PySem.Challenge.rw_readgrove_k48_whole_no_fewer_mends.row)) s) hk.obs hk.val 3984:=fun w=>LO (oN w) (oM w)
end M47
namespace L2
open PySem PySem.Spec PyProof.Rows
abbrev aG:=Sum Int Str
def l9:aG->Ae->Bool
 | .inl k,v=>Value.isInt k v
 | .inr x,v=>Value.isStrOf x v
def LP(w:Cm):aG->Int
 | .inl k=>hashInt k
 | .inr x=>hashStr w x
theorem jR:∀ {k:aG} {v:Ae},l9 k v=true->(∃ i t,k=Sum.inl i/\v=Value.int i t)\/(∃ x t,k=Sum.inr x/\v=Value.str x t)
 | .inl i,v,h=>by
  obtain⟨t,e⟩:=Value.isInt_shape (k:=i) (v:=v) h
  exact .inl ⟨i,t,rfl,e⟩
 | .inr x,v,h=>by
  obtain⟨t,e⟩:=Value.isStrOf_shape (x:=x) (v:=v) h
  exact .inr ⟨x,t,rfl,e⟩
theorem LQ(i:Int)(t:Tok):l9 (.inl i) (.int i t)=true:=by simp[l9,Value.isInt]
theorem LR(x:Str)(t:Tok):l9 (.inr x) (.str x t)=true:=by simp[l9,Value.isStrOf]
theorem LS(a b:Int):decide ((Sum.inl a:aG)=Sum.inl b)=(a == b):=by
 by_cases e:a=b
 ·subst e;simp
 ·have h:¬ (Sum.inl a:aG)=Sum.inl b:=fun q=>e (Sum.inl.inj q)
  rw[decide_eq_false h]
  exact(beq_eq_false_iff_ne.mpr e).symm
theorem LU(a b:Str):decide ((Sum.inr a:aG)=Sum.inr b)=decide (a=b):=by
 by_cases e:a=b
 ·subst e;simp
 ·have h:¬ (Sum.inr a:aG)=Sum.inr b:=fun q=>e (Sum.inr.inj q)
  rw[decide_eq_false h,decide_eq_false e]
theorem LV(a:Int)(b:Str):decide ((Sum.inl a:aG)=Sum.inr b)=false:=decide_eq_false (fun q=>nomatch q)
theorem LW(a:Str)(b:Int):decide ((Sum.inr a:aG)=Sum.inl b)=false:=decide_eq_false (fun q=>nomatch q)
def dD(prog:Bu)(w:Cm):PySem.KeyKind prog w aG where
 is:=l9
 hash:=LP w
 inj:=fun v a b ha hb=>by
  rcases jR ha with⟨i,t,rfl,rfl⟩ | ⟨x,t,rfl,rfl⟩
  ·rcases jR hb with⟨j,u,rfl,e⟩ | ⟨y,u,rfl,e⟩
   ·injection e with e1 _;rw[e1]
   ·exact nomatch e
  ·rcases jR hb with⟨j,u,rfl,e⟩ | ⟨y,u,rfl,e⟩
   ·exact nomatch e
   ·injection e with e1 _;rw[e1]
 byValue:=fun k v h=>by
  rcases jR h with⟨i,t,rfl,rfl⟩ | ⟨x,t,rfl,rfl⟩ <;> rfl
 pyHash:=fun hv h=>by
  rcases jR hv with⟨i,t,rfl,rfl⟩ | ⟨x,t,rfl,rfl⟩
  ·exact wpAny_pyHash_int h
  ·exact wpAny_pyHash_str h
 eqBool:=fun hu hv h=>by
  rcases jR hu with⟨i,t,rfl,rfl⟩ | ⟨x,t,rfl,rfl⟩
  ·rcases jR hv with⟨j,u,rfl,rfl⟩ | ⟨y,u,rfl,rfl⟩
   ·rw[LS] at h;exact Jm h
   ·rw[LV] at h;exact SeqAt.EqAt.int_str i t y u _ _ _ _ h
  ·rcases jR hv with⟨j,u,rfl,rfl⟩ | ⟨y,u,rfl,rfl⟩
   ·rw[LW] at h;exact SeqAt.EqAt.str_int x t j u _ _ _ _ h
   ·rw[LU] at h;exact wpAny_eqBool_str h
 «strs»:=fun k x t v h=>by
  rcases jR h with⟨i,u,rfl,e⟩ | ⟨y,u,rfl,e⟩
  ·exact nomatch e
  ·injection e with e1 _
   subst e1
   cases v <;> rfl
theorem LX(prog:Bu)(w:Cm)(i:Int)(t:Tok):(dD prog w).is (.inl i) (.int i t)=true:=LQ i t
theorem LY(prog:Bu)(w:Cm)(x:Str)(t:Tok):(dD prog w).is (.inr x) (.str x t)=true:=LR x t
inductive V where
 | non | bl (b:Bool) | int (i:Int) | str (x:Str) | byt (b:Array UInt8) | flt (b:UInt64) | ref (a:Addr) | ty (n:String)
 deriving DecidableEq
def RelV:V->Ae->Prop
 | .non,u=>u=Value.none
 | .bl b,u=>u=Value.bool b
 | .int i,u=>∃ t,u=Value.int i t
 | .str x,u=>∃ t,u=Value.str x t
 | .byt b,u=>∃ t,u=Value.bytes b t
 | .flt b,u=>∃ t,u=Value.float b t
 | .ref a,u=>u=Value.ref a
 | .ty n,u=>u=Value.type n
abbrev a5:List V->List Ae->Prop:=Fn RelV
theorem a5.length{xs:List V}{us:List Ae}(r:a5 xs us):xs.length=us.length:=Dw r
theorem a5.get:∀ {xs:List V} {us:List Ae} {i:Nat} {x:V},a5 xs us->xs[i]? = some x->∃ u,us[i]? = some u/\RelV x u
 | _,_,_,_,.nil,e=>by simp at e
 | _,_,0,_,.cons r _,e=>by simp at e;subst e;exact⟨_,rfl,r⟩
 | _,_,i + 1,x,.cons _ t,e=>by
  obtain⟨u,h1,h2⟩:=a5.get (i:=i) (x:=x) t (by simpa using e)
  exact⟨u,by simpa using h1,h2⟩
theorem a5.set{x:V}{u:Ae}(r:RelV x u):∀ {xs:List V} {us:List Ae} (i:Nat),a5 xs us->a5 (xs.set i x) (us.set i u)
 | _,_,_,.nil=>.nil
 | _,_,0,.cons _ t=>.cons r t
 | _,_,i + 1,.cons q t=>.cons q (a5.set r i t)
theorem a5.append:∀ {xs ys:List V} {us ws:List Ae},a5 xs us->a5 ys ws->a5 (xs ++ ys) (us ++ ws)
 | _,_,_,_,.nil,s=>s
 | _,_,_,_,.cons r t,s=>.cons r (a5.append t s)
theorem a5.take:∀ {xs:List V} {us:List Ae} (n:Nat),a5 xs us->a5 (xs.take n) (us.take n)
 | _,_,0,_=>.nil
 | _,_,_ + 1,.nil=>.nil
 | _,_,n + 1,.cons r t=>.cons r (a5.take n t)
theorem a5.drop:∀ {xs:List V} {us:List Ae} (n:Nat),a5 xs us->a5 (xs.drop n) (us.drop n)
 | _,_,0,r=>r
 | _,_,_ + 1,.nil=>.nil
 | _,_,n + 1,.cons _ t=>a5.drop n t
def fU:Option V->Option Ae->Prop
 | some v,some u=>RelV v u
 | none,none=>True
 | _,_=>False
def KV{κ:Type}:List (κ×V)->List (κ×Ae)->Prop:=Fn fun(p:κ×V) (q:κ×Ae)=>p.1=q.1/\RelV p.2 q.2
def kV:aG->V
 | .inl i=>.int i
 | .inr x=>.str x
inductive HO where
 | lst (xs:List V)
 | tup (xs:List V)
 | dK (kvs:List (aG×V)) | dT (kvs:List (List aG×V))
 | set (S:Int->Bool) (n:Nat)
 | ins (C dx:Addr) (fs:List (Str×V))
 | own (x:Addr)
 | xd (fs:List (Str×V))
 | met (f x:Addr)
 | rng (lo hi:Int)
 | frz (o:Obj) (u:HO)
 | tbl (ps:Array Ae)
 | ext (φ:Heap->Prop)
abbrev Hp:=Addr->Option HO
def aR(H:Hp)(a:Addr)(o:HO):Hp:=fun b=>if b=a then some o else H b
theorem cZ{H:Hp}{a:Addr}{o:HO}:aR H a o a=some o:=by unfold aR;rw[if_pos rfl]
theorem bG{H:Hp}{a b:Addr}{o:HO}(h:b≠a):aR H a o b=H b:=by unfold aR;rw[if_neg h]
theorem qO{H:Hp}{a b:Addr}{o u:HO}(h:H a=some o)(h':H b=some u)(d:o≠u):a≠b:=by
 intro e;subst e;rw[h] at h';exact d (Cj h')
theorem fH{H:Hp}{a b:Addr}{o:HO}(h:H a=some o)(h':H b=none):a≠b:=by
 intro e;subst e;rw[h] at h';cases h'
section
variable (P:Bu)(w:Cm)
def c9(H:Hp)(h:Heap)(a:Addr):HO->Prop
 | .lst xs=>xs.length<=Ak/\∃ (its:List Ae) (n:Nat),a5 xs its/\h.get? a=some {cls:=.type "list",data:=.seq its.toArray n}
 | .tup xs=>xs.length<=Ak/\∃ its:List Ae,a5 xs its/\IsTup h a its.toArray
 | .dK kvs=>kvs.length<=Ak/\(a == Ft)=false/\∃ vs,KV kvs vs/\h.DictOf (dD P w) a vs
 | .dT kvs=>kvs.length<=Ak/\(a == Ft)=false/\∃ xs:List (List aG×Addr×Ae),
   Fn (fun(p:List aG×V) (q:List aG×Addr×Ae)=>p.1=q.1/\H q.2.1=some (.tup (p.1.map kV))/\RelV p.2 q.2.2) kvs xs/\
   ∃ o es ep,h.get? a=some o/\o.ExactDict/\o.data=.dict es ep/\es.toList=xs.map (entryOfKey (Fs (dD P w)))/\(xs.map (·.1)).Nodup
 | .set S n=>h.SetOf (intKind P w) a S n
 | .ins C dx fs=>H dx=some (.own a)/\fs.length<=1000/\dx≠a/\h.get? a=some (Gd C dx)/\
   ∃ mA,h.Ns1 dx mA/\(∀ f,fU (fs.lookup f) (mA f))/\PySem.Within mA (fs.map (·.1))
 | .own _=>∃ o,h.get? a=some o
 | .xd fs=>∃ mA,h.Ns1 a mA/\∀ f,fU (fs.lookup f) (mA f)
 | .rng lo hi=>∃ t u v,h.get? a=some {cls:=.type "range",data:=.fields #[.int lo t,.int hi u,.int 1 v]}
 | .frz o u=>h.get? a=some o/\c9 H h a u
 | .tbl ps=>h.get? a=some {cls:=.none,data:=.fields ps}
 | .met f x=>h.get? a=some (PySem.W.methodObj (.ref f) (.ref x))
 | .ext φ=>φ h/\(∃ o,h.get? a=some o)/\∀ h1 h2:Heap,φ h1->(∀ o,h1.get? a=some o->h2.get? a=some o)->φ h2
def cU(H:Hp)(h:Heap):Prop:=∀ a o,H a=some o->c9 P w H h a o
end
section
variable {P:Bu}{w:Cm}{H H':Hp}{h h':Heap}{a:Addr}{o:HO}
theorem c9.lt(x:c9 P w H h a o):a < h.objs.size:=by
 cases o with
 | lst xs=>obtain⟨_,_,_,_,e⟩:=x;exact Az e
 | tup xs=>obtain⟨_,_,_,p⟩:=x;exact p.lt
 | dK kvs=>obtain⟨_,_,_,_,o,_,_,e,_⟩:=x;exact Az e
 | dT kvs=>obtain⟨_,_,_,_,o,_,_,e,_⟩:=x;exact Az e
 | set S n=>obtain⟨o,_,_,_,e,_⟩:=x;exact Az e
 | ins C dx fs=>obtain⟨_,_,_,e,_⟩:=x;exact Az e
 | own y=>obtain⟨_,e⟩:=x;exact Az e
 | xd fs=>obtain⟨_,⟨_,_,_,e,_⟩,_⟩:=x;exact Az e
 | rng lo hi=>obtain⟨_,_,_,e⟩:=x;exact Az e
 | frz ob u=>obtain⟨e,_⟩:=x;exact Az e
 | tbl ps=>exact Az (show h.get? a=some _ from x)
 | met f y=>exact Az (show h.get? a=some _ from x)
 | ext φ=>obtain⟨_,⟨_,e⟩,_⟩:=x;exact Az e
theorem Paired.mapP{α β:Type}{F G:α->β->Prop}:∀ {l₁:List α} {l₂:List β},Fn F l₁ l₂->(∀ a b,F a b->G a b)->Fn G l₁ l₂
 | _,_,.nil,_=>.nil
 | _,_,.cons r t,f=>.cons (f _ _ r) (Paired.mapP t f)
theorem c9.stay(x:c9 P w H h a o)(k:∀ b u,(b=a\/H b=some (.own a))->h.get? b=some u->h'.get? b=some u)
  (ho:∀ b,H b=some (.own a)->H' b=some (.own a)) (ht:∀ b xs,H b=some (.tup xs)->H' b=some (.tup xs)):c9 P w H' h' a o:=by
 induction o with
 | lst xs=>obtain⟨z,its,n,r,e⟩:=x;exact⟨z,its,n,r,k _ _ (.inl rfl) e⟩
 | tup xs=>obtain⟨z,its,r,ob,e,c⟩:=x;exact⟨z,its,r,ob,k _ _ (.inl rfl) e,c⟩
 | dK kvs=>obtain⟨z,y,vs,r,ob,es,ep,e,c⟩:=x;exact⟨z,y,vs,r,ob,es,ep,k _ _ (.inl rfl) e,c⟩
 | dT kvs=>
  obtain⟨z,y,xs,r,ob,es,ep,e,c⟩:=x
  exact⟨z,y,xs,Paired.mapP r fun p q z=>⟨z.1,ht _ _ z.2.1,z.2.2⟩,ob,es,ep,k _ _ (.inl rfl) e,c⟩
 | set S n=>obtain⟨ob,es,ep,t,e,c⟩:=x;exact⟨ob,es,ep,t,k _ _ (.inl rfl) e,c⟩
 | ins C dx fs=>
  obtain⟨d,z,ne,e,mA,⟨od,es,ep,e2,c⟩,r⟩:=x
  exact⟨ho _ d,z,ne,k _ _ (.inl rfl) e,mA,⟨od,es,ep,k _ _ (.inr d) e2,c⟩,r⟩
 | own y=>obtain⟨ob,e⟩:=x;exact⟨ob,k _ _ (.inl rfl) e⟩
 | xd fs=>obtain⟨mA,⟨od,es,ep,e,c⟩,r⟩:=x;exact⟨mA,⟨od,es,ep,k _ _ (.inl rfl) e,c⟩,r⟩
 | rng lo hi=>obtain⟨t,u,v,e⟩:=x;exact⟨t,u,v,k _ _ (.inl rfl) e⟩
 | frz ob u ih=>obtain⟨e,q⟩:=x;exact⟨k _ _ (.inl rfl) e,ih q⟩
 | tbl ps=>
  have e:h.get? a=some {cls:=.none,data:=.fields ps}:=x
  show h'.get? a=some {cls:=.none,data:=.fields ps}
  exact k a _ (.inl rfl) e
 | met f y=>
  have e:h.get? a=some (PySem.W.methodObj (.ref f) (.ref y)):=x
  show h'.get? a=some (PySem.W.methodObj (.ref f) (.ref y))
  exact k a _ (.inl rfl) e
 | ext φ=>obtain⟨p,⟨o,e⟩,st⟩:=x;exact⟨st _ _ p fun o q=>k _ _ (.inl rfl) q,⟨o,k _ _ (.inl rfl) e⟩,st⟩
theorem cU.lt(x:cU P w H h)(e:H a=some o):a < h.objs.size:=(x a o e).lt
theorem cU.fresh(x:cU P w H h)(e:h.objs.size<=a):H a=none:=by
 cases q:H a with
 | none=>rfl
 | some u=>exact absurd (Ca (x.lt q) e) (Jh _)
theorem cU.kept(x:cU P w H h)(k:∀ b u,h.get? b=some u->h'.get? b=some u):cU P w H h':=fun a o e=>
 (x a o e).stay (fun b u _ q=>k b u q) (fun _ q=>q) fun _ _ q=>q
theorem cU.laid(x:cU P w H h)(k:∀ b u,h.get? b=some u->h'.get? b=some u)(hp:h.objs.size<=a)(new:c9 P w (aR H a o) h' a o):cU P w (aR H a o) h':=fun b u e=>by
 have hn:=x.fresh hp
 by_cases hb:b=a
 ·subst hb;rw[cZ] at e;cases e;exact new
 ·rw[bG hb] at e
  exact(x b u e).stay (fun c v _ q=>k c v q) (fun c q=>by rw[bG (fH q hn)];exact q) fun c xs q=>by rw[bG (fH q hn)];exact q
end
def Rd(H:Hp)(a:Addr)(u:HO):Prop:=H a=some u\/∃ o,H a=some (.frz o u)
theorem Rd.ok{P:Bu}{w:Cm}{H:Hp}{h:Heap}{a:Addr}{u:HO}(r:Rd H a u)(x:cU P w H h):c9 P w H h a u:=by
 rcases r with r | ⟨o,r⟩
 ·exact x a u r
 ·obtain⟨_,q⟩:=x a _ r
  exact q
def oO:Option HO->Prop
 | some (.lst _)=>True
 | some (.dK _)=>True
 | some (.dT _)=>True
 | some (.set _ _)=>True
 | some (.ins _ _ _)=>True
 | some (.ext _)=>True
 | _=>False
section
variable {P:Bu}{w:Cm}{H:Hp}{h h':Heap}{x e:Addr}{o':HO}
theorem cU.write(ok:cU P w H h)(mu:oO (H x))(he:e=x\/H e=some (.own x))(k:∀ b u,b≠e->h.get? b=some u->h'.get? b=some u)(heo:∃ u,h'.get? e=some u)
  (new:c9 P w (aR H x o') h' x o'):cU P w (aR H x o') h':=fun b u q=>by
 have nown:∀ c y,H c=some (.own y)->c≠x:=fun c y r z=>by subst z;rw[r] at mu;exact mu
 have ntup:∀ c xs,H c=some (.tup xs)->c≠x:=fun c xs r z=>by subst z;rw[r] at mu;exact mu
 by_cases hb:b=x
 ·subst hb;rw[cZ] at q;cases q;exact new
 ·rw[bG hb] at q
  by_cases hbe:b=e
  ·have q':H b=some (.own x):=by
    rcases he with z | z
    ·exact absurd (hbe.trans z) hb
    ·rw[hbe];exact z
   rw[q] at q';cases q'
   obtain⟨v,hv⟩:=heo
   exact⟨v,by rw[hbe];exact hv⟩
  ·refine(ok b u q).stay (fun c v hc r=>k c v ?_ r) (fun c r=>by rw[bG (nown c b r)];exact r) fun c xs r=>by rw[bG (ntup c xs r)];exact r
   rcases hc with rfl | hc
   ·exact hbe
   ·rintro rfl
    rcases he with z | z
    ·exact nown c b hc z
    ·rw[hc] at z;cases z;exact hb rfl
end
structure Un(fs ex:List Addr)(H H':Hp)(h h':Heap):Prop where
 keep:∀ b o,h.get? b=some o->H b=none->b∉fs->b∉ex->h'.get? b=some o
 slot:∀ b o,h.get? b=some o->H b=none->b∈fs->b∉ex->∃ sl,h'.get? b=some {o with slots:=sl}
 free:∀ b o,h.get? b=some o->H b=none->b∉ex->H' b=none
 there:∀ b o,h.get? b=some o->b∉ex->∃ o',h'.get? b=some o'
 tups:∀ b xs,H b=some (.tup xs)->H' b=some (.tup xs)
 frzs:∀ b o u,H b=some (.frz o u)->H' b=some (.frz o u)
 tbls:∀ b ps,H b=some (.tbl ps)->∃ more,H' b=some (.tbl (ps ++ more))
section
variable {fs fs' ex ex':List Addr}{H H1 H2:Hp}{h h1 h2 h':Heap}{a x e:Addr}{o:HO}
theorem Un.any(u:Un fs ex H H1 h h1){b:Addr}{ob:Obj}(q:h.get? b=some ob)(n:H b=none)(hx:b∉ex):∃ sl,h1.get? b=some {ob with slots:=sl}:=by
 by_cases hb:b∈fs
 ·exact u.slot b ob q n hb hx
 ·exact⟨ob.slots,u.keep b ob q n hb hx⟩
theorem Un.kept(k:∀ b u,h.get? b=some u->h'.get? b=some u):Un fs ex H H h h':=
 ⟨fun b ob q _ _ _=>k b ob q,fun b ob q _ _ _=>⟨ob.slots,k b ob q⟩,fun _ _ _ n _=>n,fun b ob q _=>⟨ob,k b ob q⟩,fun _ _ q=>q,fun _ _ _ q=>q,fun _ ps q=>⟨#[],by rw[q];simp⟩⟩
theorem Un.refl:Un fs ex H H h h:=Un.kept fun _ _ q=>q
theorem Un.laid(k:∀ b u,h.get? b=some u->h'.get? b=some u)(hp:h.objs.size<=a)(hn:H a=none):Un fs ex H (aR H a o) h h' where
 keep:=fun b u q _ _ _=>k b u q
 slot:=fun b u q _ _ _=>⟨u.slots,k b u q⟩
 free:=fun b u q n _=>by rw[bG (Bo (Ca (Az q) hp))];exact n
 there:=fun b u q _=>⟨u,k b u q⟩
 tups:=fun b xs q=>by rw[bG (fH q hn)];exact q
 frzs:=fun b u xs q=>by rw[bG (fH q hn)];exact q
 tbls:=fun b ps q=>⟨#[],by rw[bG (fH q hn),q];simp⟩
theorem Un.write(mu:oO (H x))(he:e=x\/H e=some (.own x))(k:∀ b u,b≠e->h.get? b=some u->h'.get? b=some u)(heo:∃ u,h'.get? e=some u):Un fs ex H (aR H x o) h h':=by
 have hx:∀ b,H b=none->b≠x:=fun b n z=>by subst z;rw[n] at mu;exact mu
 have hb:∀ b,H b=none->b≠e:=fun b n z=>by
  subst z
  rcases he with r | r
  ·exact hx b n r
  ·rw[n] at r;cases r
 have hm:∀ b u,H b=some u->¬ oO (some u)->b≠x:=fun b u q nm z=>by subst z;rw[q] at mu;exact nm mu
 refine⟨fun b u q n _ _=>k b u (hb b n) q,fun b u q n _ _=>⟨u.slots,k b u (hb b n) q⟩,fun b u q n _=>by rw[bG (hx b n)];exact n,fun b u q _=>?_,
  fun b xs q=>by rw[bG (hm b _ q fun z=>z)];exact q,fun b u xs q=>by rw[bG (hm b _ q fun z=>z)];exact q,fun b ps q=>⟨#[],by rw[bG (hm b _ q fun z=>z),q];simp⟩⟩
 by_cases hbe:b=e
 ·subst hbe;exact heo
 ·exact⟨u,k b u hbe q⟩
end
def qQ(h:Heap)(H:Hp):List Addr:=(Cw h.objs.size).filter fun a=>(H a).isSome
def iK(h:Heap)(H:Hp):Heap:=PySem.W.hideAll h (qQ h H)
theorem CN(h:Heap)(H:Hp):(iK h H).objs.size=h.objs.size:=PySem.W.hideAll_size _ _
theorem uK{h:Heap}{H:Hp}{b:Addr}{o:Obj}(e:h.get? b=some o)(n:H b=none):(iK h H).get? b=some o:=
 PySem.W.hideAll_get _ e fun hm=>by
  have q:(H b).isSome=true:=(Dh.mp hm).2
  rw[n] at q;simp at q
theorem CO{h:Heap}{H:Hp}{b:Addr}{o:Obj}(e:(iK h H).get? b=some o):h.get? b=some o/\H b=none:=by
 have e':h.get? b=some o:=PySem.W.of_hideAll (qQ h H) e
 refine⟨e',?_⟩
 cases q:H b with
 | none=>rfl
 | some x=>
  have hm:b∈qQ h H:=Dh.mpr ⟨Hl.mpr (Az e'),by simp[q]⟩
  have z:(iK h H).get? b=none:=PySem.W.hideAll_none (qQ h H) hm
  rw[z] at e;cases e
structure Mod(K:Ab)(mg:Str->Option Ae)(base:Heap):Prop where
 kin:K.In base
 glob:base.Ns De mg
 blt:∃ mb,base.Ns Lo mb/\∀ x:Str,x≠"__name__"->mb x=Dv x
 nolimit:base.NoLimit
structure Cx where
 prog:Bu
 w:Cm
 K:Ab
 mg:Str->Option Ae
 base:Heap
 A:Co
 N:List Str
 s₀:Ag
 H₀:Hp
 env:Env
 outer:List Env
 stack:List Env
 ex:List Addr
 fn:Str->Bool
 calm:Bool
 pn:List (Addr×Obj)
 xe:Ae->Ag->Prop
def f6(l:List Env):List Addr:=l.filterMap (·.frame)
abbrev Cx.fs(X:Cx):List Addr:=f6 X.outer
def oP(sc:Hc)(x:Str):Prop:=sc.names.lookup x=some .local\/sc.names.lookup x=some .cell\/sc.names.lookup x=some .free
def Loc(sc:Hc)(x:Str):Prop:=sc.names.lookup x=some .local\/sc.names.lookup x=some .cell
def Look(env:Env)(h:Heap)(m:Str->Option Ae)(x:Str)(u:Ae):Prop:=
 (env.kindOf x=some .local/\m x=some u)\/((env.kindOf x=some .cell\/env.kindOf x=some .free)/\∃ c,env.cells.lookup x=some c/\h.IsCell c (some u))
structure Cx.Ok(X:Cx):Prop where
 mod:Mod X.K X.mg X.base
 kind:X.env.scope.kind=.function
 glob:X.env.globals=De
 blt:X.env.builtins=Lo
 above:X.s₀.heap.objs.size<=X.env.locals
 inj:∀ x y c,X.env.cells.lookup x=some c->X.env.cells.lookup y=some c->x=y
 has:∀ x,(X.env.kindOf x=some .cell\/X.env.kindOf x=some .free)->∃ c,X.env.cells.lookup x=some c
 cab:∀ x c,X.fn x=true->X.env.cells.lookup x=some c->X.s₀.heap.objs.size<=c
 hd:X.calm=true->X.A.handled=none
 frames:X.A.frames=some X.stack
 stk:X.stack=X.outer\/(X.stack=X.env :: X.outer/\X.env.frame=some X.env.locals)
 exf:∀ b∈X.ex,b≠X.env.locals/\∀ x c,X.env.cells.lookup x=some c->c≠b
 bs:∀ b o,X.base.get? b=some o->X.s₀.heap.get? b=some o/\X.H₀ b=none
 bsz:X.base.objs.size<=X.s₀.heap.objs.size
 noex:∀ b o,X.base.get? b=some o->b∉X.ex
 exfs:∀ b∈X.ex,b∉X.fs
 funs:X.s₀.heap.FunFrames X.base X.outer
 frf:∀ b∈X.fs,X.H₀ b=none
structure Inv(X:Cx)(pins:List (Addr×Obj))(σ:List (Option V))(H:Hp)(s:Ag):Prop where
 ok:X.Ok
 os:s.os=X.s₀.os
 bare:Lr s.gens
 base:Un X.fs X.ex X.H₀ H X.s₀.heap s.heap
 loc:∃ m,s.heap.Ns X.env.locals m/\∀ (i:Nat) (x:Str) (v:V),X.N[i]? = some x->σ[i]? = some (some v)->oP X.env.scope x->∃ u,RelV v u/\Look X.env s.heap m x u
 cell:∀ x c,X.env.cells.lookup x=some c->∃ v,s.heap.IsCell c v
 free:H X.env.locals=none
 freeC:∀ x c,X.env.cells.lookup x=some c->H c=none
 pin:∀ p∈X.pn ++ pins,s.heap.get? p.1=some p.2/\H p.1=none/\p.1≠X.env.locals/\p.1∉X.fs/\∀ v,p.2.data≠.cell v
 hok:cU X.prog X.w H s.heap
 len:σ.length=X.N.length
section
variable {X:Cx}{pins:List (Addr×Obj)}{σ:List (Option V)}{H H':Hp}{s:Ag}{h':Heap}
theorem Cx.Ok.nofr(ok:X.Ok){b:Addr}{o:Obj}(e:X.base.get? b=some o):b∉X.fs:=fun hb=>by
 have:=(ok.funs.mem hb).1
 rw[e] at this;cases this
theorem Inv.bs(I:Inv X pins σ H s):∀ b o,X.base.get? b=some o->s.heap.get? b=some o/\H b=none:=fun b o e=>
 ⟨I.base.keep b o (I.ok.bs b o e).1 (I.ok.bs b o e).2 (I.ok.nofr e) (I.ok.noex b o e),I.base.free b o (I.ok.bs b o e).1 (I.ok.bs b o e).2 (I.ok.noex b o e)⟩
theorem Inv.bk(I:Inv X pins σ H s):∀ b o,X.base.get? b=some o->s.heap.get? b=some o:=fun b o e=>(I.bs b o e).1
theorem Inv.mod(I:Inv X pins σ H s):Mod X.K X.mg X.base:=I.ok.mod
theorem Inv.kIn(I:Inv X pins σ H s):X.K.In s.heap:=I.ok.mod.kin.keeps I.bk
theorem Inv.nolimit(I:Inv X pins σ H s):s.heap.NoLimit:=I.ok.mod.nolimit.keeps I.bk
theorem Inv.lt(I:Inv X pins σ H s):X.env.locals < s.heap.objs.size:=let ⟨_,hn,_⟩:=I.loc;hn.lt
theorem Inv.sz(I:Inv X pins σ H s):X.s₀.heap.objs.size<=s.heap.objs.size:=Ao I.ok.above (Fv I.lt)
theorem Inv.nofs(I:Inv X pins σ H s){a:Addr}(h:s.heap.objs.size<=a):a∉X.fs:=fun hb=>by
 obtain⟨_,o,ho,_⟩:=I.ok.funs.mem hb
 exact absurd (Ca (Az ho) (Ao I.sz h)) (Jh _)
theorem Inv.cne(I:Inv X pins σ H s):∀ x c,X.env.cells.lookup x=some c->c≠X.env.locals:=fun x c e z=>by
 obtain⟨v,o,ho,hd⟩:=I.cell x c e
 obtain⟨m,⟨o',es,ep,ho',hd',_⟩,_⟩:=I.loc
 rw[z,ho'] at ho;cases ho;rw[hd'] at hd;cases hd
theorem Inv.funs(I:Inv X pins σ H s):s.heap.FunFrames X.base X.outer:=by
 have all:∀ (l:List Env),(∀ b∈f6 l,b∈X.fs)->X.s₀.heap.FunFrames X.base l->s.heap.FunFrames X.base l:=by
  intro l
  induction l with
  | nil=>intro _ _;trivial
  | cons env r ih=>
   intro hs hl
   obtain⟨hk,⟨L,o,hf,hn,ho,hd⟩,hr⟩:=hl
   have hL:L∈X.fs:=hs L (by unfold f6;rw[Ea,hf];exact Bb)
   obtain⟨sl,e⟩:=I.base.slot L o ho (I.ok.frf L hL) hL fun z=>I.ok.exfs L z hL
   exact⟨hk,⟨L,_,hf,hn,e,hd⟩,ih (fun b hb=>hs b (by unfold f6;rw[Ea,hf];exact Av _ hb)) hr⟩
 exact all X.outer (fun _ hb=>hb) I.ok.funs
theorem Inv.stack(I:Inv X pins σ H s):s.heap.FunFrames X.base X.stack:=by
 rcases I.ok.stk with e | ⟨e,hf⟩
 ·rw[e];exact I.funs
 ·rw[e]
  obtain⟨m,hn,_⟩:=I.loc
  refine .cons (by rw[I.ok.kind];decide) hf hn ?_ I.funs
  exact Heap.get?_none_of_le (Ao I.ok.bsz I.ok.above)
theorem Inv.stkSub(I:Inv X pins σ H s):∀ b∈f6 X.stack,b∈X.env.locals :: X.fs:=fun b hb=>by
 rcases I.ok.stk with e | ⟨e,hf⟩
 ·rw[e] at hb;exact Av _ hb
 ·rw[e] at hb
  unfold f6 at hb
  rw[Ea,hf] at hb
  exact hb
theorem Inv.stkFree(I:Inv X pins σ H s):∀ b∈f6 X.stack,H b=none:=fun b hb=>by
 rcases Ay.mp (I.stkSub b hb) with e | hb
 ·rw[e];exact I.free
 ·obtain⟨_,o,ho,_⟩:=I.ok.funs.mem hb
  exact I.base.free b o ho (I.ok.frf b hb) fun z=>I.ok.exfs b z hb
theorem Inv.step{g':Array GenState}{t':Nat}{d':Drawn}{ch:List Addr}(I:Inv X pins σ H s)
  (hch:∀ b∈ch,(b∈X.ex\/X.s₀.heap.objs.size<=b)/\b≠X.env.locals/\(∀ x c,X.env.cells.lookup x=some c->c≠b)/\∀ p∈X.pn ++ pins,p.1≠b)
  (keep:∀ b o,b≠X.env.locals->b∉X.fs->b∉ch->s.heap.get? b=some o->H b=none->h'.get? b=some o)
  (slot:∀ b o,b≠X.env.locals->b∈X.fs->b∉ch->s.heap.get? b=some o->H b=none->∃ sl,h'.get? b=some {o with slots:=sl}) (free:∀ b o,b∉ch->s.heap.get? b=some o->H b=none->H' b=none)
  (there:∀ b o,b∉ch->s.heap.get? b=some o->∃ o',h'.get? b=some o')
  (tups:∀ b xs,H b=some (.tup xs)->H' b=some (.tup xs)) (frzs:∀ b o u,H b=some (.frz o u)->H' b=some (.frz o u)) (tbls:∀ b ps,H b=some (.tbl ps)->∃ more,H' b=some (.tbl (ps ++ more)))
  (ns:∀ m,s.heap.Ns X.env.locals m->h'.Ns X.env.locals m) (hok:cU X.prog X.w H' h') (hg:Lr g') :
  Inv X pins σ H' {s with heap:=h',gens:=g',drawn:=d',toks:=t'}:=by
 have neL:∀ b o,X.s₀.heap.get? b=some o->b≠X.env.locals:=fun b o e=>Bo (Ca (Az e) I.ok.above)
 have neC:∀ b o,X.s₀.heap.get? b=some o->b∉X.ex->b∉ch:=fun b o e hx hb=>by
  rcases(hch b hb).1 with z | z
  ·exact hx z
  ·exact absurd (Ca (Az e) z) (Jh _)
 have cellK:∀ x c,X.env.cells.lookup x=some c->∀ v,s.heap.IsCell c v->h'.IsCell c v:=fun x c e v ⟨o,ho,hd⟩=>by
  have nch:c∉ch:=fun z=>(hch c z).2.2.1 x c e rfl
  by_cases hc:c∈X.fs
  ·obtain⟨sl,q⟩:=slot c o (I.cne x c e) hc nch ho (I.freeC x c e)
   exact⟨_,q,hd⟩
  ·exact⟨o,keep c o (I.cne x c e) hc nch ho (I.freeC x c e),hd⟩
 refine⟨I.ok,I.os,hg,⟨fun b o e n hb hx=>?_,fun b o e n hb hx=>?_,fun b o e n hx=>?_,fun b o e hx=>?_,fun b xs e=>tups b xs (I.base.tups b xs e),fun b o xs e=>frzs b o xs (I.base.frzs b o xs e),fun b ps e=>?_⟩,?_,fun x c e=>?_,?_,fun x c e=>?_,fun p hp=>?_,hok,I.len⟩
 ·exact keep b o (neL b o e) hb (neC b o e hx) (I.base.keep b o e n hb hx) (I.base.free b o e n hx)
 ·obtain⟨sl,e1⟩:=I.base.slot b o e n hb hx
  obtain⟨sl',e2⟩:=slot b _ (neL b o e) hb (neC b o e hx) e1 (I.base.free b o e n hx)
  exact⟨sl',e2⟩
 ·obtain⟨o',e1⟩:=I.base.there b o e hx
  exact free b o' (neC b o e hx) e1 (I.base.free b o e n hx)
 ·obtain⟨o',e1⟩:=I.base.there b o e hx
  exact there b o' (neC b o e hx) e1
 ·obtain⟨m1,e1⟩:=I.base.tbls b ps e
  obtain⟨m2,e2⟩:=tbls b _ e1
  exact⟨m1 ++ m2,by rw[e2,Array.append_assoc]⟩
 ·obtain⟨m,hn,hl⟩:=I.loc
  refine⟨m,ns m hn,fun i x v e1 e2 e3=>?_⟩
  obtain⟨u,r,l⟩:=hl i x v e1 e2 e3
  refine⟨u,r,?_⟩
  rcases l with l | ⟨k,c,e,z⟩
  ·exact .inl l
  ·exact .inr ⟨k,c,e,cellK x c e _ z⟩
 ·obtain⟨v,z⟩:=I.cell x c e
  exact⟨v,cellK x c e v z⟩
 ·obtain⟨m,⟨o,_,_,ho,_⟩,_⟩:=I.loc
  exact free _ o (fun z=>(hch _ z).2.1 rfl) ho I.free
 ·obtain⟨v,o,ho,hd⟩:=I.cell x c e
  exact free c o (fun z=>(hch c z).2.2.1 x c e rfl) ho (I.freeC x c e)
 ·obtain⟨e,n,ne,nf,d⟩:=I.pin p hp
  have nch:p.1∉ch:=fun z=>(hch p.1 z).2.2.2 p hp rfl
  exact⟨keep p.1 p.2 ne nf nch e n,free p.1 p.2 nch e n,ne,nf,d⟩
theorem Inv.un{t':Nat}(I:Inv X pins σ H s)(u:Un X.fs [] H H' s.heap h')(hok:cU X.prog X.w H' h'):Inv X pins σ H' {s with heap:=h',toks:=t'}:=by
 obtain⟨m,⟨o,es,ep,ho,r⟩,_⟩:=id I.loc
 obtain⟨sl,hL⟩:=u.any ho I.free (by simp)
 exact I.step (g':=s.gens) (d':=s.drawn) (ch:=[]) (fun _ z=>nomatch z) (fun b o _ hb _ e n=>u.keep b o e n hb (by simp)) (fun b o _ hb _ e n=>u.slot b o e n hb (by simp)) (fun b o _ e n=>u.free b o e n (by simp)) (fun b o _ e=>u.there b o e (by simp)) u.tups u.frzs u.tbls (fun m' hm=>by
  obtain⟨o',es',ep',ho',r'⟩:=hm
  rw[ho] at ho';cases ho'
  exact⟨_,es',ep',hL,r'⟩) hok I.bare
theorem Inv.call{g':Array GenState}{t':Nat}{d':Drawn}{ch:List Addr}(I:Inv X pins σ H s)(u:Un (f6 X.stack) ch H H' s.heap h')(hok:cU X.prog X.w H' h')(hg:Lr g')
  (hch:∀ b∈ch,(b∈X.ex\/X.s₀.heap.objs.size<=b)/\b≠X.env.locals/\(∀ x c,X.env.cells.lookup x=some c->c≠b)/\∀ p∈X.pn ++ pins,p.1≠b) :
  Inv X pins σ H' {s with heap:=h',gens:=g',drawn:=d',toks:=t'}:=by
 obtain⟨m,⟨o,es,ep,ho,r⟩,_⟩:=id I.loc
 obtain⟨sl,hL⟩:=u.any ho I.free fun z=>(hch _ z).2.1 rfl
 exact I.step (ch:=ch) hch (fun b o hL hb hc e n=>u.keep b o e n (fun z=>(Ay.mp (I.stkSub b z)).elim hL hb) hc) (fun b o _ _ hc e n=>u.any e n hc) (fun b o hc e n=>u.free b o e n hc) (fun b o hc e=>u.there b o e hc) u.tups u.frzs u.tbls (fun m' hm=>by
  obtain⟨o',es',ep',ho',r'⟩:=hm
  rw[ho] at ho';cases ho'
  exact⟨_,es',ep',hL,r'⟩) hok hg
theorem Inv.turned{t':Nat}{it:Addr}(I:Inv X pins σ H s)(k:∀ b o,b≠it->s.heap.get? b=some o->h'.get? b=some o)(hn:H it=none)(hL:it≠X.env.locals)
  (h1:it∈X.ex\/X.s₀.heap.objs.size<=it) (h2:∀ x c,X.env.cells.lookup x=some c->c≠it) (h3:∀ p∈X.pn ++ pins,p.1≠it):Inv X pins σ H {s with heap:=h',toks:=t'}:=by
 have nit:∀ b u,H b=some u->b≠it:=fun b u e z=>by rw[z,hn] at e;cases e
 refine I.step (g':=s.gens) (d':=s.drawn) (ch:=[it]) (fun b hb=>?_) (fun b o _ _ hc e _=>k b o (fun z=>hc (by simp[z])) e) (fun b o _ _ hc e _=>⟨o.slots,k b o (fun z=>hc (by simp[z])) e⟩) (fun _ _ _ _ n=>n)
  (fun b o hc e=>⟨o,k b o (fun z=>hc (by simp[z])) e⟩) (fun _ _ e=>e) (fun _ _ _ e=>e) (fun b ps e=>⟨#[],by rw[e];simp⟩) (fun m hm=>?_) (fun b u e=>?_) I.bare
 ·have e:b=it:=by simpa using hb
  subst e
  exact⟨h1,hL,h2,h3⟩
 ·obtain⟨o,es,ep,ho,r⟩:=hm
  exact⟨o,es,ep,k _ o (Cg hL) ho,r⟩
 ·refine(I.hok b u e).stay (fun c v hc q=>k c v ?_ q) (fun _ q=>q) fun _ _ q=>q
  rcases hc with z | z
  ·rw[z];exact nit b u e
  ·exact nit c _ z
theorem Inv.tok(I:Inv X pins σ H s)(t:Nat):Inv X pins σ H {s with toks:=t}:=I.un (h':=s.heap) (t':=t) Un.refl I.hok
theorem Inv.kept{t':Nat}(I:Inv X pins σ H s)(k:∀ b u,s.heap.get? b=some u->h'.get? b=some u):Inv X pins σ H {s with heap:=h',toks:=t'}:=I.un (Un.kept k) (I.hok.kept k)
theorem Inv.laid{a:Addr}{o:HO}{t':Nat}(I:Inv X pins σ H s)(k:∀ b u,s.heap.get? b=some u->h'.get? b=some u)(hp:s.heap.objs.size<=a)(new:c9 X.prog X.w (aR H a o) h' a o) :
  Inv X pins σ (aR H a o) {s with heap:=h',toks:=t'}:=I.un (Un.laid k hp (I.hok.fresh hp)) (I.hok.laid k hp new)
theorem Inv.write{x e:Addr}{o:HO}{t':Nat}(I:Inv X pins σ H s)(mu:oO (H x))(he:e=x\/H e=some (.own x))(k:∀ b u,b≠e->s.heap.get? b=some u->h'.get? b=some u)(heo:∃ u,h'.get? e=some u)
  (new:c9 X.prog X.w (aR H x o) h' x o):Inv X pins σ (aR H x o) {s with heap:=h',toks:=t'}:=I.un (Un.write mu he k heo) (I.hok.write mu he k heo new)
theorem Inv.pins_of{pins':List (Addr×Obj)}(I:Inv X pins σ H s)(h:∀ p∈pins',s.heap.get? p.1=some p.2/\H p.1=none/\p.1≠X.env.locals/\p.1∉X.fs/\∀ v,p.2.data≠.cell v):Inv X pins' σ H s:=
 ⟨I.ok,I.os,I.bare,I.base,I.loc,I.cell,I.free,I.freeC,fun p hp=>(Be.mp hp).elim (fun z=>I.pin p (Bx _ z)) (h p),I.hok,I.len⟩
theorem CP{N:List Str}(hN:N.Nodup){i j:Nat}{x:Str}(a:N[i]? = some x)(b:N[j]? = some x):i=j:=by
 obtain⟨h1,e1⟩:=Ah.mp a
 obtain⟨h2,e2⟩:=Ah.mp b
 exact(List.getElem_inj hN).mp (e1.trans e2.symm)
theorem CQ{M:Model}{A:Co}{E:Ae->Ag->Prop}{i:Nat}{x:Str}{v:V}{u:Ae}{Q:Unit->Ag->Prop}(I:Inv X pins σ H s)(hN:X.N.Nodup)(hi:X.N[i]? = some x)(hx:Loc X.env.scope x)(r:RelV v u)
  (h:∀ s',Inv X pins (σ.set i (some v)) H s'->(∃ a,Ei a s.heap s'.heap/\(a=X.env.locals\/X.env.cells.lookup x=some a))->Q () s') (hf:X.fn x=true\/X.env.scope.names.lookup x=some .local:=by first | exact .inl rfl | exact .inr rfl | assumption):Bh M A (storeName X.env x u) Q E s:=by
 obtain⟨m,hn,hl⟩:=id I.loc
 have hcls:(X.env.scope.kind == .class || (X.env.scope.kind == .module && X.env.locals != X.env.globals))=false:=by rw[I.ok.kind];rfl
 have hiσ:i < σ.length:=by rw[I.len];exact(Ah.mp hi).1
 have cne:=I.cne
 have tracked:∀ {a:Addr} {h':Heap},(∃ o,s.heap.get? a=some o/\H a=none)->Ei a s.heap h'->cU X.prog X.w H h':=fun {a h'} ha hs b ob e=>by
  obtain⟨_,_,hfree⟩:=ha
  refine(I.hok b ob e).stay (fun c w' hc q=>(hs.2 c ?_).trans q) (fun _ q=>q) fun _ _ q=>q
  rintro rfl
  rcases hc with rfl | hc
  ·rw[hfree] at e;cases e
  ·rw[hfree] at hc;cases hc
 rcases hx with hk | hk
 ·refine wpAny_storeName_local hk hn (fun h' hn' hs=>?_) hcls
  obtain⟨oL,_,_,hoL,_⟩:=id hn
  refine h _ ⟨I.ok,I.os,I.bare,⟨fun b o e n hb hx=>?_,fun b o e n hb hx=>?_,I.base.free,fun b o e hx=>?_,I.base.tups,I.base.frzs,I.base.tbls⟩,⟨_,hn',fun j y v' e1 e2 e3=>?_⟩,fun y c e=>?_,I.free,I.freeC,fun p hp=>?_,tracked ⟨oL,hoL,I.free⟩ hs,by simpa using I.len⟩ ⟨_,hs,.inl rfl⟩
  ·exact(hs.2 b (Bo (Ca (Az e) I.ok.above))).trans (I.base.keep b o e n hb hx)
  ·obtain⟨sl,e1⟩:=I.base.slot b o e n hb hx
   exact⟨sl,(hs.2 b (Bo (Ca (Az e) I.ok.above))).trans e1⟩
  ·obtain⟨o',e1⟩:=I.base.there b o e hx
   exact⟨o',(hs.2 b (Bo (Ca (Az e) I.ok.above))).trans e1⟩
  ·by_cases hj:j=i
   ·subst hj
    rw[hi] at e1;cases e1
    rw[List.getElem?_set_self hiσ] at e2
    cases e2
    exact⟨u,r,.inl ⟨hk,by simp⟩⟩
   ·rw[List.getElem?_set_ne (Cg hj)] at e2
    obtain⟨u',r',q⟩:=hl j y v' e1 e2 e3
    refine⟨u',r',?_⟩
    rcases q with⟨k,e⟩ | ⟨k,c,e,z⟩
    ·refine .inl ⟨k,?_⟩
     have:y≠x:=fun e=>hj (CP hN e1 (e ▸ hi))
     simp[this,e]
    ·exact .inr ⟨k,c,e,z.sameBut hs (cne y c e)⟩
  ·obtain⟨w',z⟩:=I.cell y c e
   exact⟨w',z.sameBut hs (cne y c e)⟩
  ·obtain⟨e,n,ne,nf,d⟩:=I.pin p hp
   exact⟨(hs.2 p.1 ne).trans e,n,ne,nf,d⟩
 ·have hfn:X.fn x=true:=by
   rcases hf with z | z
   ·exact z
   ·rw[z] at hk;cases hk
  obtain⟨c,hc⟩:=I.ok.has x (.inl hk)
  obtain⟨w',z⟩:=I.cell x c hc
  refine wpAny_storeName_cell I.ok.kind hk hc z (fun h' hc' hs=>?_)
  obtain⟨oc,hoc,hocd⟩:=id z
  refine h {s with heap:=h'} ⟨I.ok,I.os,I.bare,⟨fun b o e n hb hx=>?_,fun b o e n hb hx=>?_,I.base.free,fun b o e hx=>?_,I.base.tups,I.base.frzs,I.base.tbls⟩,⟨m,hn.sameBut hs (Cg (cne x c hc)),fun j y v' e1 e2 e3=>?_⟩,fun y c' e=>?_,I.free,I.freeC,fun p hp=>?_,tracked ⟨oc,hoc,I.freeC x c hc⟩ hs,by simpa using I.len⟩ ⟨c,hs,.inr hc⟩
  ·exact(hs.2 b (Bo (Ca (Az e) (I.ok.cab x c hfn hc)))).trans (I.base.keep b o e n hb hx)
  ·obtain⟨sl,e1⟩:=I.base.slot b o e n hb hx
   exact⟨sl,(hs.2 b (Bo (Ca (Az e) (I.ok.cab x c hfn hc)))).trans e1⟩
  ·obtain⟨o',e1⟩:=I.base.there b o e hx
   exact⟨o',(hs.2 b (Bo (Ca (Az e) (I.ok.cab x c hfn hc)))).trans e1⟩
  ·by_cases hj:j=i
   ·subst hj
    rw[hi] at e1;cases e1
    rw[List.getElem?_set_self hiσ] at e2
    cases e2
    exact⟨u,r,.inr ⟨.inl hk,c,hc,hc'⟩⟩
   ·rw[List.getElem?_set_ne (Cg hj)] at e2
    obtain⟨u',r',q⟩:=hl j y v' e1 e2 e3
    refine⟨u',r',?_⟩
    rcases q with q | ⟨k,c',e,z'⟩
    ·exact .inl q
    ·refine .inr ⟨k,c',e,z'.sameBut hs ?_⟩
     rintro rfl
     exact hj (CP hN e1 (I.ok.inj _ _ _ e hc ▸ hi))
  ·by_cases hcc:c'=c
   ·subst hcc;exact⟨_,hc'⟩
   ·obtain⟨w2,z2⟩:=I.cell y c' e
    exact⟨w2,z2.sameBut hs hcc⟩
  ·obtain⟨e,n,ne,nf,d⟩:=I.pin p hp
   refine⟨(hs.2 p.1 ?_).trans e,n,ne,nf,d⟩
   intro q
   rw[q,hoc] at e
   have q':oc=p.2:=Cj e
   exact d w' (by rw[<-q'];exact hocd)
theorem CS{M:Model}{A:Co}{E:Ae->Ag->Prop}{i:Nat}{x:Str}{v:V}{u:Ae}{Q:Unit->Ag->Prop}(I:Inv X pins σ H s)(hN:X.N.Nodup)(hi:X.N[i]? = some x)(hx:Loc X.env.scope x)(r:RelV v u)
  (h:∀ s',Inv X pins (σ.set i (some v)) H s'->Q () s') (hf:X.fn x=true\/X.env.scope.names.lookup x=some .local:=by first | exact .inl rfl | exact .inr rfl | assumption):Bh M A (storeName X.env x u) Q E s:=
 CQ I hN hi hx r (fun s' I' _=>h s' I') hf
theorem Inv.call'{s':Ag}{ch:List Addr}(I:Inv X pins σ H s)(ho:s'.os=s.os)(u:Un (f6 X.stack) ch H H' s.heap s'.heap)(hok:cU X.prog X.w H' s'.heap)(hg:Lr s'.gens)
  (hch:∀ b∈ch,(b∈X.ex\/X.s₀.heap.objs.size<=b)/\b≠X.env.locals/\(∀ x c,X.env.cells.lookup x=some c->c≠b)/\∀ p∈X.pn ++ pins,p.1≠b):Inv X pins σ H' s':=by
 obtain⟨h',g',d',t',o'⟩:=s'
 have e:o'=s.os:=ho
 subst e
 exact I.call (g':=g') (t':=t') (d':=d') u hok hg hch
end
abbrev XK:=Ae->Option Addr->Hp->Prop
abbrev St:=List (Option V)
abbrev VK:=V->Hp->Prop
abbrev TE:=St->Hp->VK->Prop
abbrev TT:=St->Hp->(Bool->Hp->Prop)->Prop
abbrev TA:=St->Hp->(List V->Hp->Prop)->Prop
structure kD where
 nx:St->Hp->Prop
 rt:VK
 bk:St->Hp->Prop:=fun _ _=>False
 ct:St->Hp->Prop:=fun _ _=>False
abbrev TS:=kD->St->Hp->Prop
def EP(X:Cx)(pins:List (Addr×Obj))(σ:St)(Q:VK)(u:Ae)(s':Ag):Prop:=∃ v H',Inv X pins σ H' s'/\RelV v u/\Q v H'
def TP(X:Cx)(pins:List (Addr×Obj))(σ:St)(Q:Bool->Hp->Prop)(b:Bool)(s':Ag):Prop:=∃ H',Inv X pins σ H' s'/\Q b H'
def AP(X:Cx)(pins:List (Addr×Obj))(σ:St)(Q:List V->Hp->Prop)(us:List Ae)(s':Ag):Prop:=∃ vs H',Inv X pins σ H' s'/\a5 vs us/\Q vs H'
def SP(X:Cx)(pins:List (Addr×Obj))(D:kD)(f:Flow)(s':Ag):Prop:=
 match f with
 | .next=>∃ σ' H',Inv X pins σ' H' s'/\D.nx σ' H'
 | .brk=>∃ σ' H',Inv X pins σ' H' s'/\D.bk σ' H'
 | .cont=>∃ σ' H',Inv X pins σ' H' s'/\D.ct σ' H'
 | .ret u=>∃ v σ' H',Inv X pins σ' H' s'/\RelV v u/\D.rt v H'
def PE(X:Cx)(e:Expr)(t:TE):Prop:=
 ∀ (pins:List (Addr×Obj)) (s:Ag) (σ:St) (H:Hp) (Q:VK),Inv X pins σ H s->t σ H Q->Bh (Bq X.prog X.w) X.A (eval e X.env) (EP X pins σ Q) X.xe s
def PT(X:Cx)(e:Expr)(t:TT):Prop:=
 ∀ (pins:List (Addr×Obj)) (s:Ag) (σ:St) (H:Hp) (Q:Bool->Hp->Prop),Inv X pins σ H s->t σ H Q->Bh (Bq X.prog X.w) X.A (isTrue e X.env (eval e X.env)) (TP X pins σ Q) X.xe s
def PW(X:Cx)(e:Expr)(t:TT):Prop:=
 ∀ (whole:Sem Ae) (pins:List (Addr×Obj)) (s:Ag) (σ:St) (H:Hp) (Q:Bool->Hp->Prop),Inv X pins σ H s->t σ H Q->Bh (Bq X.prog X.w) X.A (isTrue e X.env whole) (TP X pins σ Q) X.xe s
theorem PW.pt{X:Cx}{e:Expr}{t:TT}(h:PW X e t):PT X e t:=h _
def PA(X:Cx)(es:List Expr)(t:TA):Prop:=
 ∀ (pos:Pos) (pins:List (Addr×Obj)) (s:Ag) (σ:St) (H:Hp) (Q:List V->Hp->Prop),Inv X pins σ H s->t σ H Q->Bh (Bq X.prog X.w) X.A (spliced (Gf pos (Bg es X.env))) (AP X pins σ Q) X.xe s
def PS(X:Cx)(st:Stmt)(t:TS):Prop:=
 ∀ (pins:List (Addr×Obj)) (s:Ag) (σ:St) (H:Hp) (D:kD),Inv X pins σ H s->t D σ H->Bh (Bq X.prog X.w) X.A (exec st X.env) (SP X pins D) X.xe s
def f7(X:Cx)(st:List Stmt)(t:TS):Prop:=
 ∀ (pins:List (Addr×Obj)) (s:Ag) (σ:St) (H:Hp) (D:kD),Inv X pins σ H s->t D σ H->Bh (Bq X.prog X.w) X.A (execs st X.env) (SP X pins D) X.xe s
theorem a8{α:Type}{t:Sem α}{Q Q':α->Ag->Prop}{M:Model}{A:Co}{E:Ae->Ag->Prop}{s:Ag}(h:Bh M A t Q E s)(hQ:∀ a s,Q a s->Q' a s):Bh M A t Q' E s:=He h hQ fun _ _ x=>x
section
variable {X:Cx}
def LZ(i:Nat):TE:=fun σ H Q=>∃ v,σ[i]? = some (some v)/\Q v H
def tC(v:V):TE:=fun _ H Q=>Q v H
theorem uL{i:Nat}{x:Str}{pos:Pos}(hN:X.N[i]? = some x)(hv:oP X.env.scope x)(hd:(x == ("__debug__" : Str))=false:=by decide)(hcd:(x == ("__classdict__" : Str))=false:=by decide):PE X (.Name x pos) (LZ i):=by
 intro pins s σ H Q I h
 obtain⟨v,e,h⟩:=h
 obtain⟨m,hn,hl⟩:=I.loc
 obtain⟨u,r,l⟩:=hl i x v hN e hv
 have fin:EP X pins σ Q u s:=⟨v,H,I,r,h⟩
 rcases l with⟨hk,hm⟩ | ⟨hk,c,hc,hcell⟩
 ·exact wpAny_Name (wpAny_loadName_local I.ok.kind hk hn hm fin) hd
 ·rcases hk with hk | hk
  ·exact wpAny_Name (wpAny_loadName_cell I.ok.kind hk hc hcell fin) hd
  ·exact wpAny_Name (wpAny_loadName_free I.ok.kind hk hc hcell fin hcd) hd
theorem L0{i j pos}:PE X (.Constant (.int i) j pos) (tC (.int i)):=fun _ _ _ H _ I h=>wpAny_Constant_int ⟨.int i,H,I.tok _,⟨_,rfl⟩,h⟩
theorem L1{b j pos}:PE X (.Constant (.bool b) j pos) (tC (.bl b)):=fun _ _ _ H _ I h=>Constant_bool ⟨.bl b,H,I,rfl,h⟩
theorem L4{j pos}:PE X (.Constant .none j pos) (tC .non):=fun _ _ _ H _ I h=>Constant_none ⟨.non,H,I,rfl,h⟩
theorem L5{x j pos}:PE X (.Constant (.str x) j pos) (tC (.str x)):=fun _ _ _ H _ I h=>Calls.Constant_str ⟨.str x,H,I.tok _,⟨_,rfl⟩,h⟩
def Gl(X:Cx)(x:Str):Prop:=X.env.kindOf x=some .globalImplicit
theorem oQ{E:Ae->Ag->Prop}{pins:List (Addr×Obj)}{s:Ag}{σ:St}{H:Hp}{x:Str}{u:Ae}{pos:Pos}{Q:Ae->Ag->Prop}(I:Inv X pins σ H s)(hg:Gl X x)(hm:X.mg x=some u)(h:Q u s)
  (hd:(x == ("__debug__" : Str))=false:=by decide):Bh (Bq X.prog X.w) X.A (eval (.Name x pos) X.env) Q E s:=
 Calls.Name_function_global I.ok.kind hg (Calls.loadGlobal_global (by rw[I.ok.glob];exact I.mod.glob.keeps I.bk) hm h) hd
theorem kE{E:Ae->Ag->Prop}{pins:List (Addr×Obj)}{s:Ag}{σ:St}{H:Hp}{x:Str}{u:Ae}{pos:Pos}{Q:Ae->Ag->Prop}(I:Inv X pins σ H s)(hg:Gl X x)(hm:X.mg x=none)(hv:Dv x=some u)(h:Q u s)
  (hn:x≠"__name__":=by decide) (hd:(x == ("__debug__" : Str))=false:=by decide):Bh (Bq X.prog X.w) X.A (eval (.Name x pos) X.env) Q E s:=by
 obtain⟨mb,h1,h2⟩:=I.mod.blt
 exact Calls.Name_function_global I.ok.kind hg (Calls.loadGlobal_builtin (by rw[I.ok.glob];exact I.mod.glob.keeps I.bk) hm (by rw[I.ok.blt];exact h1.keeps I.bk) ((h2 x hn).trans hv) h) hd
theorem L6{x:Str}{v:V}{u:Ae}{pos:Pos}(hg:Gl X x)(hm:X.mg x=some u)(r:RelV v u)(hd:(x == ("__debug__" : Str))=false:=by decide):PE X (.Name x pos) (tC v):=
 fun _ _ _ H _ I h=>oQ I hg hm ⟨v,H,I,r,h⟩ hd
variable {a b:Expr}{ta tb:TE}{pos:Pos}
variable {tA tB':TT}{rest:List Expr}
def L7(t u:TT):TT:=fun σ H Q=>t σ H fun c H1=>if c=true then u σ H1 Q else Q false H1
def L8(t u:TT):TT:=fun σ H Q=>t σ H fun c H1=>if c=true then Q true H1 else u σ H1 Q
def L9(t:TT):TT:=fun σ H Q=>t σ H fun c H1=>Q (!c) H1
theorem MA(ha:PT X a tA):PW X (.BoolOp .And [a] pos) tA:=by
 intro wh pins s σ H Q I h
 refine isTrue_and (a8 (ha pins s σ H Q I h) fun c s1 e=>?_)
 cases c with
 | true=>exact isTrue_and_nil e
 | false=>exact e
theorem MB(ha:PT X a tA):PW X (.BoolOp .Or [a] pos) tA:=by
 intro wh pins s σ H Q I h
 refine isTrue_or (a8 (ha pins s σ H Q I h) fun c s1 e=>?_)
 cases c with
 | false=>exact isTrue_or_nil e
 | true=>exact e
theorem MC(ha:PT X a tA)(hb:PW X (.BoolOp .And (b :: rest) pos) tB'):PW X (.BoolOp .And (a :: b :: rest) pos) (L7 tA tB'):=by
 intro wh pins s σ H Q I h
 refine isTrue_and (a8 (ha pins s σ H _ I h) fun c s1 ⟨H1,I1,q1⟩=>?_)
 cases c with
 | true=>exact hb wh pins s1 σ H1 Q I1 q1
 | false=>exact⟨H1,I1,q1⟩
theorem MD(ha:PT X a tA)(hb:PW X (.BoolOp .Or (b :: rest) pos) tB'):PW X (.BoolOp .Or (a :: b :: rest) pos) (L8 tA tB'):=by
 intro wh pins s σ H Q I h
 refine isTrue_or (a8 (ha pins s σ H _ I h) fun c s1 ⟨H1,I1,q1⟩=>?_)
 cases c with
 | true=>exact⟨H1,I1,q1⟩
 | false=>exact hb wh pins s1 σ H1 Q I1 q1
theorem ME(ha:PT X a tA):PT X (.UnaryOp .Not a pos) (L9 tA):=by
 intro pins s σ H Q I h
 exact isTrue_not (ha pins s σ H (fun c H1=>Q (!c) H1) I h)
def MF(ta tb:TE):TE:=fun σ H Q=>ta σ H fun x H1=>∃ c,x=.bl c/\if c=true then tb σ H1 Q else Q (.bl false) H1
theorem MG{op}{t:TE}(h:PE X a t):PE X (.BoolOp op [a] pos) t:=fun pins s σ H Q I hw=>BoolOp_one (h pins s σ H Q I hw)
theorem MH(ha:PE X a ta)(hb:PE X (.BoolOp .And (b :: rest) pos) tb):PE X (.BoolOp .And (a :: b :: rest) pos) (MF ta tb):=by
 intro pins s σ H Q I h
 refine BoolOp_and (a8 (ha pins s σ H _ I h) fun v s1 ⟨x,H1,I1,r1,q1⟩=>?_)
 obtain⟨c,rfl,q1⟩:=q1
 cases r1
 refine wpAny_truthy_bool ?_
 cases c with
 | true=>exact hb pins s1 σ H1 Q I1 q1
 | false=>exact⟨.bl false,H1,I1,rfl,q1⟩
def MI(t:TT)(ta tb:TE):TE:=fun σ H Q=>t σ H fun c H1=>if c=true then ta σ H1 Q else tb σ H1 Q
theorem MJ{c:Expr}(hc:PT X c tA)(ha:PE X a ta)(hb:PE X b tb):PE X (.IfExp c a b pos) (MI tA ta tb):=by
 intro pins s σ H Q I h
 refine wpAny_IfExp (a8 (hc pins s σ H _ I h) fun d s1 ⟨H1,I1,q1⟩=>?_)
 cases d with
 | true=>exact ha pins s1 σ H1 Q I1 q1
 | false=>exact hb pins s1 σ H1 Q I1 q1
end
def bQ(K:Ab)(H:Hp)(a:Addr)(xs:List V):Prop:=
 Rd H a (.lst xs)\/
  ∃ (o:Obj) (its:Array Ae) (n:Nat),K.lookup a=some o/\o.cls=.type "list"/\o.dict=none/\o.data=.seq its n/\its.size<=Ak/\a5 xs its.toList
def cD(K:Ab)(H:Hp)(a:Addr)(xs:List V):Prop:=
 Rd H a (.tup xs)\/
  ∃ (o:Obj) (its:Array Ae) (n:Nat),K.lookup a=some o/\o.cls=.type "tuple"/\o.data=.seq its n/\its.size<=Ak/\a5 xs its.toList
def MK:Ae->Option V
 | .none=>some .non
 | .bool b=>some (.bl b)
 | .int i _=>some (.int i)
 | .str x _=>some (.str x)
 | .bytes b _=>some (.byt b)
 | .float b _=>some (.flt b)
 | .ref a=>some (.ref a)
 | .type n=>some (.ty n)
 | _=>none
theorem RelV.abs{x:V}{u:Ae}(r:RelV x u):MK u=some x:=by
 cases x with
 | non=>cases r;rfl
 | bl _=>cases r;rfl
 | int _=>obtain⟨t,rfl⟩:=r;rfl
 | str _=>obtain⟨t,rfl⟩:=r;rfl
 | byt _=>obtain⟨t,rfl⟩:=r;rfl
 | flt _=>obtain⟨t,rfl⟩:=r;rfl
 | ref _=>cases r;rfl
 | ty _=>cases r;rfl
theorem RelV.inj{x y:V}{u:Ae}(r:RelV x u)(q:RelV y u):x=y:=Cj (r.abs.symm.trans q.abs)
theorem a5.inj:∀ {xs ys:List V} {us:List Ae},a5 xs us->a5 ys us->xs=ys
 | _,_,_,.nil,.nil=>rfl
 | _,_,_,.cons r t,.cons r' t'=>by rw[r.inj r',a5.inj t t']
section
variable {X:Cx}{pins:List (Addr×Obj)}{σ:St}{H:Hp}{s:Ag}{a:Addr}{xs ys:List V}
theorem bQ.of{K:Ab}(h:H a=some (.lst xs)):bQ K H a xs:=.inl (.inl h)
theorem cD.of{K:Ab}(h:H a=some (.tup xs)):cD K H a xs:=.inl (.inl h)
theorem Inv.list(I:Inv X pins σ H s)(h:bQ X.K H a xs):∃ its:List Ae,a5 xs its/\PlainL s.heap a its.toArray/\xs.length<=Ak:=by
 rcases h with h | ⟨o,its,n,hk,hc,hd,hs,hz,r⟩
 ·obtain⟨z,its,n,r,e⟩:=h.ok I.hok
  exact⟨its,r,⟨_,n,e,rfl,rfl,rfl⟩,z⟩
 ·refine⟨its.toList,r,⟨o,n,I.kIn a o hk,hc,hd,by simpa using hs⟩,?_⟩
  have e:=r.length
  simp only[Fp] at e
  lia
theorem Inv.tuple(I:Inv X pins σ H s)(h:cD X.K H a xs):∃ its:List Ae,a5 xs its/\IsTup s.heap a its.toArray/\xs.length<=Ak:=by
 rcases h with h | ⟨o,its,n,hk,hc,hs,hz,r⟩
 ·obtain⟨z,its,r,p⟩:=h.ok I.hok
  exact⟨its,r,p,z⟩
 ·refine⟨its.toList,r,⟨o,I.kIn a o hk,hc,n,by simpa using hs⟩,?_⟩
  have e:=r.length
  simp only[Fp] at e
  lia
theorem Inv.list_inj(I:Inv X pins σ H s)(h:bQ X.K H a xs)(h':bQ X.K H a ys):xs=ys:=by
 obtain⟨its,r,⟨o,n,e,_,_,d⟩,_⟩:=I.list h
 obtain⟨its',r',⟨o',n',e',_,_,d'⟩,_⟩:=I.list h'
 rw[e] at e';cases e'
 rw[d] at d'
 injection d' with d1 _
 have:its=its':=by simpa using congrArg Array.toList d1
 subst this
 exact r.inj r'
theorem Inv.tuple_inj(I:Inv X pins σ H s)(h:cD X.K H a xs)(h':cD X.K H a ys):xs=ys:=by
 obtain⟨its,r,⟨o,e,_,n,d⟩,_⟩:=I.tuple h
 obtain⟨its',r',⟨o',e',_,n',d'⟩,_⟩:=I.tuple h'
 rw[e] at e';cases e'
 rw[d] at d'
 injection d' with d1 _
 have:its=its':=by simpa using congrArg Array.toList d1
 subst this
 exact r.inj r'
end
abbrev Cx.wish(X:Cx)(E:Ae->Ag->Prop):Cx:={X with xe:=E}
abbrev Cx.nox(X:Cx):Cx:=X.wish fun _ _=>False
theorem Cx.Ok.wish{X:Cx}(ok:X.Ok)(E:Ae->Ag->Prop):(X.wish E).Ok:=
 ⟨ok.mod,ok.kind,ok.glob,ok.blt,ok.above,ok.inj,ok.has,ok.cab,ok.hd,ok.frames,ok.stk,ok.exf,ok.bs,ok.bsz,ok.noex,ok.exfs,ok.funs,ok.frf⟩
theorem Cx.Ok.unwish{X:Cx}{E:Ae->Ag->Prop}(ok:(X.wish E).Ok):X.Ok:=
 ⟨ok.mod,ok.kind,ok.glob,ok.blt,ok.above,ok.inj,ok.has,ok.cab,ok.hd,ok.frames,ok.stk,ok.exf,ok.bs,ok.bsz,ok.noex,ok.exfs,ok.funs,ok.frf⟩
section
variable {X:Cx}{pins:List (Addr×Obj)}{σ:St}{H:Hp}{s:Ag}{E:Ae->Ag->Prop}
theorem Inv.wish(I:Inv X pins σ H s)(E:Ae->Ag->Prop):Inv (X.wish E) pins σ H s:=⟨I.ok.wish E,I.os,I.bare,I.base,I.loc,I.cell,I.free,I.freeC,I.pin,I.hok,I.len⟩
theorem Inv.unwish(I:Inv (X.wish E) pins σ H s):Inv X pins σ H s:=⟨I.ok.unwish,I.os,I.bare,I.base,I.loc,I.cell,I.free,I.freeC,I.pin,I.hok,I.len⟩
theorem SP.unwish{D:kD}{f:Flow}{s':Ag}(h:SP (X.wish E) pins D f s'):SP X pins D f s':=by
 cases f with
 | next=>obtain⟨σ',H',I,q⟩:=h;exact⟨σ',H',I.unwish,q⟩
 | brk=>obtain⟨σ',H',I,q⟩:=h;exact⟨σ',H',I.unwish,q⟩
 | cont=>obtain⟨σ',H',I,q⟩:=h;exact⟨σ',H',I.unwish,q⟩
 | ret u=>obtain⟨v,σ',H',I,r,q⟩:=h;exact⟨v,σ',H',I.unwish,r,q⟩
theorem f7.nox{st:List Stmt}{t:TS}(h:f7 X.nox st t):f7 X st t:=fun pins s σ H D I hw=>
 He (h pins s σ H D (I.wish _) hw) (fun _ _ q=>q.unwish) fun _ _ z=>Du z
end
section
variable {X:Cx}{st:Stmt}{rest:List Stmt}{t u:TS}{e:Expr}{te:TE}{pos:Pos}
def ML:TS:=fun D σ H=>D.nx σ H
def MM(t u:TS):TS:=fun D σ H=>t {D with nx:=u D} σ H
theorem MN:f7 X [] ML:=fun _ _ σ H _ I h=>Ls ⟨σ,H,I,h⟩
theorem MP(h1:PS X st t)(h2:f7 X rest u):f7 X (st :: rest) (MM t u):=by
 intro pins s σ H D I h
 refine wpAny_execs_cons (a8 (h1 pins s σ H {D with nx:=u D} I h) fun f s1 q=>?_)
 cases f with
 | next=>
  obtain⟨σ',H',I',q⟩:=q
  exact h2 pins s1 σ' H' D I' q
 | ret v=>exact q
 | brk=>exact q
 | cont=>exact q
theorem MQ(h1:PS X st t):f7 X [st] t:=by
 intro pins s σ H D I h
 refine wpAny_execs_cons (a8 (h1 pins s σ H D I h) fun f s1 q=>?_)
 cases f with
 | next=>exact Ls q
 | ret v=>exact q
 | brk=>exact q
 | cont=>exact q
theorem Inv.quiet{pins:List (Addr×Obj)}{σ:St}{H:Hp}{s:Ag}(I:Inv X pins σ H s):interactive X.env=false:=by simp[interactive,I.ok.kind]
def MR(te:TE):TS:=fun D σ H=>te σ H fun _ H1=>D.nx σ H1
theorem MS(he:PE X e te)(hs:Ir e none pos.line X.env=pure false:=by rfl):PS X (.Expr e pos) (MR te):=by
 intro pins s σ H D I h
 exact wpAny_Expr_any (a8 (he pins s σ H _ I h) fun v s1 ⟨x,H1,I1,r1,q1⟩=>⟨σ,H1,I1,q1⟩) I.quiet hs
def MT(te:TE):TS:=fun D σ H=>te σ H D.rt
theorem MU(he:PE X e te):PS X (.Return (some e) pos) (MT te):=by
 intro pins s σ H D I h
 exact wpAny_Return_some (a8 (he pins s σ H _ I h) fun v s1 ⟨x,H1,I1,r1,q1⟩=>⟨x,σ,H1,I1,r1,q1⟩)
def MV:TS:=fun D _ H=>D.rt .non H
theorem MX:PS X (.Return none pos) MV:=fun _ _ σ H _ I h=>wpAny_Return_none ⟨.non,σ,H,I,rfl,h⟩
def MY(c:TT)(t u:TS):TS:=fun D σ H=>c σ H fun b H1=>if b=true then t D σ H1 else u D σ H1
theorem MZ{c:Expr}{a b:List Stmt}{tc:TT}(hc:PT X c tc)(ha:f7 X a t)(hb:f7 X b u):PS X (.If c a b pos) (MY tc t u):=by
 intro pins s σ H D I h
 refine wpAny_If (a8 (hc pins s σ H _ I h) fun d s1 ⟨H1,I1,q1⟩=>?_)
 cases d with
 | true=>exact ha pins s1 σ H1 D I1 q1
 | false=>exact hb pins s1 σ H1 D I1 q1
end
abbrev TG:=V->St->Hp->(St->Hp->Prop)->Prop
abbrev jF:=List V->St->Hp->(St->Hp->Prop)->Prop
def PG(X:Cx)(target:Expr)(t:TG):Prop:=
 ∀ (pins:List (Addr×Obj)) (s:Ag) (σ:St) (H:Hp) (v:V) (u:Ae) (Q:St->Hp->Prop),Inv X pins σ H s->RelV v u->t v σ H Q->
  Bh (Bq X.prog X.w) X.A (Kz target X.env u) (fun _ s'=>∃ σ' H',Inv X pins σ' H' s'/\Q σ' H') X.xe s
def iV(X:Cx)(ts:List Expr)(t:jF):Prop:=
 ∀ (pins:List (Addr×Obj)) (s:Ag) (σ:St) (H:Hp) (vs:List V) (us:List Ae) (Q:St->Hp->Prop),Inv X pins σ H s->a5 vs us->t vs σ H Q->
  Bh (Bq X.prog X.w) X.A (assignInOrder ((Gg ts X.env).map (·.2)) us) (fun _ s'=>∃ σ' H',Inv X pins σ' H' s'/\Q σ' H') X.xe s
abbrev qR:=V->V->V->Hp->(Hp->Prop)->Prop
def qS(X:Cx)(t:qR):Prop:=
 ∀ (pins:List (Addr×Obj)) (s:Ag) (σ:St) (H:Hp) (o i v:V) (ov iv u:Ae) (Q:Hp->Prop),Inv X pins σ H s->RelV o ov->RelV i iv->RelV v u->t o i v H Q->
  Bh (Bq X.prog X.w) X.A (setItem ov iv u) (fun _ s'=>∃ H',Inv X pins σ H' s'/\Q H') X.xe s
section
variable {X:Cx}{pos:Pos}
def uM(i:Nat):TG:=fun v σ H Q=>Q (σ.set i (some v)) H
theorem M8{i:Nat}{x:Str}(hN:X.N.Nodup)(hi:X.N[i]? = some x)(hx:Loc X.env.scope x)(hf:X.fn x=true\/X.env.scope.names.lookup x=some .local:=by first | exact .inl rfl | exact .inr rfl | assumption):PG X (.Name x pos) (uM i):=by
 intro pins s σ H v u Q I r h
 exact wpAny_assign_Name (CS I hN hi hx r (fun s' I'=>⟨_,H,I',h⟩) hf)
def M9:jF:=fun vs σ H Q=>vs=[]/\Q σ H
def NA(t:TG)(u:jF):jF:=fun vs σ H Q=>∃ v r,vs=v :: r/\t v σ H fun σ' H'=>u r σ' H' Q
theorem NB:iV X [] M9:=by
 intro pins s σ H vs us Q I r h
 obtain⟨e,h⟩:=h
 subst e
 cases r
 exact assignInOrder_nil ⟨σ,H,I,h⟩
theorem NC{e:Expr}{es:List Expr}{t:TG}{u:jF}(h1:PG X e t)(h2:iV X es u)
  (hs:(Gg (e :: es) X.env).map (·.2)=Kz e X.env :: (Gg es X.env).map (·.2):=by rfl):iV X (e :: es) (NA t u):=by
 intro pins s σ H vs us Q I r h
 obtain⟨v,vr,e1,h⟩:=h
 subst e1
 cases r with
 | cons r rr=>
  rw[hs]
  refine assignInOrder_cons (a8 (h1 pins s σ H _ _ _ I r h) fun _ s1 ⟨σ1,H1,I1,q1⟩=>?_)
  exact h2 pins s1 σ1 H1 _ _ Q I1 rr q1
def ND(K:Ab)(n:Nat)(t:jF):TG:=fun v σ H Q=>∃ a xs,v=.ref a/\cD K H a xs/\xs.length=n/\t xs σ H Q
theorem NF{es:List Expr}{k:Nat}{t:jF}{n:Nat}(hc:X.calm=true)(h:iV X es t)
  (hn:(Gg es X.env).length=n:=by rfl) (hst:(Gg es X.env).findIdx? (·.1)=none:=by rfl):PG X (.Tuple es k pos) (ND X.K n t):=by
 intro pins s σ H v u Q I r hw
 obtain⟨a,xs,e1,hq,hl,hw⟩:=hw
 subst e1
 cases r
 obtain⟨its,rv,ht,hz⟩:=I.tuple hq
 refine assign_Tuple_tuple (I.ok.hd hc) ht (by simp[hn,<-hl,rv.length]) hst fun h' hx=>?_
 have I1:Inv X pins σ H {s with heap:=h'}:=I.kept (t':=s.toks) fun b o e=>hx b o (Bo (Az e)) e
 exact h pins _ σ H xs _ Q I1 (by simpa using rv) hw
def NG(to ti:TE)(t:qR):TG:=fun v σ H Q=>to σ H fun o H1=>ti σ H1 fun i H2=>t o i v H2 fun H3=>Q σ H3
theorem NH{o i:Expr}{to ti:TE}{t:qR}(ho:PE X o to)(hi:PE X i ti)(hs:qS X t)
  (ha:∀ v,Kz (.Subscript o i pos) X.env v=(do
   let ov <-Il [v] (eval o X.env)
   let iv <-Il [v,ov] (eval i X.env)
   Mc pos
   Il [v,ov,iv] (setItem ov iv v)
   release [v,ov,iv] []):=by intro _;rfl):PG X (.Subscript o i pos) (NG to ti t):=by
 intro pins s σ H v u Q I r h
 rw[ha]
 refine Ac (Dq (a8 (ho pins s σ H _ I h) fun ov s1 ⟨x,H1,I1,r1,q1⟩=>?_))
 refine Ac (Dq (a8 (hi pins s1 σ H1 _ I1 q1) fun iv s2 ⟨y,H2,I2,r2,q2⟩=>?_))
 refine Ac (Me (Ac (Dq (a8 (hs pins s2 σ H2 x y v ov iv u _ I2 r1 r2 r q2) fun _ s3 ⟨H3,I3,q3⟩=>?_))))
 exact wpAny_release ⟨σ,H3,I3,q3⟩
def qT(te:TE)(g:TG):TS:=fun D σ H=>te σ H fun x H1=>g x σ H1 D.nx
theorem NI{tg e:Expr}{te:TE}{g:TG}(he:PE X e te)(hg:PG X tg g)(hs:swapsWithSole [tg] e pos.line X.env=pure false:=by rfl)(hw:swappedStores [tg] e X.env=pure none:=by rfl)
  (h1:(Gg [tg] X.env).map (·.2)=[Kz tg X.env]:=by rfl):PS X (.Assign [tg] e pos) (qT te g):=by
 intro pins s σ H D I h
 refine wpAny_Assign_stores (a8 (he pins s σ H _ I h) fun v s1 ⟨x,H1,I1,r1,q1⟩=>?_) hs hw
 rw[h1]
 exact a8 (hg pins s1 σ H1 x v _ I1 r1 q1) fun _ s2 q=>q
theorem NJ{i:Nat}{x:Str}{e:Expr}{te:TE}{pos':Pos}(hN:X.N.Nodup)(hi:X.N[i]? = some x)(hx:Loc X.env.scope x)(he:PE X e te)(hs:Ir e (some (.Name x pos')) pos.line X.env=pure false:=by rfl)(hf:X.fn x=true\/X.env.scope.names.lookup x=some .local:=by first | exact .inl rfl | exact .inr rfl | assumption) :
  PS X (.Assign [.Name x pos'] e pos) (qT te (uM i)):=by
 intro pins s σ H D I h
 refine wpAny_Assign_Name (a8 (he pins s σ H _ I h) fun v s1 ⟨y,H1,I1,r1,q1⟩=>?_) hs
 exact CS I1 hN hi hx r1 (fun s2 I2=>⟨_,H1,I2,q1⟩) hf
end
section
variable {X:Cx}{pos:Pos}
def NK(c:TT)(tb:TS):TS:=fun D σ H=>∃ W:Nat->St->Hp->Prop,(∃ m,W m σ H)/\∀ m σ H,W m σ H->
 c σ H fun b H1=>if b=true then ∃ N:St->Hp->Prop,(∀ σ' H',N σ' H'->∃ m',m' < m/\W m' σ' H')/\tb {D with nx:=N,ct:=N,bk:=D.nx} σ H1 else D.nx σ H1
theorem NL{c:Expr}{body:List Stmt}{tc:TT}{tb:TS}(hp:PassesOwn (Bq X.prog X.w) X.A X.env X.xe)(hc:PT X c tc)(hb:f7 X body tb):PS X (.While c body [] pos) (NK tc tb):=by
 intro pins s σ H D I h
 obtain⟨W,⟨m0,w0⟩,turn⟩:=h
 refine wpAny_While (codeAny_whileLoop (fun n s'=>∃ σ' H',Inv X pins σ' H' s'/\W n σ' H') ?_ m0 ⟨σ,H,I,w0⟩)
 rintro n s1 ⟨σ1,H1,I1,w1⟩
 refine Hi hp (a8 (hc pins s1 σ1 H1 _ I1 (turn n σ1 H1 w1)) fun b s2 ⟨H2,I2,q2⟩=>?_)
 cases b with
 | true=>
  obtain⟨N,hN,q2⟩:=q2
  rw[if_pos rfl]
  refine Hi hp (a8 (hb pins s2 σ1 H2 _ I2 q2) fun f s3 q3=>?_)
  cases f with
  | next=>
   obtain⟨σ3,H3,I3,n3⟩:=q3
   obtain⟨m',hm,w3⟩:=hN σ3 H3 n3
   exact⟨m',hm,σ3,H3,I3,w3⟩
  | cont=>
   obtain⟨σ3,H3,I3,n3⟩:=q3
   obtain⟨m',hm,w3⟩:=hN σ3 H3 n3
   exact⟨m',hm,σ3,H3,I3,w3⟩
  | brk=>exact q3
  | ret v=>exact q3
 | false=>
  rw[if_neg Ap]
  exact Ls ⟨σ1,H2,I2,q2⟩
end
structure It where
 go:Nat->Hp->Prop
 yld:Nat->Hp->V->Hp->Prop
 stop:Nat->Hp->Prop
def gV(X:Cx)(pins:List (Addr×Obj))(H:Hp)(b:Addr):Prop:=
 H b=none/\b≠X.env.locals/\b∉X.fs/\(b∈X.ex\/X.s₀.heap.objs.size<=b)/\(∀ x c,X.env.cells.lookup x=some c->c≠b)/\∀ p∈X.pn ++ pins,p.1≠b
theorem Inv.fpOk{X:Cx}{pins:List (Addr×Obj)}{σ:St}{H H':Hp}{s:Ag}{b:Addr}(I:Inv X pins σ H s)(hb:s.heap.objs.size<=b)(hn:H' b=none):gV X pins H' b:=by
 refine⟨hn,Fu (Ca I.lt hb),I.nofs hb,.inr (Ao I.sz hb),fun x c e z=>?_,fun p hp z=>?_⟩
 ·obtain⟨v,q⟩:=I.cell x c e
  exact absurd (Ca q.lt (by rw[z];exact hb)) (Jh _)
 ·exact absurd (Ca (Az (I.pin p hp).1) (by rw[z];exact hb)) (Jh _)
structure kF(P:Bu)(w:Cm)(K:Ab)(tg:Expr)(J:It)(fp:List Addr)(it:Addr)(tn:Nat->Heap->Prop):Prop where
 mem:it∈fp
 obj:∀ i h,tn i h->∀ b∈fp,∃ o,h.get? b=some o/\∀ v,o.data≠.cell v
 keep:∀ i h h',tn i h->(∀ b∈fp,∀ o,h.get? b=some o->h'.get? b=some o)->tn i h'
 item:∀ (X:Cx),X.prog=P->X.w=w->X.K=K->X.calm=true->∀ (i:Nat) (pins:List (Addr×Obj)) (s:Ag) (σ:St) (H:Hp) (E:Ae->Ag->Prop),Inv X pins σ H s->(∀ b∈fp,gV X pins H b)->tn i s.heap->J.go i H->
  Bh (Bq P w) X.A (Ky (.ref it)) (fun r s1=>∃ u,r=some u/\
   Bh (Bq P w) X.A (Lv tg (.ref it) u) (fun _ s2=>∃ x H',Inv X pins σ H' s2/\RelV x u/\J.yld i H x H'/\tn (i + 1) s2.heap/\∀ b∈fp,H' b=none) E s1) E s
 done:∀ (X:Cx),X.prog=P->X.w=w->X.K=K->X.calm=true->∀ (i:Nat) (pins:List (Addr×Obj)) (s:Ag) (σ:St) (H:Hp) (E:Ae->Ag->Prop),Inv X pins σ H s->(∀ b∈fp,gV X pins H b)->tn i s.heap->J.stop i H->
  Bh (Bq P w) X.A (Ky (.ref it)) (fun r s1=>r=none/\Inv X pins σ H s1) E s
 self:∀ (A:Co) (i:Nat) (s:Ag) (Q:Ae->Ag->Prop) (E:Ae->Ag->Prop),tn i s.heap->Q (.ref it) s->Bh (Bq P w) A (pyIter (.ref it)) Q E s
abbrev TI:=St->Hp->(It->Hp->Prop)->Prop
def uN(X:Cx)(pins:List (Addr×Obj))(σ:St)(tg:Expr)(R:It->Hp->Prop)(itv:Ae)(s2:Ag):Prop:=
 ∃ (it:Addr) (fp:List Addr) (tn:Nat->Heap->Prop) (J:It) (H':Hp),itv=.ref it/\Inv X pins σ H' s2/\kF X.prog X.w X.K tg J fp it tn/\tn 0 s2.heap/\(∀ b∈fp,gV X pins H' b)/\R J H'
def PI(X:Cx)(tg iter:Expr)(wi:TI):Prop:=
 ∀ (pins:List (Addr×Obj)) (s:Ag) (σ:St) (H:Hp) (R:It->Hp->Prop),Inv X pins σ H s->wi σ H R->
  Bh (Bq X.prog X.w) X.A (eval iter X.env) (fun v s1=>Bh (Bq X.prog X.w) X.A (pyIter v) (uN X pins σ tg R) X.xe s1) X.xe s
theorem qU{M:Model}{A:Co}{E:Ae->Ag->Prop}{s:Ag}{tg:Expr}{it:Addr}{u:Ae}{o:Obj}{n:String}{vs:Array Ae}{Q:Unit->Ag->Prop}(ho:s.heap.get? it=some o)(hc:o.cls=.type n)(hd:o.data=.fields vs)
  (hn : ["enumerate","zip","dict_itemiterator","dict_reverseitemiterator","odict_iterator","itertools.zip_longest","itertools.pairwise"].contains n=false) (hQ:Q () s):Bh M A (Lv tg (.ref it) u) Q E s:=by
 unfold Lv
 cases tg <;> first
  | exact Am hQ
  | (cases u <;> first
    | exact Am hQ
    | (refine Ac (wpAny_load ho ?_)
       rw[hc,hd]
       show Bh M A (if (["enumerate","zip","dict_itemiterator","dict_reverseitemiterator","odict_iterator","itertools.zip_longest","itertools.pairwise"].contains n && vs[0]? == some (Km _))=true then _ else _) Q E s
       rw[if_neg (by intro h;rw[hn,Bool.false_and] at h;cases h)]
       exact Am hQ))
def nC(K:Ab)(a:Addr):It:=
 ⟨fun i H=>∃ xs x,bQ K H a xs/\xs[i]? = some x,fun i H x H'=>H'=H/\∀ xs,bQ K H a xs->xs[i]? = some x,fun i H=>∃ xs,bQ K H a xs/\xs.length<=i⟩
def uO(K:Ab)(a:Addr):It:=
 ⟨fun i H=>∃ xs x,cD K H a xs/\xs[i]? = some x,fun i H x H'=>H'=H/\∀ xs,cD K H a xs->xs[i]? = some x,fun i H=>∃ xs,cD K H a xs/\xs.length<=i⟩
def qV(lo:Int)(n:Nat):It:=⟨fun i _=>i < n,fun i H x H'=>H'=H/\x=.int (lo + i),fun i _=>n<=i⟩
theorem NM{P:Bu}{w:Cm}{K:Ab}{tg:Expr}(a it:Addr):kF P w K tg (nC K a) [it] it (fun i h=>h.IsListIter it a i) where
 mem:=by simp
 obj:=fun i h st b hb=>by
  have e:b=it:=by simpa using hb
  subst e
  obtain⟨o,e,c,d⟩:=st
  exact⟨o,e,fun v z=>by rw[d] at z;cases z⟩
 keep:=fun i h h' st k=>st.at fun o e=>k it (by simp) o e
 item:=by
  intro X hP hw hK hc i pins s σ H E I hf st hg
  subst hP hw hK
  obtain⟨xs,x,hq,hx⟩:=hg
  obtain⟨its,rv,p,hz⟩:=I.list hq
  obtain⟨u,hu,ru⟩:=rv.get hx
  obtain⟨f0,f1,f2,f3,f4,f5⟩:=hf it (by simp)
  refine wpAny_pyNext_list_item st p.isList (x:=u) (by simpa using hu) fun h' st' sb=>?_
  have I1:Inv X pins σ H {s with heap:=h'}:=I.turned (t':=s.toks) (fun b o hb e=>(sb.2 b hb).trans e) f0 f1 f3 f4 f5
  obtain⟨o,e,c,d⟩:=id st'
  exact⟨u,rfl,qU (s:={s with heap:=h'}) e c d (by decide) ⟨x,H,I1,ru,⟨rfl,fun ys hy=>by rw[I.list_inj hy hq];exact hx⟩,st',fun b hb=>(hf b hb).1⟩⟩
 done:=by
  intro X hP hw hK hc i pins s σ H E I hf st hg
  subst hP hw hK
  obtain⟨xs,hq,hx⟩:=hg
  obtain⟨its,rv,p,hz⟩:=I.list hq
  obtain⟨f0,f1,f2,f3,f4,f5⟩:=hf it (by simp)
  have hl:=rv.length
  exact wpAny_pyNext_list_end (I.ok.hd hc) st p.isList (by simp;lia) fun h' eb=>⟨rfl,I.turned (t':=s.toks) (fun b o hb e=>eb b o hb e) f0 f1 f3 f4 f5⟩
 self:=fun _ _ _ _ _ st h=>wpAny_pyIter_listiter st h
theorem NN{P:Bu}{w:Cm}{K:Ab}{tg:Expr}(a it:Addr):kF P w K tg (uO K a) [it] it (fun i h=>h.IsTupleIter it a i) where
 mem:=by simp
 obj:=fun i h st b hb=>by
  have e:b=it:=by simpa using hb
  subst e
  obtain⟨o,e,c,d⟩:=st
  exact⟨o,e,fun v z=>by rw[d] at z;cases z⟩
 keep:=fun i h h' st k=>st.at fun o e=>k it (by simp) o e
 item:=by
  intro X hP hw hK hc i pins s σ H E I hf st hg
  subst hP hw hK
  obtain⟨xs,x,hq,hx⟩:=hg
  obtain⟨its,rv,p,hz⟩:=I.tuple hq
  obtain⟨u,hu,ru⟩:=rv.get hx
  obtain⟨f0,f1,f2,f3,f4,f5⟩:=hf it (by simp)
  refine wpAny_pyNext_tuple_item st (show s.heap.IsTuple a its.toArray from p) (x:=u) (by simpa using hu) fun h' st' sb=>?_
  have I1:Inv X pins σ H {s with heap:=h'}:=I.turned (t':=s.toks) (fun b o hb e=>(sb.2 b hb).trans e) f0 f1 f3 f4 f5
  obtain⟨o,e,c,d⟩:=id st'
  exact⟨u,rfl,qU (s:={s with heap:=h'}) e c d (by decide) ⟨x,H,I1,ru,⟨rfl,fun ys hy=>by rw[I.tuple_inj hy hq];exact hx⟩,st',fun b hb=>(hf b hb).1⟩⟩
 done:=by
  intro X hP hw hK hc i pins s σ H E I hf st hg
  subst hP hw hK
  obtain⟨xs,hq,hx⟩:=hg
  obtain⟨its,rv,p,hz⟩:=I.tuple hq
  obtain⟨f0,f1,f2,f3,f4,f5⟩:=hf it (by simp)
  have hl:=rv.length
  exact wpAny_pyNext_tuple_end (I.ok.hd hc) st (show s.heap.IsTuple a its.toArray from p) (by simp;lia) fun h' eb=>⟨rfl,I.turned (t':=s.toks) (fun b o hb e=>eb b o hb e) f0 f1 f3 f4 f5⟩
 self:=fun _ _ _ _ _ st h=>wpAny_pyIter_tupleiter st h
theorem NO{P:Bu}{w:Cm}{K:Ab}{tg:Expr}(it:Addr)(lo:Int)(n:Nat):kF P w K tg (qV lo n) [it] it (fun i h=>IsRangeIter h it (lo + (i:Nat) * 1) ((n:Int) - (i:Nat)) 1) where
 mem:=by simp
 obj:=fun i h st b hb=>by
  have e:b=it:=by simpa using hb
  subst e
  exact⟨_,st,fun v z=>by
   have z':Data.fields _=Data.cell v:=z
   cases z'⟩
 keep:=fun i h h' st k=>k it (by simp) _ st
 item:=by
  intro X hP hw hK hc i pins s σ H E I hf st hg
  subst hP hw hK
  obtain⟨f0,f1,f2,f3,f4,f5⟩:=hf it (by simp)
  have W:=Walks.range (prog:=X.prog) (w:=X.w) (I.ok.hd hc) it lo 1 n
  refine W.item i s _ _ hg st fun v h' tk hv st' kk=>?_
  obtain⟨t,rfl⟩:=hv
  have I1:Inv X pins σ H {s with heap:=h',toks:=tk}:=I.turned (fun b o hb e=>kk b o (by simpa using hb) e) f0 f1 f3 f4 f5
  refine⟨_,rfl,qU (s:={s with heap:=h',toks:=tk}) (n:="range_iterator") st' rfl rfl (by decide) ⟨.int (lo + i),H,I1,⟨t,?_⟩,⟨rfl,rfl⟩,st',fun b hb=>(hf b hb).1⟩⟩
  rw[Int.mul_one]
 done:=by
  intro X hP hw hK hc i pins s σ H E I hf st hg
  subst hP hw hK
  obtain⟨f0,f1,f2,f3,f4,f5⟩:=hf it (by simp)
  exact wpAny_pyNext_range_end (I.ok.hd hc) st (by have:n<=i:=hg;lia) fun h' eb=>⟨rfl,I.turned (t':=s.toks) (fun b o hb e=>eb b o hb e) f0 f1 f3 f4 f5⟩
 self:=fun _ _ _ _ _ st h=>wpAny_pyIter_rangeiter st h
section
variable {X:Cx}{tg:Expr}
theorem NP{pins:List (Addr×Obj)}{σ:St}{H:Hp}{s:Ag}{R:It->Hp->Prop}{E:Ae->Ag->Prop}{lo hi:Int}{t u v:Tok}{tk:Nat}(I:Inv X pins σ H s)(h1 : -(2 ^ 62)<=lo)(h2:lo < 2 ^ 62)(h3 : -(2 ^ 62)<=hi)(h4:hi < 2 ^ 62)
  (q:R (qV lo (hi - lo).toNat) H):Bh (Bq X.prog X.w) X.A (pyIter (.ref s.heap.objs.size)) (uN X pins σ tg R) E {s with heap:=s.heap.push {cls:=.type "range",data:=.fields #[.int lo t,.int hi u,.int 1 v]},toks:=tk}:=by
 refine wpAny_pyIter_range (IsRange.new ..) (small_one h1 h2 h3 h4) ?_
 have I1:Inv X pins σ H {s with heap:=s.heap.push {cls:=.type "range",data:=.fields #[.int lo t,.int hi u,.int 1 v]},toks:=tk}:=I.kept fun b o e=>Aj _ e
 refine⟨(s.heap.push {cls:=.type "range",data:=.fields #[.int lo t,.int hi u,.int 1 v]}).objs.size,[(s.heap.push {cls:=.type "range",data:=.fields #[.int lo t,.int hi u,.int 1 v]}).objs.size],_,_,H,rfl,
  I1.kept (t':=tk) fun b o e=>Aj _ e,NO _ lo (hi - lo).toNat,?_,fun b hb=>?_,q⟩
 ·have e1:lo + ((0:Nat):Int) * 1=lo:=by simp
  have e2:(((hi - lo).toNat:Nat):Int) - ((0:Nat):Int)=Builtin.Range.rangeSize lo hi 1:=by rw[rangeSize_one];split <;> lia
  show IsRangeIter _ _ (lo + ((0:Nat):Int) * 1) ((((hi - lo).toNat:Nat):Int) - ((0:Nat):Int)) 1
  rw[e1,e2]
  exact Bd _ rfl
 ·have e:b=(s.heap.push {cls:=.type "range",data:=.fields #[.int lo t,.int hi u,.int 1 v]}).objs.size:=by simpa using hb
  subst e
  exact I1.fpOk (Ai _) (I1.hok.fresh (Ai _))
def NQ(ta:TA):TI:=fun σ H R=>ta σ H fun vs H1=>∃ j:Int,vs=[.int j]/\-(2 ^ 62)<=j/\j < 2 ^ 62/\R (qV 0 j.toNat) H1
theorem NR{a:Expr}{ta:TA}{p pos:Pos}(hg:Gl X "range")(hm:X.mg "range" = none)(ha:PA X [a] ta)(hs:Bg [a] X.env=[(false,eval a X.env)]:=by rfl):PI X tg (.Call (.Name "range" p) [a] [] pos) (NQ ta):=by
 intro pins s σ H R I h
 refine Call_ (kE I hg hm boot_range (Cy (a8 (ha pos pins s σ H _ I h) fun us s1 ⟨vs,H1,I1,r1,q1⟩=>?_) hs rfl))
 obtain⟨j,e,q1,q2,q⟩:=q1
 subst e
 cases r1 with
 | cons r rr=>
  cases rr
  obtain⟨t,rfl⟩:=r
  exact call_range_1 (NP I1 (by lia) (by lia) q1 q2 (by simpa using q))
def NS(wi:TI)(g:TG)(tb:TS):TS:=fun D σ H=>wi σ H fun J H1=>∃ W:Nat->Nat->St->Hp->Prop,(∃ m,W 0 m σ H1)/\∀ i m σ H,W i m σ H->
 (J.stop i H/\D.nx σ H)\/(J.go i H/\∃ N:St->Hp->Prop,(∀ σ' H',N σ' H'->∃ m',m' < m/\W (i + 1) m' σ' H')/\∀ x H',J.yld i H x H'->g x σ H' fun σ2 H2=>tb {D with nx:=N,ct:=N,bk:=D.nx} σ2 H2)
def oR(fp:List Addr)(h:Heap):List (Addr×Obj):=fp.filterMap fun b=>(h.get? b).map fun o=>(b,o)
theorem qW{fp:List Addr}{h:Heap}{b:Addr}{o:Obj}(hb:b∈fp)(e:h.get? b=some o):(b,o)∈oR fp h:=Ie.mpr ⟨b,hb,by rw[e];rfl⟩
theorem NT{fp:List Addr}{h:Heap}{p:Addr×Obj}(hp:p∈oR fp h):p.1∈fp/\h.get? p.1=some p.2:=by
 obtain⟨b,hb,e⟩:=Ie.mp hp
 cases q:h.get? b with
 | none=>rw[q] at e;cases e
 | some o=>
  rw[q] at e
  have e':(b,o)=p:=Cj e
  subst e'
  exact⟨hb,q⟩
theorem Inv.pinned{pins:List (Addr×Obj)}{σ:St}{H:Hp}{s:Ag}{fp:List Addr}(I:Inv X pins σ H s)(hf:∀ b∈fp,gV X pins H b)(ho:∀ b∈fp,∃ o,s.heap.get? b=some o/\∀ v,o.data≠.cell v):Inv X (pins ++ oR fp s.heap) σ H s:=
 I.pins_of fun p hp=>(Be.mp hp).elim (fun z=>I.pin p (Bt _ z)) fun z=>by
  obtain⟨hb,e⟩:=NT z
  obtain⟨f0,f1,f2,_⟩:=hf p.1 hb
  obtain⟨o,e',d⟩:=ho p.1 hb
  rw[e] at e';cases e'
  exact⟨e,f0,f1,f2,d⟩
theorem Inv.unpinned{pins pl:List (Addr×Obj)}{σ:St}{H:Hp}{s:Ag}(I:Inv X (pins ++ pl) σ H s):Inv X pins σ H s:=I.pins_of fun p hp=>I.pin p (Bt _ (Bx _ hp))
theorem NU{iter:Expr}{body:List Stmt}{wi:TI}{g:TG}{tb:TS}{pos:Pos}(hp:PassesOwn (Bq X.prog X.w) X.A X.env X.xe)(hc:X.calm=true)(hi:PI X tg iter wi)(hg:PG X tg g)(hb:f7 X body tb)
  (hs:∀ x,Gk iter X.env x=pure x:=by intro _;rfl):PS X (.For tg iter body [] pos) (NS wi g tb):=by
 intro pins s σ H D I h
 refine wpAny_For (a8 (hi pins s σ H _ I h) fun v s1 h1=>a8 h1 fun itv s2 h2=>?_) hs
 obtain⟨it,fp,tn,J,H2,e,I2,T,st2,f2,W,⟨m0,w0⟩,turn⟩:=h2
 subst e
 have stat:∀ {H':Hp},(∀ b∈fp,H' b=none)->∀ b∈fp,gV X pins H' b:=fun hn b hb=>⟨hn b hb,(f2 b hb).2⟩
 refine codeAny_forLoop_any (fun n s'=>∃ i σ' H',Inv X pins σ' H' s'/\tn i s'.heap/\(∀ b∈fp,H' b=none)/\W i n σ' H') ?_ m0 ⟨0,σ,H2,I2,st2,fun b hb=>(f2 b hb).1,w0⟩
 rintro n s3 ⟨i,σ3,H3,I3,st3,fr3,w3⟩
 rcases turn i n σ3 H3 w3 with⟨stop,qn⟩ | ⟨go,N,hN,step⟩
 ·refine Hi hp (a8 (T.done X rfl rfl rfl hc i pins s3 σ3 H3 X.xe I3 (stat fr3) st3 stop) fun r s4 ⟨hr,I4⟩=>?_)
  subst hr
  exact Ls ⟨σ3,H3,I4,qn⟩
 ·refine Hi hp (a8 (T.item X rfl rfl rfl hc i pins s3 σ3 H3 X.xe I3 (stat fr3) st3 go) fun r s4 ⟨u,hr,h4⟩=>?_)
  subst hr
  refine Hi hp (a8 h4 fun _ s5 ⟨x,H5,I5,r5,y5,st5,fr5⟩=>?_)
  have I5':=I5.pinned (stat fr5) (T.obj _ _ st5)
  refine Hi hp (a8 (hg _ s5 σ3 H5 x u _ I5' r5 (step x H5 y5)) fun _ s6 ⟨σ6,H6,I6,q6⟩=>?_)
  refine Hi hp (a8 (hb _ s6 σ6 H6 _ I6 q6) fun f s7 q7=>?_)
  have again:∀ {σ7:St} {H7:Hp},Inv X (pins ++ oR fp s5.heap) σ7 H7 s7->N σ7 H7->∃ m,m < n/\∃ i σ' H',Inv X pins σ' H' s7/\tn i s7.heap/\(∀ b∈fp,H' b=none)/\W i m σ' H':=fun {σ7 H7} I7 n7=>by
   obtain⟨m',hm,w7⟩:=hN σ7 H7 n7
   refine⟨m',hm,i + 1,σ7,H7,I7.unpinned,T.keep _ _ _ st5 fun b hb o e=>(I7.pin (b,o) (Bt _ (Bt _ (qW hb e)))).1,fun b hb=>?_,w7⟩
   obtain⟨o,e,d⟩:=T.obj _ _ st5 b hb
   exact(I7.pin (b,o) (Bt _ (Bt _ (qW hb e)))).2.1
  cases f with
  | next=>obtain⟨σ7,H7,I7,n7⟩:=q7;exact again I7 n7
  | cont=>obtain⟨σ7,H7,I7,n7⟩:=q7;exact again I7 n7
  | brk=>obtain⟨σ7,H7,I7,q7⟩:=q7;exact⟨σ7,H7,I7.unpinned,q7⟩
  | ret v=>obtain⟨x7,σ7,H7,I7,r7,q7⟩:=q7;exact⟨x7,σ7,H7,I7.unpinned,r7,q7⟩
end
abbrev R2:=V->V->Hp->VK->Prop
def bD(X:Cx)(f:Ae->Ae->Sem Ae)(r:R2):Prop:=
 ∀ (pins:List (Addr×Obj)) (s:Ag) (σ:St) (H:Hp) (x y:V) (v u:Ae) (Q:VK),Inv X pins σ H s->RelV x v->RelV y u->r x y H Q->
  Bh (Bq X.prog X.w) X.A (f v u) (EP X pins σ Q) X.xe s
def oS(X:Cx)(f:Ae->Sem Ae)(r:V->Hp->VK->Prop):Prop:=
 ∀ (pins:List (Addr×Obj)) (s:Ag) (σ:St) (H:Hp) (x:V) (v:Ae) (Q:VK),Inv X pins σ H s->RelV x v->r x H Q->
  Bh (Bq X.prog X.w) X.A (f v) (EP X pins σ Q) X.xe s
def eD(X:Cx)(f:Ae)(r:List V->Hp->VK->Prop):Prop:=
 ∀ (pins:List (Addr×Obj)) (s:Ag) (σ:St) (H:Hp) (xs:List V) (us:List Ae) (Q:VK),Inv X pins σ H s->a5 xs us->r xs H Q->
  Bh (Bq X.prog X.w) X.A (call f us) (EP X pins σ Q) X.xe s
def NV(X:Cx)(r:V->Hp->(Bool->Hp->Prop)->Prop):Prop:=
 ∀ (pins:List (Addr×Obj)) (s:Ag) (σ:St) (H:Hp) (x:V) (v:Ae) (Q:Bool->Hp->Prop),Inv X pins σ H s->RelV x v->r x H Q->
  Bh (Bq X.prog X.w) X.A (truthy v) (TP X pins σ Q) X.xe s
def oT(r:R2)(ta tb:TE):TE:=fun σ H Q=>ta σ H fun x H1=>tb σ H1 fun y H2=>r x y H2 Q
def NW(r:V->Hp->VK->Prop)(ta:TE):TE:=fun σ H Q=>ta σ H fun x H1=>r x H1 Q
def rI(C:Int->Int->Prop)(g:Int->Int->V):R2:=fun x y H Q=>∃ i j,x=.int i/\y=.int j/\C i j/\Q (g i j) H
def k9(g:Int->Int->V):R2:=fun x y H Q=>∃ i j,x=.int i/\y=.int j/\Q (g i j) H
def rU(g:Int->V):V->Hp->VK->Prop:=fun x H Q=>∃ i,x=.int i/\Q (g i) H
section
variable {X:Cx}{a b c:Expr}{ta tb tc:TE}{pos:Pos}
theorem uP(ha:PE X a ta)(hb:PE X b tb){pins:List (Addr×Obj)}{s:Ag}{σ:St}{H:Hp}{R:V->V->Hp->Prop}(I:Inv X pins σ H s)
  (h:ta σ H fun x H1=>tb σ H1 fun y H2=>R x y H2) {Q:Ae->Ag->Prop} {f:Ae->Ae->Sem Ae}
  (hf:∀ v u s2 x y H2,Inv X pins σ H2 s2->RelV x v->RelV y u->R x y H2->Bh (Bq X.prog X.w) X.A (f v u) Q X.xe s2) :
  Bh (Bq X.prog X.w) X.A (eval a X.env) (fun v s₁=>Bh (Bq X.prog X.w) X.A (eval b X.env) (fun u s₂=>Bh (Bq X.prog X.w) X.A (f v u) Q X.xe s₂) X.xe s₁) X.xe s:=by
 refine a8 (ha pins s σ H _ I h) fun v s1 ⟨x,H1,I1,r1,q1⟩=>?_
 refine a8 (hb pins s1 σ H1 _ I1 q1) fun u s2 ⟨y,H2,I2,r2,q2⟩=>?_
 exact hf v u s2 x y H2 I2 r1 r2 q2
theorem NX{op:Operator}{r:R2}(ho:bD X (Fe op) r)(ha:PE X a ta)(hb:PE X b tb):PE X (.BinOp a op b pos) (oT r ta tb):=by
 intro pins s σ H Q I h
 exact wpAny_BinOp (uP ha hb I h fun v u s2 x y H2 I2 rx ry q=>ho pins s2 σ H2 x y v u Q I2 rx ry q)
theorem NY{op:UnaryOp}{r:V->Hp->VK->Prop}(ho:oS X (unaryOp op) r)(ha:PE X a ta):PE X (.UnaryOp op a pos) (NW r ta):=by
 intro pins s σ H Q I h
 exact UnaryOp_ (a8 (ha pins s σ H _ I h) fun v s1 ⟨x,H1,I1,r1,q1⟩=>ho pins s1 σ H1 x v Q I1 r1 q1)
theorem oU{f:Ae->Ae->Sem Ae}{C:Int->Int->Prop}{g:Int->Int->Int}
  (rule:∀ (i j:Int) (t u:Tok) (s:Ag) (Q:Ae->Ag->Prop) (E:Ae->Ag->Prop),C i j->Q (.int (g i j) s.toks) {s with toks:=s.toks + 1}->Bh (Bq X.prog X.w) X.A (f (.int i t) (.int j u)) Q E s) :
  bD X f (rI C fun i j=>.int (g i j)):=by
 intro pins s σ H x y v u Q I rx ry h
 obtain⟨i,j,rfl,rfl,hc,q⟩:=h
 obtain⟨t,rfl⟩:=rx
 obtain⟨t',rfl⟩:=ry
 exact rule i j t t' s _ _ hc ⟨.int (g i j),H,I.tok _,⟨_,rfl⟩,q⟩
theorem CT{f:Ae->Ae->Sem Ae}{g:Int->Int->Int}
  (rule:∀ (i j:Int) (t u:Tok) (s:Ag) (Q:Ae->Ag->Prop) (E:Ae->Ag->Prop),Q (.int (g i j) s.toks) {s with toks:=s.toks + 1}->Bh (Bq X.prog X.w) X.A (f (.int i t) (.int j u)) Q E s) :
  bD X f (k9 fun i j=>.int (g i j)):=by
 intro pins s σ H x y v u Q I rx ry h
 obtain⟨i,j,rfl,rfl,q⟩:=h
 obtain⟨t,rfl⟩:=rx
 obtain⟨t',rfl⟩:=ry
 exact rule i j t t' s _ _ ⟨.int (g i j),H,I.tok _,⟨_,rfl⟩,q⟩
theorem uQ{f:Ae->Ae->Sem Ae}{g:Int->Int->Bool}
  (rule:∀ (i j:Int) (t u:Tok) (s:Ag) (Q:Ae->Ag->Prop) (E:Ae->Ag->Prop),Q (.bool (g i j)) s->Bh (Bq X.prog X.w) X.A (f (.int i t) (.int j u)) Q E s) :
  bD X f (k9 fun i j=>.bl (g i j)):=by
 intro pins s σ H x y v u Q I rx ry h
 obtain⟨i,j,rfl,rfl,q⟩:=h
 obtain⟨t,rfl⟩:=rx
 obtain⟨t',rfl⟩:=ry
 exact rule i j t t' s _ _ ⟨.bl (g i j),H,I,rfl,q⟩
def CU(i j:Int):Prop:=0<=j/\j<=1000000/\i.natAbs < 2 ^ 64
def nD(i j:Int):Prop:=(-(2 ^ 64) < i/\i < 2 ^ 64)\/(-(2 ^ 64) < j/\j < 2 ^ 64)
theorem nD.ok{i j:Int}(h:nD i j):IntMulOk i j:=by
 rcases h with⟨h1,h2⟩ | ⟨h1,h2⟩
 ·exact .of_left (intBits_le_64 h1 h2)
 ·exact .of_right (intBits_le_64 h1 h2)
theorem NZ:bD X (Fe .Add) (k9 fun i j=>.int (i + j)):=CT fun _ _ _ _ _ _ _ q=>add_int q
theorem N0:bD X (Fe .Sub) (k9 fun i j=>.int (i - j)):=CT fun _ _ _ _ _ _ _ q=>sub_int q
theorem N2:bD X (Fe .Mult) (rI nD fun i j=>.int (i * j)):=oU fun _ _ _ _ _ _ _ hc q=>mul_int q hc.ok
theorem N3:bD X (Fe .Mod) (rI (fun _ j=>0 < j) fun i j=>.int (i % j)):=oU fun i j _ _ _ _ _ hc q=>by
 have h1:(0:Int) < j:=hc
 exact mod_int' (by lia) (by rw[Int.fmod_eq_emod_of_nonneg i (by lia)];exact q)
theorem N4:bD X (Fe .Pow) (rI CU fun i j=>.int (i ^ j.toNat)):=oU fun _ _ _ _ _ _ _ hc q=>pow_int_small hc.1 hc.2.1 hc.2.2 q
theorem N5{f:Ae->Sem Ae}{g:Int->Int}
  (rule:∀ (i:Int) (t:Tok) (s:Ag) (Q:Ae->Ag->Prop) (E:Ae->Ag->Prop),Q (.int (g i) s.toks) {s with toks:=s.toks + 1}->Bh (Bq X.prog X.w) X.A (f (.int i t)) Q E s) :
  oS X f (rU fun i=>.int (g i)):=by
 intro pins s σ H x v Q I rx h
 obtain⟨i,rfl,q⟩:=h
 obtain⟨t,rfl⟩:=rx
 exact rule i t s _ _ ⟨.int (g i),H,I.tok _,⟨_,rfl⟩,q⟩
theorem N6:oS X (unaryOp .USub) (rU fun i=>.int (-i)):=N5 fun _ _ _ _ _ q=>neg_int q
end
def qX:V->V->Bool
 | .non,.non=>true | .non,.int _=>true | .int _,.non=>true | .non,.bl _=>true | .bl _,.non=>true | .non,.str _=>true | .str _,.non=>true
 | .int _,.int _=>true | .bl _,.bl _=>true | .str _,.str _=>true | .byt _,.byt _=>true
 | .int _,.str _=>true | .str _,.int _=>true | .bl _,.str _=>true | .str _,.bl _=>true
 | _,_=>false
def rEq:R2:=fun x y H Q=>qX x y=true/\Q (.bl (decide (x=y))) H
def N7:R2:=fun x y H Q=>qX x y=true/\Q (.bl (!decide (x=y))) H
theorem CV{i j:Int}:decide (V.int i=V.int j)=(i == j):=by
 rw[Dr]
 simp
theorem CW{i j:Bool}:decide (V.bl i=V.bl j)=(i == j):=by
 rw[Dr]
 simp
theorem CY{i j:Str}:decide (V.str i=V.str j)=(i == j):=by
 rw[Dr]
 simp
theorem CZ{i j:Array UInt8}:decide (V.byt i=V.byt j)=(i.toList == j.toList):=by
 rw[Dr]
 cases i
 cases j
 simp
section
variable {X:Cx}{a b c:Expr}{ta tb tc:TE}{pos:Pos}
theorem cV{pins:List (Addr×Obj)}{σ:St}{H:Hp}{s:Ag}{Q:VK}{k k':Bool}(I:Inv X pins σ H s)(q:Q (.bl k) H)(e:k=k'):EP X pins σ Q (.bool k') s:=by
 subst e
 exact⟨.bl k,H,I,rfl,q⟩
theorem N8:bD X (Ci .Eq) rEq:=by
 intro pins s σ H x y v u Q I rx ry h
 obtain⟨hs,q⟩:=h
 cases x with
 | non=>
  cases rx
  cases y with
  | non=>cases ry;exact PySem.EqNone.eq_none_none (cV I q (by simp))
  | bl j=>cases ry;exact PySem.EqNone.eq_none_bool (cV I q (by simp))
  | int j=>obtain⟨t',rfl⟩:=ry;exact PySem.EqNone.eq_none_int (cV I q (by simp))
  | str j=>obtain⟨t',rfl⟩:=ry;exact PySem.EqNone.eq_none_str (cV I q (by simp))
  | _=>exact absurd (show false=true from hs) Ap
 | bl i=>
  cases rx
  cases y with
  | non=>cases ry;exact PySem.EqNone.eq_bool_none (cV I q (by simp))
  | bl j=>cases ry;exact eq_bool (cV I q CW)
  | str j=>obtain⟨t',rfl⟩:=ry;exact PySem.EqMixed.eq_bool_str (cV I q (by simp))
  | _=>exact absurd (show false=true from hs) Ap
 | int i=>
  obtain⟨t,rfl⟩:=rx
  cases y with
  | non=>cases ry;exact PySem.EqNone.eq_int_none (cV I q (by simp))
  | int j=>obtain⟨t',rfl⟩:=ry;exact eq_int (cV I q CV)
  | str j=>obtain⟨t',rfl⟩:=ry;exact PySem.EqMixed.eq_int_str (cV I q (by simp))
  | _=>exact absurd (show false=true from hs) Ap
 | str i=>
  obtain⟨t,rfl⟩:=rx
  cases y with
  | non=>cases ry;exact PySem.EqNone.eq_str_none (cV I q (by simp))
  | bl j=>cases ry;exact PySem.EqMixed.eq_str_bool (cV I q (by simp))
  | int j=>obtain⟨t',rfl⟩:=ry;exact PySem.EqMixed.eq_str_int (cV I q (by simp))
  | str j=>obtain⟨t',rfl⟩:=ry;exact eq_str (cV I q CY)
  | _=>exact absurd (show false=true from hs) Ap
 | byt i=>
  obtain⟨t,rfl⟩:=rx
  cases y with
  | byt j=>obtain⟨t',rfl⟩:=ry;exact PySem.W.eq_bytes (cV I q CZ)
  | _=>exact absurd (show false=true from hs) Ap
 | _=>cases y <;> exact absurd (show false=true from hs) Ap
theorem N9:bD X (Ci .NotEq) N7:=by
 intro pins s σ H x y v u Q I rx ry h
 obtain⟨hs,q⟩:=h
 cases x with
 | non=>
  cases rx
  cases y with
  | non=>cases ry;exact PySem.EqNone.ne_none_none (cV I q (by simp))
  | bl j=>cases ry;exact PySem.EqNone.ne_none_bool (cV I q (by simp))
  | int j=>obtain⟨t',rfl⟩:=ry;exact PySem.EqNone.ne_none_int (cV I q (by simp))
  | str j=>obtain⟨t',rfl⟩:=ry;exact PySem.EqNone.ne_none_str (cV I q (by simp))
  | _=>exact absurd (show false=true from hs) Ap
 | bl i=>
  cases rx
  cases y with
  | non=>cases ry;exact PySem.EqNone.ne_bool_none (cV I q (by simp))
  | bl j=>cases ry;exact ne_bool (cV I q (congrArg not CW))
  | str j=>obtain⟨t',rfl⟩:=ry;exact PySem.EqMixed.ne_bool_str (cV I q (by simp))
  | _=>exact absurd (show false=true from hs) Ap
 | int i=>
  obtain⟨t,rfl⟩:=rx
  cases y with
  | non=>cases ry;exact PySem.EqNone.ne_int_none (cV I q (by simp))
  | int j=>obtain⟨t',rfl⟩:=ry;exact ne_int (cV I q (congrArg not CV))
  | str j=>obtain⟨t',rfl⟩:=ry;exact PySem.EqMixed.ne_int_str (cV I q (by simp))
  | _=>exact absurd (show false=true from hs) Ap
 | str i=>
  obtain⟨t,rfl⟩:=rx
  cases y with
  | non=>cases ry;exact PySem.EqNone.ne_str_none (cV I q (by simp))
  | bl j=>cases ry;exact PySem.EqMixed.ne_str_bool (cV I q (by simp))
  | int j=>obtain⟨t',rfl⟩:=ry;exact PySem.EqMixed.ne_str_int (cV I q (by simp))
  | str j=>obtain⟨t',rfl⟩:=ry;exact ne_str (cV I q (congrArg not CY))
  | _=>exact absurd (show false=true from hs) Ap
 | byt i=>
  obtain⟨t,rfl⟩:=rx
  cases y with
  | byt j=>obtain⟨t',rfl⟩:=ry;exact PySem.W.ne_bytes (cV I q (congrArg not CZ))
  | _=>exact absurd (show false=true from hs) Ap
 | _=>cases y <;> exact absurd (show false=true from hs) Ap
theorem OA:bD X (Ci .Lt) (k9 fun i j=>.bl (decide (i < j))):=uQ fun _ _ _ _ _ _ _ q=>lt_int q
theorem OB:bD X (Ci .Gt) (k9 fun i j=>.bl (decide (j < i))):=uQ fun _ _ _ _ _ _ _ q=>gt_int q
theorem OC:bD X (Ci .GtE) (k9 fun i j=>.bl (decide (j<=i))):=uQ fun _ _ _ _ _ _ _ q=>ge_int q
theorem OD:bD X (Ci .In) (fun x y H Q=>∃ i j,x=.str i/\y=.str j/\Q (.bl (!(Jt j i 0 j.length 1).isEmpty)) H):=by
 intro pins s σ H x y v u Q I rx ry h
 obtain⟨i,j,rfl,rfl,q⟩:=h
 obtain⟨t,rfl⟩:=rx
 obtain⟨t',rfl⟩:=ry
 exact in_str (cV I q rfl)
theorem OE:bD X (Ci .Is) (fun x y H Q=>y=.non/\Q (.bl (decide (x=.non))) H):=by
 intro pins s σ H x y v u Q I rx ry h
 obtain⟨rfl,q⟩:=h
 cases ry
 refine is_none_gen (cV I q ?_)
 cases x <;> first
  | (cases rx;rfl)
  | (obtain⟨t,rfl⟩:=rx;rfl)
theorem OF:bD X (Ci .IsNot) (fun x y H Q=>y=.non/\Q (.bl (!decide (x=.non))) H):=by
 intro pins s σ H x y v u Q I rx ry h
 obtain⟨rfl,q⟩:=h
 cases ry
 refine isnot_none_gen (cV I q ?_)
 cases x <;> first
  | (cases rx;rfl)
  | (obtain⟨t,rfl⟩:=rx;rfl)
theorem OG:bD X (Ci .NotIn) (fun x y H Q=>∃ i j,x=.str i/\y=.str j/\Q (.bl (!(!(Jt j i 0 j.length 1).isEmpty))) H):=by
 intro pins s σ H x y v u Q I rx ry h
 obtain⟨i,j,rfl,rfl,q⟩:=h
 obtain⟨t,rfl⟩:=rx
 obtain⟨t',rfl⟩:=ry
 exact notIn_str (cV I q rfl)
theorem bD.or{f:Ae->Ae->Sem Ae}{r r':R2}(h:bD X f r)(h':bD X f r'):bD X f (fun x y H Q=>r x y H Q\/r' x y H Q):=by
 intro pins s σ H x y v u Q I rx ry q
 rcases q with q | q
 ·exact h pins s σ H x y v u Q I rx ry q
 ·exact h' pins s σ H x y v u Q I rx ry q
theorem C0(b:Expr){op:CmpOp}(h:op≠.In:=by decide)(h2:op≠.NotIn:=by decide):Hj op b=false:=by
 have e1:(op == CmpOp.In)=false:=by cases op <;> first | rfl | exact absurd rfl h
 have e2:(op == CmpOp.NotIn)=false:=by cases op <;> first | rfl | exact absurd rfl h2
 cases b <;> simp[Hj,e1,e2]
theorem OH{op:CmpOp}{r:R2}(ho:bD X (Ci op) r)(ha:PE X a ta)(hb:PE X b tb)(hm:Hj op b=false):PE X (.Compare a [op] [b] pos) (oT r ta tb):=by
 intro pins s σ H Q I h
 exact wpAny_Compare1 (uP ha hb I h fun v u s2 x y H2 I2 rx ry q=>ho pins s2 σ H2 x y v u Q I2 rx ry q) hm
def OI(t:TE):TT:=fun σ H Q=>t σ H fun x H'=>∃ k,x=.bl k/\Q k H'
theorem OJ{op:CmpOp}{r:R2}(ho:bD X (Ci op) r)(ha:PE X a ta)(hb:PE X b tb)(hm:Hj op b=false):PT X (.Compare a [op] [b] pos) (OI (oT r ta tb)):=by
 intro pins s σ H Q I h
 refine wpAny_isTrue_Compare1 (a8 (ha pins s σ H _ I h) fun v s1 ⟨x,H1,I1,r1,q1⟩=>a8 (hb pins s1 σ H1 _ I1 q1) fun u s2 ⟨y,H2,I2,r2,q2⟩=>
  a8 (ho pins s2 σ H2 x y v u _ I2 r1 r2 q2) fun c s3 ⟨z,H3,I3,r3,k,e,q3⟩=>?_) hm
 subst e
 cases r3
 exact wpAny_truthy_bool ⟨H3,I3,q3⟩
def C1(K:Ab)(x:V)(H:Hp)(k:Bool):Prop:=
 match x with
 | .non=>k=false
 | .bl b=>k=b
 | .int i=>k=(i != 0)
 | .str y=>y.length<=Ak/\k=((y.length:Int) != 0)
 | .byt y=>y.size<=Ak/\k=((y.size:Int) != 0)
 | .ref p=>(∃ xs,bQ K H p xs/\k = !xs.isEmpty)\/(∃ xs,cD K H p xs/\k = !xs.isEmpty)\/∃ kvs,H p=some (.dK kvs)/\k = !kvs.isEmpty
 | _=>False
theorem OK{κ:Type}{kvs:List (κ×V)}{vs:List (κ×Ae)}(r:KV kvs vs):(!vs.isEmpty) = !kvs.isEmpty:=by
 cases r <;> rfl
theorem C2{xs:List V}{its:List Ae}(r:a5 xs its):(!its.toArray.isEmpty) = !xs.isEmpty:=by
 cases r <;> simp
theorem mB:(Ak:Nat) < 2 ^ 63:=by rw[Kv];decide
theorem OL:NV X (fun x H Q=>∃ k,C1 X.K x H k/\Q k H):=by
 intro pins s σ H x v Q I rx h
 obtain⟨k,e,q⟩:=h
 have hl:=mB
 have hs:Ak=16777216:=Kv
 cases x with
 | non=>
  cases rx
  have e':k=false:=e
  subst e'
  exact truthy_none ⟨H,I,q⟩
 | bl b=>
  cases rx
  have e':k=b:=e
  subst e'
  exact wpAny_truthy_bool ⟨H,I,q⟩
 | int i=>
  obtain⟨t,rfl⟩:=rx
  have e':k=(i != 0):=e
  subst e'
  exact PySem.P.truthy_int ⟨H,I,q⟩
 | str y=>
  obtain⟨t,rfl⟩:=rx
  obtain⟨hy,e'⟩:y.length<=Ak/\k=((y.length:Int) != 0):=e
  subst e'
  exact PySem.P.truthy_str (by lia) ⟨H,I.tok _,q⟩
 | byt y=>
  obtain⟨t,rfl⟩:=rx
  obtain⟨hy,e'⟩:y.size<=Ak/\k=((y.size:Int) != 0):=e
  subst e'
  exact PySem.W.truthy_bytes (by lia) ⟨H,I.tok _,q⟩
 | ref p=>
  cases rx
  have e':(∃ xs,bQ X.K H p xs/\k = !xs.isEmpty)\/(∃ xs,cD X.K H p xs/\k = !xs.isEmpty)\/∃ kvs,H p=some (.dK kvs)/\k = !kvs.isEmpty:=e
  rcases e' with⟨xs,hx,e'⟩ | ⟨xs,hx,e'⟩ | ⟨kvs,hx,e'⟩
  ·subst e'
   obtain⟨its,r,pl,hz⟩:=I.list hx
   have hlen:=r.length
   exact wpAny_truthy_list pl.isList (by simp only[Aw];lia) ⟨H,I.tok _,by rw[C2 r];exact q⟩
  ·subst e'
   obtain⟨its,r,pl,hz⟩:=I.tuple hx
   have hlen:=r.length
   exact truthy_tuple pl (by simp only[Aw];lia) ⟨H,I.tok _,by rw[C2 r];exact q⟩
  ·subst e'
   obtain⟨hz,hS,vs,r,m⟩:kvs.length<=Ak/\(p == Ft)=false/\∃ vs,KV kvs vs/\s.heap.DictOf (dD X.prog X.w) p vs:=I.hok p _ hx
   have hlen:kvs.length=vs.length:=Dw r
   exact wpAny_truthy_dict hS m (by lia) ⟨H,I.tok _,by rw[OK r];exact q⟩
 | _=>exact(show False from e).elim
theorem OM(ha:PE X a ta)(he:∀ whole,isTrue a X.env whole=(do let v <-whole;Mc a.pos;Il [v] (truthy v))) :
  PT X a (fun σ H Q=>ta σ H fun x H'=>∃ k,C1 X.K x H' k/\Q k H'):=by
 intro pins s σ H Q I h
 exact isTrue_plain (a8 (ha pins s σ H _ I h) fun v s1 ⟨x,H1,I1,r1,q1⟩=>OL pins s1 σ H1 x v Q I1 r1 q1) (he _)
theorem vals1{x:V}{us:List Ae}(r:a5 [x] us):∃ u,us=[u]/\RelV x u:=by
 cases r with
 | cons r1 r2=>cases r2;exact⟨_,rfl,r1⟩
theorem vals2{x y:V}{us:List Ae}(r:a5 [x,y] us):∃ u w',us=[u,w']/\RelV x u/\RelV y w':=by
 cases r with
 | cons r1 r2=>
  cases r2 with
  | cons r3 r4=>cases r4;exact⟨_,_,rfl,r1,r3⟩
end
structure mC(h:Heap)(x dx C:Addr)(mA:Str->Option Ae):Prop where
 obj:h.get? x=some (Gd C dx)
 ns:h.Ns1 dx mA
 ne:dx≠x
theorem ON{h:Heap}{dx:Addr}{mA:Str->Option Ae}(n:h.Ns1 dx mA):∃ od,h.get? dx=some od/\∀ name,La name od=some (mA name):=by
 obtain⟨o,es,ep,ho,hd,hk,_,hm⟩:=n
 refine⟨o,ho,fun name=>?_⟩
 have e:=hm name
 unfold nsFind findBy at e
 rw[<-Array.find?_toList] at e
 unfold La
 rw[hd]
 dsimp only
 split
 ·rename_i y q
  rw[q] at e
  exact congrArg some e
 ·rename_i q
  rw[q] at e
  have a:es.toList.any (·.refKey)=false:=by
   rw[List.any_eq_false]
   intro y hy
   obtain⟨z,t,hkey⟩:=hk y (Array.mem_toList_iff.mp hy)
   simp[DictEntry.refKey,hkey]
  have a':¬ es.toList.any (·.refKey)=true:=by rw[a];exact Ap
  rw[if_neg a']
  exact congrArg some e
theorem mC.look{h:Heap}{x dx C:Addr}{mA:Str->Option Ae}(I:mC h x dx C mA):∃ od,PySem.W.InstAt h x (Gd C dx) C (some od)/\∀ name,La name od=some (mA name):=
 let ⟨od,ho,hl⟩:=ON I.ns
 ⟨od,⟨I.obj,rfl,rfl,ho⟩,hl⟩
section
variable {prog:Bu}{w:Cm}{A:Co}{E:Ae->Ag->Prop}{s:Ag}{K:Ab}{x dx C f:Addr}{mA:Str->Option Ae}{name:Str}{v:Ae}
theorem OO{expr:Bool}{Q:Ae->Ag->Prop}(X:K.In s.heap)(I:mC s.heap x dx C mA)(hg:Kh K C name=true)(hh:PySem.W.hasDictIn K C=true)
  (ha:Cf K (.ref C) name=some none) (hv:mA name=some v) (hv':PySem.W.handedIn v=true) (h:Q v {s with toks:=s.toks + 1}) :
  Bh (Bq prog w) A (getAttr (.ref x) name expr) Q E s:=by
 obtain⟨od,J,hl⟩:=I.look
 exact PySem.W.get_value X J (Lg hg).1 (PySem.W.findObj_own hh ha rfl (by rw[hl,hv])) hv' h
theorem OP{pl:Sem Bool}{Q:Ae×List Ae->Ag->Prop}(X:K.In s.heap)(I:mC s.heap x dx C mA)(hg:Kh K C name=true)
  (hf:Cf K (.ref C) name=some (some (.ref f))) (ht:Kn K (.ref f)=true) (hv:mA name=none) (h:Q (.ref f,[.ref x]) s) :
  Bh (Bq prog w) A (Md (.ref x) name pl) Q E s:=by
 obtain⟨od,J,hl⟩:=I.look
 exact PySem.W.method_fn X J (Lg hg).1 (Lg hg).2 hf (beq_iff_eq.mp ht) (by show(La name od).map (·.isSome)=some false;rw[hl,hv];rfl) h
theorem OQ{ns:List Str}{Q:Unit->Ag->Prop}(X:K.In s.heap)(I:mC s.heap x dx C mA)
  (hs:Cf K (.ref C) "__setattr__" = some (some (.builtin "object.__setattr__"))) (hp:PySem.W.plainOver K C=true) (ht:PySem.W.takerIn K C name=some none) (hh:PySem.W.hasDictIn K C=true)
  (hw:PySem.Within mA ns) (hsz:ns.length<=Ak)
  (h:∀ h',mC h' x dx C (fun y=>if y=name then some v else mA y)->Ei dx s.heap h'->Q () {s with heap:=h',toks:=s.toks + 2}) :
  Bh (Bq prog w) A (setAttr (.ref x) name v) Q E s:=by
 obtain⟨od,J,hl⟩:=I.look
 refine PySem.W.set_plain X J hs (PySem.W.osa_open (s:={s with toks:=s.toks + 1}) (r:=none) X J hp ht fun b=>?_)
 obtain⟨cd,hc,hd'⟩:=PySem.W.any_some hh
 have hx:s.heap.get? x=some ⟨.ref C,some dx,.plain,#[]⟩:=I.obj
 refine Ac (Am (Ac (Ac (wpAny_loadPart hx (Ac (PySem.W.Looks.here (s:={s with toks:=s.toks + 1}) (PySem.W.looks_clsIn X hc) ?_))))))
 rw[hd']
 refine Am (a:=some dx) (Ac (Am (Ac ?_)))
 refine wpAny_nsSet1 (s:={s with toks:=s.toks + 1}) I.ns fun h' hn2 hs2=>?_
 obtain⟨oD,esD,epD,hoD,hdD,hcD⟩:=hn2.count (PySem.Within.cons name v hw)
 refine Ac (wpAny_lookBehind hoD (by rw[hdD];exact pastItsLine_dict (Ao hcD (by rw[Ar];lia))) ?_)
 exact Am (h _ ⟨(hs2.2 _ (Cg I.ne)).trans I.obj,hn2,I.ne⟩ hs2)
theorem OR{R:Result->Ag->Prop}{vs:List Ae}{kw:List (Str×Ae)}(X:K.In s.heap)(hm:PySem.W.makesIn K C=true)
  (hi:Cf K (.ref C) "__init__" = some (some (.ref f))) (hf:PySem.W.typeIn K (.ref f)=some (.type "function"))
  (h:Jb (Bq prog w) (A.under (.builtin "type.__call__" ⟨.ref C :: vs,kw⟩)) (.call (.ref f) ⟨.ref (s.heap.objs.size + 1) :: vs,kw⟩) (PySem.W.InitBack (s.heap.objs.size + 1) R)
   {s with heap:=(s.heap.push Er).push (Gd C s.heap.objs.size)}) :
  Jb (Bq prog w) A (.call (.ref C) ⟨vs,kw⟩) R s:=by
 obtain⟨hh,g,d,t,os⟩:=s
 exact PySem.W.make_core (PySem.W.makes_of X hm) (PySem.W.looks_findIn X hi) (fun self=>PySem.W.bind_fn X self hf) (.inl rfl) h
end
def putF(f:Str)(v:V):List (Str×V)->List (Str×V)
 | []=>[(f,v)]
 | (g,x) :: r=>if g=f then(g,v) :: r else(g,x) :: putF f v r
theorem C3(f g:Str)(v:V):∀ fs:List (Str×V),(putF f v fs).lookup g=if g=f then some v else fs.lookup g
 | []=>by
  show Bz g [(f,v)]=_
  by_cases h:g=f
  ·have hb:(g == f)=true:=beq_iff_eq.mpr h
   simp only[Bz,hb,if_pos h]
  ·have hb:(g == f)=false:=beq_eq_false_iff_ne.mpr h
   simp only[Bz,hb,if_neg h]
 | (k,x) :: r=>by
  have ih:=C3 f g v r
  rw[show putF f v ((k,x) :: r)=(if k=f then(k,v) :: r else(k,x) :: putF f v r) from rfl]
  by_cases hk:k=f
  ·rw[if_pos hk]
   by_cases h:g=k
   ·have hb:(g == k)=true:=beq_iff_eq.mpr h
    simp only[Bz,hb,if_pos (h.trans hk)]
   ·have hb:(g == k)=false:=beq_eq_false_iff_ne.mpr h
    simp only[Bz,hb,if_neg (fun e:g=f=>h (e.trans hk.symm))]
  ·rw[if_neg hk]
   by_cases h:g=k
   ·have hb:(g == k)=true:=beq_iff_eq.mpr h
    simp only[Bz,hb,if_neg (fun e:g=f=>hk (h.symm.trans e))]
   ·have hb:(g == k)=false:=beq_eq_false_iff_ne.mpr h
    simp only[Bz,hb]
    exact ih
theorem uR(f:Str)(v:V):∀ fs:List (Str×V),f∈(putF f v fs).map (·.1)/\∀ g,g∈fs.map (·.1)->g∈(putF f v fs).map (·.1)
 | []=>⟨by simp[putF],fun g h=>by simp at h⟩
 | (k,x) :: r=>by
  obtain⟨i1,i2⟩:=uR f v r
  rw[show putF f v ((k,x) :: r)=(if k=f then(k,v) :: r else(k,x) :: putF f v r) from rfl]
  by_cases hk:k=f
  ·rw[if_pos hk]
   subst hk
   exact⟨by simp,fun g h=>by simpa using h⟩
  ·rw[if_neg hk]
   refine⟨?_,fun g h=>?_⟩
   ·rw[Bc]
    exact Av _ i1
   ·rw[Bc] at h ⊢
    rcases Ay.mp h with e | e
    ·exact Ay.mpr (.inl e)
    ·exact Av _ (i2 g e)
theorem C4(f:Str)(v:V):∀ fs:List (Str×V),(putF f v fs).length<=fs.length + 1
 | []=>by simp[putF]
 | (k,x) :: r=>by
  have ih:=C4 f v r
  rw[show putF f v ((k,x) :: r)=(if k=f then(k,v) :: r else(k,x) :: putF f v r) from rfl]
  by_cases hk:k=f
  ·rw[if_pos hk,Ar,Ar];lia
  ·rw[if_neg hk,Ar,Ar];lia
theorem fU.some_of{v:V}{o:Option Ae}(r:fU (some v) o):∃ u,o=some u/\RelV v u:=by
 cases o with
 | none=>exact(show False from r).elim
 | some u=>exact⟨u,rfl,r⟩
theorem fU.none_of{o:Option Ae}(r:fU none o):o=none:=by
 cases o with
 | none=>rfl
 | some u=>exact(show False from r).elim
theorem OS{v:V}{u:Ae}(r:RelV v u):PySem.W.handedIn u=true:=by
 cases v with
 | non=>cases (show u=Value.none from r);rfl
 | bl b=>cases (show u=Value.bool b from r);rfl
 | int i=>obtain⟨t,e⟩:=(show ∃ t,u=Value.int i t from r);cases e;rfl
 | str x=>obtain⟨t,e⟩:=(show ∃ t,u=Value.str x t from r);cases e;rfl
 | byt b=>obtain⟨t,e⟩:=(show ∃ t,u=Value.bytes b t from r);cases e;rfl
 | flt b=>obtain⟨t,e⟩:=(show ∃ t,u=Value.float b t from r);cases e;rfl
 | ref a=>cases (show u=Value.ref a from r);rfl
 | ty n=>cases (show u=Value.type n from r);rfl
section
variable {P:Bu}{w:Cm}{H H':Hp}{h h':Heap}{a C dx:Addr}{fs fs':List (Str×V)}
theorem uS(hok:cU P w H h)(e:H a=some (.ins C dx fs)):∃ mA,mC h a dx C mA/\(∀ f,fU (fs.lookup f) (mA f))/\PySem.Within mA (fs.map (·.1))/\fs.length<=1000/\H dx=some (.own a):=by
 obtain⟨d,z,ne,ob,mA,n,r,q⟩:=(show c9 P w H h a (.ins C dx fs) from hok a _ e)
 exact⟨mA,⟨ob,n,ne⟩,r,q,z,d⟩
end
structure gW(K:Ab)(C:Addr):Prop where
 pg:Kh K C Str.empty=true
 hd:PySem.W.hasDictIn K C=true
 po:PySem.W.plainOver K C=true
 sa:Cf K (.ref C) "__setattr__" = some (some (.builtin "object.__setattr__"))
theorem gW.get{K:Ab}{C:Addr}(c:gW K C)(f:Str):Kh K C f=true:=c.pg
def f9(K:Ab)(C:Addr)(f:Str):Prop:=Cf K (.ref C) f=some none
theorem f9.taker{K:Ab}{C:Addr}{f:Str}(n:f9 K C f):PySem.W.takerIn K C f=some none:=by
 unfold PySem.W.takerIn
 rw[show Cf K (.ref C) f=some none from n]
 rfl
structure nE(K:Ab)(C:Addr)(m:Str)(f:Addr):Prop where
 at_:Cf K (.ref C) m=some (some (.ref f))
 fn:Kn K (.ref f)=true
 kp:Eb K (.ref f)=true
section
variable {X:Cx}{pins:List (Addr×Obj)}{σ:St}{H:Hp}{s:Ag}{a C dx:Addr}{fs:List (Str×V)}{f:Str}{v:V}{A:Co}{E:Ae->Ag->Prop}
theorem OT{b:Bool}{Q:Ae->Ag->Prop}(I:Inv X pins σ H s)(e:H a=some (.ins C dx fs))(c:gW X.K C)(n:f9 X.K C f)(l:fs.lookup f=some v)
  (h:∀ u s',Inv X pins σ H s'->RelV v u->Q u s'):Bh (Bq X.prog X.w) A (getAttr (.ref a) f b) Q E s:=by
 obtain⟨mA,O,r,_,_,_⟩:=uS I.hok e
 obtain⟨u,hu,ru⟩:=fU.some_of (v:=v) (o:=mA f) (by rw[<-l];exact r f)
 exact OO I.kIn O (c.get f) c.hd n hu (OS ru) (h u _ (I.tok _) ru)
theorem C5{m:Str}{g:Addr}{pl:Sem Bool}{Q:Ae×List Ae->Ag->Prop}(I:Inv X pins σ H s)(e:H a=some (.ins C dx fs))(c:gW X.K C)(k:nE X.K C m g)(l:fs.lookup m=none)
  (h:Q (.ref g,[.ref a]) s):Bh (Bq X.prog X.w) A (Md (.ref a) m pl) Q E s:=by
 obtain⟨mA,O,r,_,_,_⟩:=uS I.hok e
 have hn:mA m=none:=fU.none_of (by rw[<-l];exact r m)
 exact OP I.kIn O (c.get m) k.at_ k.fn hn h
theorem OU{y:V}{u:Ae}{Q:Unit->Ag->Prop}(I:Inv X pins σ H s)(e:H a=some (.ins C dx fs))(c:gW X.K C)(n:f9 X.K C f)(hl:fs.length < 1000)(ry:RelV y u)
  (h:∀ s',Inv X pins σ (aR H a (.ins C dx (putF f y fs))) s'->Q () s'):Bh (Bq X.prog X.w) A (setAttr (.ref a) f u) Q E s:=by
 obtain⟨mA,O,r,wi,_,ho⟩:=uS I.hok e
 have hz:(fs.map (·.1)).length<=Ak:=by rw[Aa,Kv];lia
 refine OQ I.kIn O c.sa c.po n.taker c.hd wi hz fun h' O' sb=>h _ ?_
 have hd:∃ o,h'.get? dx=some o:=let ⟨o,_,_,e',_⟩:=O'.ns;⟨o,e'⟩
 refine I.write (x:=a) (e:=dx) (by rw[e];exact True.intro) (.inr ho) (fun b q hb z=>(sb.2 b hb).trans z) hd ?_
 refine⟨by rw[bG O.ne];exact ho,?_,O.ne,O'.obj,_,O'.ns,fun g=>?_,fun g hg=>?_⟩
 ·have:=C4 f y fs;lia
 ·show fU ((putF f y fs).lookup g) (if g=f then some u else mA g)
  rw[C3]
  by_cases q:g=f
  ·rw[if_pos q,if_pos q];exact ry
  ·rw[if_neg q,if_neg q];exact r g
 ·by_cases q:g=f
  ·rw[q];exact(uR f y fs).1
  ·refine(uR f y fs).2 g (wi g fun z=>hg ?_)
   show(if g=f then some u else mA g)=none
   rw[if_neg q];exact z
theorem Inv.made(I:Inv X pins σ H s):Inv X pins σ (aR (aR H s.heap.objs.size (.own (s.heap.objs.size + 1))) (s.heap.objs.size + 1) (.ins C s.heap.objs.size []))
  {s with heap:=(s.heap.push Er).push (Gd C s.heap.objs.size)}:=by
 have e1:(s.heap.push Er).get? s.heap.objs.size=some Er:=Bd s.heap rfl
 have e2:((s.heap.push Er).push (Gd C s.heap.objs.size)).get? (s.heap.objs.size + 1)=some (Gd C s.heap.objs.size):=by
  have:=Bd (s.heap.push Er) (o:=Gd C s.heap.objs.size) rfl
  rwa [Ey] at this
 have e3:(s.heap.push Er).Ns s.heap.objs.size (fun _=>none):=⟨Er,#[],_,e1,rfl,(fun e he=>absurd he (by simp)),fun _=>rfl⟩
 have I1:=I.laid (a:=s.heap.objs.size) (o:=.own (s.heap.objs.size + 1)) (h':=s.heap.push Er) (t':=s.toks) (fun b u q=>Aj _ q) (Ai _) ⟨_,e1⟩
 refine I1.laid (a:=s.heap.objs.size + 1) (o:=.ins C s.heap.objs.size []) (t':=s.toks) (fun b u q=>Aj _ q) (Ez (Ey _ _)) ?_
 have ne:s.heap.objs.size≠s.heap.objs.size + 1:=Bo (Jc _)
 refine⟨by rw[bG ne,cZ],Cd _,ne,e2,fun _=>none,(Heap.Ns1.of_empty e3).at fun o q=>Aj _ q,fun _=>True.intro,fun y hy=>absurd rfl hy⟩
theorem OV{prog:Bu}{w:Cm}{env:Env}{e:Expr}{f:Str}{pos:Pos}{s:Ag}{Q:Ae->Ag->Prop}(hb:Ik e f env (eval e env)=eval e env)
  (h:Bh (Bq prog w) A (eval e env) (fun o s₁=>Bh (Bq prog w) A (getAttr o f true) Q E s₁) E s):Bh (Bq prog w) A (eval (.Attribute e f pos) env) Q E s:=
 Attribute_any_ h (by rw[arm_eval_Attribute,hb])
end
def OW(K:Ab)(ta:TE)(f:Str):TE:=fun σ H Q=>ta σ H fun x H1=>∃ a C dx fs v,x=.ref a/\H1 a=some (.ins C dx fs)/\gW K C/\f9 K C f/\fs.lookup f=some v/\Q v H1
def OX(K:Ab)(ta tv:TE)(f:Str):TS:=fun D σ H=>tv σ H fun y H1=>ta σ H1 fun x H2=>∃ a C dx fs,x=.ref a/\H2 a=some (.ins C dx fs)/\gW K C/\f9 K C f/\fs.length < 1000/\
 D.nx σ (aR H2 a (.ins C dx (putF f y fs)))
section
variable {X:Cx}{o e value:Expr}{f:Str}{pos pos' tpos:Pos}{ta tv:TE}
theorem OY(he:PE X e ta)(hb:Ik e f X.env (eval e X.env)=eval e X.env):PE X (.Attribute e f pos) (OW X.K ta f):=by
 intro pins s σ H Q I h
 refine OV hb (a8 (he pins s σ H _ I h) fun u s1 ⟨x,H1,I1,rx,a,C,dx,fs,v,ex,ea,c,n,l,q⟩=>?_)
 subst ex
 obtain rfl:u=Value.ref a:=rx
 exact OT I1 ea c n l fun u' s2 I2 ru=>⟨v,H1,I2,ru,q⟩
theorem OZ(ha:PE X o ta)(hv:PE X value tv)(hs:Ir value (some (.Attribute o f pos')) pos.line X.env=pure false):PS X (.Assign [.Attribute o f pos'] value pos) (OX X.K ta tv f):=by
 intro pins s σ H D I h
 refine plainObj_wpAny_Assign_Attribute (a8 (hv pins s σ H _ I h) fun u s1 ⟨y,H1,I1,ry,q⟩=>a8 (ha pins s1 σ H1 _ I1 q) fun ov s2 ⟨x,H2,I2,rx,a,C,dx,fs,ex,ea,c,n,l,q2⟩=>?_) hs
 subst ex
 obtain rfl:ov=Value.ref a:=rx
 exact OU I2 ea c n l ry fun s3 I3=>⟨σ,_,I3,q2⟩
end
structure cF(k:Nat)(A:Co):Prop where
 hd:A.handled=none
 dp:A.depth + 3 * k + 5 < recursionLimit
 un:A.units + 16 * k + 200 < Ff
theorem cF.mono{j k:Nat}{A:Co}(r:cF k A)(h:j<=k):cF j A:=⟨r.hd,by have:=r.dp;lia,by have:=r.un;lia⟩
theorem cF.deeper{k:Nat}{A:Co}(r:cF (k + 1) A)(env:Env):cF k (A.deeper env):=
 ⟨r.hd,by have:=r.dp;show A.depth + 1 + 3 * k + 5 < _;lia,by have:=r.un;show A.units + 3 + 16 * k + 200 < _;lia⟩
theorem O0{A:Co}{C:Addr}{us:List Ae}{kw:List (Str×Ae)}:(A.under (.builtin "type.__call__" ⟨.ref C :: us,kw⟩)).depth=A.depth + 1:=by
 first | rfl | simp[Around.under,Code.weight,Code.isCreation,Code.isGuard,Code.isCaller,Code.frames,Code.isFrame,guardIds]
theorem O1{A:Co}{C:Addr}{us:List Ae}{kw:List (Str×Ae)}:(A.under (.builtin "type.__call__" ⟨.ref C :: us,kw⟩)).units=A.units + 1:=by
 first | rfl | simp[Around.under,Code.cUnits,Code.frames,Code.isFrame]
theorem cF.make{k:Nat}{A:Co}(r:cF (k + 1) A)(C:Addr)(us:List Ae)(kw:List (Str×Ae)):cF k (A.under (.builtin "type.__call__" ⟨.ref C :: us,kw⟩)):=
 ⟨r.hd,by have:=r.dp;rw[O0];lia,by have:=r.un;rw[O1];lia⟩
theorem cF.depth{k:Nat}{A:Co}(r:cF k A):A.depth < recursionLimit:=by have:=r.dp;lia
theorem cF.units{k:Nat}{A:Co}(r:cF k A):A.units + 64 < Ff:=by have:=r.un;lia
def uU:TA:=fun _ H Q=>Q [] H
def O2(ta:TE)(tr:TA):TA:=fun σ H Q=>ta σ H fun x H1=>tr σ H1 fun xs H2=>Q (x :: xs) H2
section
variable {X:Cx}{e:Expr}{es:List Expr}{te:TE}{t:TA}{pos:Pos}
theorem O3:PA X [] uU:=fun _ _ _ _ H Q I h=>Calls.spliced_nil ⟨[],H,I,.nil,h⟩
theorem O4(ha:PE X e te)(hr:PA X es t)(hs:Bg (e :: es) X.env=(false,eval e X.env) :: Bg es X.env:=by rfl):PA X (e :: es) (O2 te t):=by
 intro pos pins s σ H Q I h
 rw[hs]
 show Bh _ _ (spliced ((false,eval e X.env) :: Gf pos (Bg es X.env))) _ _ s
 refine Calls.spliced_cons (a8 (ha pins s σ H _ I h) fun u s1 ⟨x,H1,I1,r1,q1⟩=>?_)
 exact a8 (hr pos pins s1 σ H1 _ I1 q1) fun us s2 ⟨xs,H2,I2,r2,q2⟩=>⟨x :: xs,H2,I2,.cons r1 r2,q2⟩
def O5(t:TA):TE:=fun σ H Q=>t σ H fun xs H1=>xs.length<=Ak/\∀ p,H1 p=none->Q (.ref p) (aR H1 p (.tup xs))
def O6(t:TA):TE:=fun σ H Q=>t σ H fun xs H1=>xs.length<=Ak/\∀ p,H1 p=none->Q (.ref p) (aR H1 p (.lst xs))
theorem O7{x1}(h:PA X es t):PE X (.Tuple es x1 pos) (O5 t):=by
 intro pins s σ H Q I hq
 refine wpAny_Tuple_spliced (a8 (h pos pins s σ H _ I hq) fun us s1 ⟨xs,H1,I1,r,z,q⟩=>⟨by rw[<-r.length];exact z,?_⟩)
 have hf:H1 s1.heap.objs.size=none:=I1.hok.fresh (Ai _)
 refine⟨.ref s1.heap.objs.size,aR H1 s1.heap.objs.size (.tup xs),I1.laid (t':=s1.toks) (fun b u e=>Aj _ e) (Ai _) ?_,rfl,q _ hf⟩
 exact⟨z,us,r,⟨_,Bd _ rfl,rfl,_,rfl⟩⟩
theorem C6(h:PA X es t):PE X (.List es pos) (O6 t):=by
 intro pins s σ H Q I hq
 refine wpAny_List_spliced (a8 (h pos pins s σ H _ I hq) fun us s1 ⟨xs,H1,I1,r,z,q⟩=>⟨by rw[<-r.length];exact z,?_⟩)
 have hf:H1 s1.heap.objs.size=none:=I1.hok.fresh (Ai _)
 refine⟨.ref s1.heap.objs.size,aR H1 s1.heap.objs.size (.lst xs),I1.laid (t':=s1.toks) (fun b u e=>Aj _ e) (Ai _) ?_,rfl,q _ hf⟩
 exact⟨z,us,0,r,Bd _ rfl⟩
end
abbrev Sp:=List V->Hp->VK->XK->Prop
abbrev lA:=List Env->Hp->Ag->XK->Ae->Ag->Prop
structure lB(P:Bu)(w:Cm)(K:Ab)(mg:Str->Option Ae)(base:Heap)(A:Co)(outer:List Env)(s:Ag)(H:Hp):Prop where
 frames:A.frames=some outer
 mod:Mod K mg base
 bs:∀ b o,base.get? b=some o->s.heap.get? b=some o/\H b=none
 bsz:base.objs.size<=s.heap.objs.size
 funs:s.heap.FunFrames base outer
 frf:∀ b∈f6 outer,H b=none
 hok:cU P w H s.heap
 bare:Lr s.gens
def CE(outer:List Env)(P:Bu)(w:Cm)(H:Hp)(s:Ag)(Q:VK)(u:Ae)(s':Ag):Prop:=
 ∃ v H',s'.os=s.os/\Lr s'.gens/\Un (f6 outer) [] H H' s.heap s'.heap/\cU P w H' s'.heap/\RelV v u/\Q v H'
def CR(CX:lA)(outer:List Env)(P:Bu)(w:Cm)(H:Hp)(s:Ag)(Q:VK)(E:XK)(r:Result)(s':Ag):Prop:=
 match r with
 | .ok (.ret u)=>CE outer P w H s Q u s'
 | .ok _=>False
 | .error e=>CX outer H s E e s'
structure eV(P:Bu)(w:Cm)(K:Ab)(mg:Str->Option Ae)(base:Heap)(CX:lA)(k:Nat)(f:Addr)(fd:Bi)(ps:List Str)(sp:Sp):Prop where
 len:∀ vs H Q E,sp vs H Q E->vs.length=ps.length
 run:∀ (A:Co) (outer:List Env) (s:Ag) (H:Hp) (args:Args) (us:List Ae) (vs:List V) (Q:VK) (E:XK),cF k A->lB P w K mg base A outer s H->BindsTo s fd args (ps.zip us)->a5 vs us->sp vs H Q E->
  Jb (Bq P w) A (.call (.ref f) args) (CR CX outer P w H s Q E) s
theorem lB.make{P:Bu}{w:Cm}{K:Ab}{mg:Str->Option Ae}{base:Heap}{A:Co}{outer:List Env}{s:Ag}{H:Hp}(e:lB P w K mg base A outer s H)(C:Addr)(us:List Ae)(kw:List (Str×Ae)) :
  lB P w K mg base (A.under (.builtin "type.__call__" ⟨.ref C :: us,kw⟩)) outer s H:=⟨by first | exact e.frames | (simpa [Around.under,Code.envs,Code.isFrame,pushEnvs] using e.frames),e.mod,e.bs,e.bsz,e.funs,e.frf,e.hok,e.bare⟩
section
variable {X:Cx}{pins:List (Addr×Obj)}{σ:St}{H:Hp}{s s':Ag}
theorem Inv.env0(I:Inv X pins σ H s):lB X.prog X.w X.K X.mg X.base X.A X.stack s H:=
 ⟨I.ok.frames,I.ok.mod,I.bs,Ao I.ok.bsz I.sz,I.stack,I.stkFree,I.hok,I.bare⟩
theorem Inv.after{Q:VK}{u:Ae}(I:Inv X pins σ H s)(h:CE X.stack X.prog X.w H s Q u s'):EP X pins σ Q u s':=by
 obtain⟨v,H',os,bare,un,hok,r,q⟩:=h
 obtain⟨hh,g,d,t,os'⟩:=s'
 obtain rfl:os'=s.os:=os
 exact⟨v,H',I.call (h':=hh) (g':=g) (d':=d) (t':=t) (ch:=[]) un hok bare (fun b z=>absurd z (by simp)),r,q⟩
end
def C7(sp:Sp)(dvs:List V)(E:XK)(t:TA):TE:=fun σ H Q=>t σ H fun vs H1=>sp (vs ++ dvs) H1 Q E
def uV(C:Addr)(m:Str)(sp:Sp)(dvs:List V)(E:XK)(ta:TE)(t:TA):TE:=fun σ H Q=>ta σ H fun x H1=>∃ a dx fs,x=.ref a/\H1 a=some (.ins C dx fs)/\fs.lookup m=none/\
 t σ H1 fun vs H2=>sp (x :: (vs ++ dvs)) H2 Q E
def C8(C:Addr)(sp:Sp)(dvs:List V)(E:XK)(t:TA):TE:=fun σ H Q=>t σ H fun vs H1=>∀ x dx,H1 x=none->H1 dx=none->dx≠x->
 sp (.ref x :: (vs ++ dvs)) (aR (aR H1 dx (.own x)) x (.ins C dx [])) (fun v H2=>v=.non/\Q (.ref x) H2) E
def Binds(K:Ab)(fd:Bi)(ps:List Str)(ds:List Ae):Prop:=
 ∀ (s:Ag) (us:List Ae),K.In s.heap->(us ++ ds).length=ps.length->BindsTo s fd ⟨us,[]⟩ (ps.zip (us ++ ds))
theorem Binds.all{K:Ab}{fd:Bi}{ps:List Str}(h:∀ us:List Ae,us.length=ps.length->bindArgs fd ⟨us,[]⟩=pure (ps.zip us)):Binds K fd ps []:=fun s us _ hl=>by
 rw[Ct] at hl ⊢
 exact .of_eq (h us hl)
def lC(CX:lA)(X:Cx)(E:XK):Prop:=∀ (pins:List (Addr×Obj)) (σ:St) (H:Hp) (s:Ag) (e:Ae) (s':Ag),Inv X pins σ H s->CX X.stack H s E e s'->X.xe e s'
section
variable {X:Cx}{CX:lA}{k:Nat}{f C:Addr}{fd:Bi}{ps:List Str}{sp:Sp}{dvs:List V}{ds:List Ae}{E:XK}{x m:Str}{p pos apos:Pos}{e o:Expr}{es:List Expr}{ta:TE}{t:TA}
theorem qY{pins:List (Addr×Obj)}{σ:St}{H:Hp}{s:Ag}{Q:VK}{us:List Ae}{vs:List V}(F:eV X.prog X.w X.K X.mg X.base CX k f fd ps sp)(hr:cF k X.A)(hb:Binds X.K fd ps ds)(hd:a5 dvs ds)(hx:lC CX X E)
  (I:Inv X pins σ H s) (r:a5 vs us) (h:sp (vs ++ dvs) H Q E):Bh (Bq X.prog X.w) X.A (call (.ref f) us) (EP X pins σ Q) X.xe s:=by
 have r2:a5 (vs ++ dvs) (us ++ ds):=r.append hd
 have hl:(us ++ ds).length=ps.length:=by rw[<-r2.length];exact F.len _ _ _ _ h
 refine wpAny_call (Kf (F.run X.A X.stack s H ⟨us,[]⟩ (us ++ ds) (vs ++ dvs) Q E hr I.env0 (hb s us I.kIn hl) r2 h) fun r s' hq=>?_)
 cases r with
 | error e=>exact hx pins σ H s e s' I hq
 | ok fl=>
  cases fl with
  | ret u=>exact I.after hq
  | next=>exact Du hq
  | brk=>exact Du hq
  | cont=>exact Du hq
theorem O8(F:eV X.prog X.w X.K X.mg X.base CX k f fd ps sp)(hr:cF k X.A)(hg:Gl X x)(hm:X.mg x=some (.ref f))(hk:Eb X.K (.ref f)=true)(hb:Binds X.K fd ps ds)(hd:a5 dvs ds)(hx:lC CX X E)
  (ha:PA X (e :: es) t) (hdb:(x == ("__debug__" : Str))=false:=by decide) (he:Bg (e :: es) X.env=(false,eval e X.env) :: Bg es X.env:=by rfl) (hpl:(Gf pos (Bg es X.env)).any (·.1)=false:=by rfl) :
  PE X (.Call (.Name x p) (e :: es) [] pos) (C7 sp dvs E t):=by
 intro pins s σ H Q I h
 refine Dg (oQ I hg hm ?_ hdb)
 refine Hy (h₀:=X.base) I.ok.mod.kin hk (a8 (ha pos pins s σ H _ I h) fun us s1 ⟨vs,H1,I1,r,q⟩=>⟨I1.kIn,?_⟩) he hpl
 exact qY F hr hb hd hx I1 r q
theorem O9{pl:Sem Bool}(he:PE X o ta)(c:gW X.K C)(hm:nE X.K C m f)(F:eV X.prog X.w X.K X.mg X.base CX k f fd ps sp)(hr:cF k X.A)(hb:Binds X.K fd ps ds)(hd:a5 dvs ds)(hx:lC CX X E)(ha:PA X (e :: es) t)
  (hst:Bg (e :: es) X.env=(false,eval e X.env) :: Bg es X.env:=by rfl) (hpl:(Gf pos (Bg es X.env)).any (·.1)=false:=by rfl)
  (ht:eval (.Call (.Attribute o m apos) (e :: es) [] pos) X.env=(do
   let ov <-eval o X.env
   Mc apos.atName
   let (f,first) <-Il [ov] (Md ov m pl)
   callWith pos f first (Gf pos (Bg (e :: es) X.env)) (backToKw pos (Kw [] X.env))):=by rfl) :
  PE X (.Call (.Attribute o m apos) (e :: es) [] pos) (uV C m sp dvs E ta t):=by
 intro pins s σ H Q I h
 refine PySem.W.methodCall_KW (pl:=pl) (a8 (he pins s σ H _ I h) fun u s1 ⟨x,H1,I1,rx,a,dx,fs,ex,ea,l,q⟩=>?_) ht
 subst ex
 obtain rfl:u=Value.ref a:=rx
 refine C5 I1 ea c hm l ?_
 refine Hy (first:=[.ref a]) (h₀:=X.base) I.ok.mod.kin hm.kp (a8 (ha pos pins s1 σ H1 _ I1 q) fun us s2 ⟨vs,H2,I2,r,q2⟩=>⟨I2.kIn,?_⟩) hst hpl
 exact qY (us:=.ref a :: us) (vs:=.ref a :: vs) F hr hb hd hx I2 (.cons rfl r) q2
theorem PB{pl:Sem Bool}(he:PE X o ta)(c:gW X.K C)(hm:nE X.K C m f)(F:eV X.prog X.w X.K X.mg X.base CX k f fd ps sp)(hr:cF k X.A)(hb:Binds X.K fd ps ds)(hd:a5 dvs ds)(hx:lC CX X E)
  (ht:eval (.Call (.Attribute o m apos) [] [] pos) X.env=(do
   let ov <-eval o X.env
   Mc apos.atName
   let (f,first) <-Il [ov] (Md ov m pl)
   callWith pos f first (Gf pos (Bg [] X.env)) (backToKw pos (Kw [] X.env))):=by rfl) :
  PE X (.Call (.Attribute o m apos) [] [] pos) (uV C m sp dvs E ta uU):=by
 intro pins s σ H Q I h
 refine PySem.W.methodCall_KW (pl:=pl) (a8 (he pins s σ H _ I h) fun u s1 ⟨x,H1,I1,rx,a,dx,fs,ex,ea,l,q⟩=>?_) ht
 subst ex
 obtain rfl:u=Value.ref a:=rx
 refine C5 I1 ea c hm l ?_
 exact PySem.W.callWith_K0 (first:=[.ref a]) I1.kIn hm.kp (qY (us:=[.ref a]) (vs:=[.ref a]) F hr hb hd hx I1 (.cons rfl .nil) q)
structure Mk(K:Ab)(C f:Addr):Prop where
 makes:PySem.W.makesIn K C=true
 init:Cf K (.ref C) "__init__" = some (some (.ref f))
 fn:Kn K (.ref f)=true
 kp:Eb K (.ref C)=true
theorem C9{pins:List (Addr×Obj)}{σ:St}{H:Hp}{s:Ag}{Q:VK}{us:List Ae}{vs:List V}(M:Mk X.K C f)(F:eV X.prog X.w X.K X.mg X.base CX k f fd ps sp)(hr:cF (k + 1) X.A)(hb:Binds X.K fd ps ds)(hd:a5 dvs ds)
  (hx:lC CX X E) (I:Inv X pins σ H s) (r:a5 vs us)
  (h:∀ x dx,H x=none->H dx=none->dx≠x->sp (.ref x :: (vs ++ dvs)) (aR (aR H dx (.own x)) x (.ins C dx [])) (fun v H2=>v=.non/\Q (.ref x) H2) E) :
  Bh (Bq X.prog X.w) X.A (call (.ref C) us) (EP X pins σ Q) X.xe s:=by
 have hq:=h (s.heap.objs.size + 1) s.heap.objs.size (I.hok.fresh (Lq _)) (I.hok.fresh (Ai _)) (Bo (Jc _))
 have I2:=Inv.made (C:=C) I
 have r2:a5 (V.ref (s.heap.objs.size + 1) :: (vs ++ dvs)) (Value.ref (s.heap.objs.size + 1) :: (us ++ ds)):=.cons rfl (r.append hd)
 have hl:(Value.ref (s.heap.objs.size + 1) :: us ++ ds).length=ps.length:=by
  have e:=r2.length
  rw[F.len _ _ _ _ hq] at e
  exact e.symm
 refine wpAny_call (OR (f:=f) I.kIn M.makes M.init (beq_iff_eq.mp M.fn) (Kf (F.run _ X.stack _ _ ⟨Value.ref (s.heap.objs.size + 1) :: us,[]⟩ (Value.ref (s.heap.objs.size + 1) :: (us ++ ds)) _ _ E (hr.make C us [])
  (I2.env0.make C us []) (hb _ (Value.ref (s.heap.objs.size + 1) :: us) I2.kIn hl) r2 hq) fun r s' hq'=>?_))
 cases r with
 | error e=>exact hx pins σ _ _ e s' I2 hq'
 | ok fl=>
  cases fl with
  | ret u=>
   obtain⟨v,H',I3,rv,ev,q3⟩:=I2.after hq'
   subst ev
   exact⟨rv,⟨V.ref (s.heap.objs.size + 1),H',I3,rfl,q3⟩⟩
  | next=>exact Du hq'
  | brk=>exact Du hq'
  | cont=>exact Du hq'
theorem PC(M:Mk X.K C f)(F:eV X.prog X.w X.K X.mg X.base CX k f fd ps sp)(hr:cF (k + 1) X.A)(hg:Gl X x)(hm:X.mg x=some (.ref C))(hb:Binds X.K fd ps ds)(hd:a5 dvs ds)(hx:lC CX X E)
  (ha:PA X (e :: es) t) (hdb:(x == ("__debug__" : Str))=false:=by decide) (he:Bg (e :: es) X.env=(false,eval e X.env) :: Bg es X.env:=by rfl) (hpl:(Gf pos (Bg es X.env)).any (·.1)=false:=by rfl) :
  PE X (.Call (.Name x p) (e :: es) [] pos) (C8 C sp dvs E t):=by
 intro pins s σ H Q I h
 refine Dg (oQ I hg hm ?_ hdb)
 refine Hy (h₀:=X.base) I.ok.mod.kin M.kp (a8 (ha pos pins s σ H _ I h) fun us s1 ⟨vs,H1,I1,r,q⟩=>⟨I1.kIn,?_⟩) he hpl
 exact C9 M F hr hb hd hx I1 r q
theorem PD(M:Mk X.K C f)(F:eV X.prog X.w X.K X.mg X.base CX k f fd ps sp)(hr:cF (k + 1) X.A)(hg:Gl X x)(hm:X.mg x=some (.ref C))(hb:Binds X.K fd ps ds)(hd:a5 dvs ds)(hx:lC CX X E)
  (hdb:(x == ("__debug__" : Str))=false:=by decide):PE X (.Call (.Name x p) [] [] pos) (C8 C sp dvs E uU):=by
 intro pins s σ H Q I h
 refine Dg (oQ I hg hm ?_ hdb)
 exact PySem.W.callWith_K0 I.kIn M.kp (C9 (us:=[]) M F hr hb hd hx I .nil h)
end
structure mD(N P:List Str)(sc:Hc):Prop where
 kind:sc.kind=.function
 co:sc.isCoroutine=false
 gen:sc.isGenerator=false
 nd:N.Nodup
 pre:N.take P.length=P
 par:∀ x∈P,sc.names.lookup x=some .local\/sc.names.lookup x=some .cell
 nofree:∀ y∈sc.names,y.2≠.free
theorem DA{kindOf:Str->Option Hz}{x:Str}:∀ {binds:List (Str×Ae)} {m:Str->Option Ae},(∀ v,(x,v)∉binds)->bindL kindOf binds m x=m x
 | [],_,_=>rfl
 | (n,v) :: r,m,h=>by
  unfold bindL
  rw[DA fun w hw=>h w (Av _ hw)]
  split
  ·have:x≠n:=by rintro rfl;exact h v Bb
   simp[this]
  ·rfl
theorem DB{kindOf:Str->Option Hz}{x:Str}:∀ {binds:List (Str×Ae)} {m:Str->Option Ae},(∀ v,(x,v)∉binds)->bindC kindOf binds m x=m x
 | [],_,_=>rfl
 | (n,v) :: r,m,h=>by
  unfold bindC
  rw[DB fun w hw=>h w (Av _ hw)]
  split
  ·rfl
  ·have:x≠n:=by rintro rfl;exact h v Bb
   simp[this]
theorem DC{kindOf:Str->Option Hz}{x:Str}{v:Ae}:∀ {P:List Str} {vs:List Ae} {i:Nat} {m:Str->Option Ae},P.Nodup->P[i]? = some x->vs[i]? = some v->kindOf x=some .local->
  bindL kindOf (P.zip vs) m x=some v
 | [],_,_,_,_,h,_,_=>by simp at h
 | _ :: _,[],_,_,_,_,h,_=>by simp at h
 | p :: P,w :: vs,0,m,nd,h1,h2,hk=>by
  simp at h1 h2;subst h1;subst h2
  show bindL kindOf ((p,w) :: P.zip vs) m p=_
  unfold bindL
  rw[DA fun v hv=>(Dy.mp nd).1 (List.of_mem_zip hv).1,if_pos hk]
  simp
 | p :: P,w :: vs,i + 1,m,nd,h1,h2,hk=>by
  show bindL kindOf ((p,w) :: P.zip vs) m x=_
  unfold bindL
  exact DC (i:=i) (Dy.mp nd).2 (by simpa using h1) (by simpa using h2) hk
theorem DD{kindOf:Str->Option Hz}{x:Str}{v:Ae}:∀ {P:List Str} {vs:List Ae} {i:Nat} {m:Str->Option Ae},P.Nodup->P[i]? = some x->vs[i]? = some v->kindOf x≠some .local->
  bindC kindOf (P.zip vs) m x=some v
 | [],_,_,_,_,h,_,_=>by simp at h
 | _ :: _,[],_,_,_,_,h,_=>by simp at h
 | p :: P,w :: vs,0,m,nd,h1,h2,hk=>by
  simp at h1 h2;subst h1;subst h2
  show bindC kindOf ((p,w) :: P.zip vs) m p=_
  unfold bindC
  rw[DB fun v hv=>(Dy.mp nd).1 (List.of_mem_zip hv).1,if_neg hk]
  simp
 | p :: P,w :: vs,i + 1,m,nd,h1,h2,hk=>by
  show bindC kindOf ((p,w) :: P.zip vs) m x=_
  unfold bindC
  exact DD (i:=i) (Dy.mp nd).2 (by simpa using h1) (by simpa using h2) hk
def start(N:List Str)(vs:List V):St:=vs.map some ++ Bw (N.length - vs.length) none
def kG(CX:lA)(P:Bu)(w:Cm)(K:Ab)(mg:Str->Option Ae)(base:Heap)(N:List Str)(qual:Str)(scope:Hc)(f:Addr)(cd:Ae)(A:Co)(outer:List Env)(s:Ag)(H:Hp)(E:XK):Cx where
 prog:=P
 w:=w
 K:=K
 mg:=mg
 base:=base
 A:=A.deeper (Ja qual scope s.heap.objs.size f cd)
 N:=N
 s₀:=s
 H₀:=H
 env:=Ja qual scope s.heap.objs.size f cd
 outer:=outer
 stack:=Ja qual scope s.heap.objs.size f cd :: outer
 ex:=[]
 calm:=true
 fn:=fun _=>true
 pn:=[]
 xe:=fun e s'=>Bh (Bq P w) (A.deeper (Ja qual scope s.heap.objs.size f cd)) (leaving (Ja qual scope s.heap.objs.size f cd) e) (fun _ s''=>CX outer H s E e s'') (fun e' s''=>CX outer H s E e' s'') s'
theorem DE{sc:Hc}{n:Nat}{x:Str}(h:sc.names.lookup x=some .cell):∃ c,(cellsFrom n sc.names []).lookup x=some c:=by
 have q:=PySem.W.cellsFrom_some sc.names n [] (.inl h)
 exact Cq.mp q
theorem PF{CX:lA}{P:Bu}{w:Cm}{K:Ab}{mg:Str->Option Ae}{base:Heap}{N ps:List Str}{qual:Str}{scope:Hc}{f:Addr}{cd:Ae}{A:Co}{outer:List Env}{s s1:Ag}{H:Hp}{E:XK}{us:List Ae}{vs:List V}
  (S:mD N ps scope) (hd:A.handled=none) (e0:lB P w K mg base A outer s H) (hl:vs.length=ps.length) (r:a5 vs us)
  (x:InCallC s s.heap.objs.size (bindL (Ja qual scope s.heap.objs.size f cd).kindOf (ps.zip us) fun _=>none) (cellsFrom (s.heap.objs.size + 1) scope.names []) (bindC (Ja qual scope s.heap.objs.size f cd).kindOf (ps.zip us) fun _=>none) s1) :
  Inv (kG CX P w K mg base N qual scope f cd A outer s H E) [] (start N vs) H s1:=by
 have hpl:ps.length<=N.length:=by have:=congrArg Cz S.pre;rw[Bj] at this;lia
 obtain⟨h1,tk,rfl,hk⟩:=x.done
 have noA:∀ b:Addr,b∉(kG CX P w K mg base N qual scope f cd A outer s H E).ex:=fun b z=>absurd (show b∈([]:List Addr) from z) (by simp)
 refine⟨⟨e0.mod,S.kind,rfl,rfl,Ai _,fun y z c h1 h2=>?_,fun y hy=>?_,fun y c _ h=>?_,fun _=>hd,Around.frames_deeper e0.frames,.inr ⟨rfl,rfl⟩,fun b z=>absurd z (noA b),e0.bs,e0.bsz,fun b _ _=>noA b,fun b z=>absurd z (noA b),e0.funs,e0.frf⟩,
  rfl,e0.bare,Un.kept hk,⟨_,x.toInCall.ns,fun i y v h1 h2 h3=>?_⟩,fun y c h=>⟨_,x.cell y c h⟩,e0.hok.fresh (Ai _),fun y c h=>?_,fun p hp=>absurd (show p∈([]:List (Addr×Obj)) from hp) (by simp),e0.hok.kept hk,?_⟩
 ·exact name_of_addr x.apart (Es h1) (Es h2)
 ·have hy:scope.names.lookup y=some .cell\/scope.names.lookup y=some .free:=hy
  rcases hy with hy | hy
  ·exact DE hy
  ·exact absurd rfl (S.nofree _ (Es hy))
 ·exact Fv (x.above y c (Es h))
 ·have hi:i < vs.length:=by
   unfold start at h2
   by_cases hi:i < vs.length
   ·exact hi
   ·rw[Hm (by simpa using hi)] at h2
    rw[List.getElem?_replicate] at h2
    split at h2 <;> cases h2
  have ha:vs[i]? = some v:=by
   unfold start at h2
   rw[Ge (by simpa using hi),Au] at h2
   cases e:vs[i]? with
   | none=>rw[e] at h2;cases h2
   | some a=>rw[e] at h2;cases h2;rfl
  obtain⟨u,hu,rv⟩:=r.get ha
  have hp:ps[i]? = some y:=by
   rw[<-S.pre,List.getElem?_take_of_lt (by lia)];exact h1
  have ndP:ps.Nodup:=by rw[<-S.pre];exact S.nd.sublist (List.take_sublist _ _)
  refine⟨u,rv,?_⟩
  rcases S.par y (Bn hp) with k | k
  ·exact .inl ⟨k,DC ndP hp hu k⟩
  ·obtain⟨c,e⟩:=DE (n:=s.heap.objs.size + 1) k
   refine .inr ⟨.inl k,c,e,?_⟩
   have q:=x.cell y c e
   rw[DD ndP hp hu (by show scope.names.lookup y≠_;rw[k];decide)] at q
   exact q
 ·exact e0.hok.fresh (Fv (x.above y c (Es h)))
 ·unfold start
  show _=N.length
  rw[Af,Aa,List.length_replicate]
  lia
theorem DF{CX:lA}{P:Bu}{w:Cm}{K:Ab}{mg:Str->Option Ae}{base:Heap}{k:Nat}{f:Addr}{name qual:Str}{params:Arguments}{body:List Stmt}{scope:Hc}{dV kV doc pm cdv ct oc:Ae}{an od:Option Addr}
  {osl:Array (Option Ae)} {N ps:List Str} {sp:Sp} (lk:K.lookup f=some ⟨oc,od,.func (Ec name qual params body scope dV kV doc pm an cdv ct),osl⟩) (hcd:Ih K cdv qual=true) (S:mD N ps scope)
  (len:∀ vs H Q E,sp vs H Q E->vs.length=ps.length)
  (hbody:∀ (A:Co) (outer:List Env) (s:Ag) (H:Hp) (vs:List V) (Q:VK) (E:XK),cF k (A.deeper (Ja qual scope s.heap.objs.size f cdv))->sp vs H Q E->
   ∃ t,f7 (kG CX P w K mg base N qual scope f cdv A outer s H E) body t/\t {nx:=fun _ H'=>Q .non H',rt:=Q} (start N vs) H) :
  eV P w K mg base CX (k + 1) f (Ec name qual params body scope dV kV doc pm an cdv ct) ps sp:=by
 refine⟨len,fun A outer s H args us vs Q E hr e0 hb r hsp=>?_⟩
 have hl:=len _ _ _ _ hsp
 have KX:K.In s.heap:=e0.mod.kin.keeps fun b o e=>(e0.bs b o e).1
 have lim:s.heap.NoLimit:=e0.mod.nolimit.keeps fun b o e=>(e0.bs b o e).1
 have hkind:∀ y∈ps.zip us,scope.names.lookup y.1=some .local\/(scope.names.lookup y.1=some .cell/\((cellsFrom (s.heap.objs.size + 1) scope.names []).lookup y.1).isSome=true):=fun⟨n,v⟩ hy=>by
  rcases S.par n (List.of_mem_zip hy).1 with q | q
  ·exact .inl q
  ·exact .inr ⟨q,PySem.W.cellsFrom_some _ _ _ (.inl q)⟩
 refine codeAny_call_function hr.depth (KX _ _ lk) rfl S.co S.gen rfl (PySem.W.codeRec_of KX hcd) (hb _ _ _ _ ?_)
 refine wpAny_newFunctionEnv_cells S.kind hkind fun env he s1 x=>?_
 subst he
 refine⟨lim.keeps x.toInCall.keep,codeAny_func ?_⟩
 obtain⟨t,ht,hq⟩:=hbody A outer s H vs Q E (hr.deeper _) hsp
 have I:Inv (kG CX P w K mg base N qual scope f cdv A outer s H E) [] (start N vs) H s1:=PF S hr.hd e0 hl r x
 refine He (ht [] s1 (start N vs) H _ I hq) (fun fl s' hs=>?_) fun e s' hs=>hs
 have fin:∀ {σ':St} {H':Hp} {v:V} {u:Ae},Inv (kG CX P w K mg base N qual scope f cdv A outer s H E) [] σ' H' s'->RelV v u->Q v H'->CE outer P w H s Q u s':=
  fun {σ' H' v u} J rv q=>⟨v,H',J.os,J.bare,J.base,J.hok,rv,q⟩
 cases fl with
 | ret u=>
  obtain⟨v,σ',H',J,rv,q⟩:=hs
  exact fin J rv q
 | next=>
  obtain⟨σ',H',J,q⟩:=hs
  exact fin (v:=V.non) (u:=Value.none) J rfl q
 | brk=>
  obtain⟨_,_,_,q⟩:=hs
  exact Du q
 | cont=>
  obtain⟨_,_,_,q⟩:=hs
  exact Du q
section
variable {X:Cx}{x:Str}{p pos:Pos}{e:Expr}{es:List Expr}{t:TA}{id T:String}{r:List V->Hp->VK->Prop}
def uW(r:List V->Hp->VK->Prop)(t:TA):TE:=fun σ H Q=>t σ H fun vs H1=>r vs H1 Q
theorem PH(hc:eD X (.builtin id) r)(hg:Gl X x)(hm:X.mg x=none)(hv:Dv x=some (.builtin id))(ha:PA X (e :: es) t)(hn:x≠"__name__":=by decide)(hdb:(x == ("__debug__" : Str))=false:=by decide)
  (he:Bg (e :: es) X.env=(false,eval e X.env) :: Bg es X.env:=by rfl) (hpl:(Gf pos (Bg es X.env)).any (·.1)=false:=by rfl):PE X (.Call (.Name x p) (e :: es) [] pos) (uW r t):=by
 intro pins s σ H Q I h
 refine Dg (kE I hg hm hv ?_ hn hdb)
 exact PyProof.Rows.callWith_builtin1 (a8 (ha pos pins s σ H _ I h) fun us s1 ⟨vs,H1,I1,r1,q1⟩=>hc pins s1 σ H1 vs us Q I1 r1 q1) he hpl
theorem PJ(hc:eD X (.type T) r)(hg:Gl X x)(hm:X.mg x=none)(hv:Dv x=some (.type T))(ha:PA X (e :: es) t)(hn:x≠"__name__":=by decide)(hdb:(x == ("__debug__" : Str))=false:=by decide)
  (he:Bg (e :: es) X.env=(false,eval e X.env) :: Bg es X.env:=by rfl) (hpl:(Gf pos (Bg es X.env)).any (·.1)=false:=by rfl):PE X (.Call (.Name x p) (e :: es) [] pos) (uW r t):=by
 intro pins s σ H Q I h
 refine Dg (kE I hg hm hv ?_ hn hdb)
 exact Cy (a8 (ha pos pins s σ H _ I h) fun us s1 ⟨vs,H1,I1,r1,q1⟩=>hc pins s1 σ H1 vs us Q I1 r1 q1) he hpl
end
end L2
namespace HT
open PySem PyProof.Rows
section
variable {prog:Bu}{w:Cm}{A:Co}{E:Ae->Ag->Prop}{s:Ag}
theorem cat_tup{t b:Addr}{vs ws:List Ae}{Q:Ae->Ag->Prop}(ht:IsTup s.heap t vs.toArray)(hb:IsTup s.heap b ws.toArray)(hv:vs≠[])
  (h1:ws=[]->Q (.ref t) s) (h2:ws≠[]->Q (.ref s.heap.objs.size) {s with heap:=s.heap.push {cls:=.type "tuple",data:=.seq (vs ++ ws).toArray}})
  (hsz:vs.length + ws.length<=Ak):Bh (Bq prog w) A (Fe .Add (.ref t) (.ref b)) Q E s:=by
 obtain⟨⟨cls,dd,data,sl⟩,ho,hc,n,hd⟩:=id ht
 obtain⟨⟨cls2,dd2,data2,sl2⟩,ho2,hc2,n2,hd2⟩:=id hb
 simp only at hc hd hc2 hd2
 subst hc hd hc2 hd2
 have e:vs.toArray ++ ws.toArray=(vs ++ ws).toArray:=by simp
 by_cases hw:ws=[]
 ·exact concat_meets ⟨_,ho,rfl⟩ ⟨_,ho2,rfl⟩ noFill_tuple_add seq_tuple_add PySem.F.slot_tuple_add PySem.F.entry_tuple_add (PySem.F.args_tuple_add_2 _ _)
   (tuple_addW1 t b vs.toArray ws.toArray n n2 dd dd2 sl sl2 (by simpa using hv) (by simp[hw])) ⟨ho,ho2,h1 hw⟩
 ·refine concat_meets ⟨_,ho,rfl⟩ ⟨_,ho2,rfl⟩ noFill_tuple_add seq_tuple_add PySem.F.slot_tuple_add PySem.F.entry_tuple_add (PySem.F.args_tuple_add_2 _ _)
   (tuple_addW2 t b vs.toArray ws.toArray n n2 dd dd2 sl sl2 (by simpa using hv) (by simpa using hw) (by rw[Aw,Aw];exact hsz)) ⟨ho,ho2,?_⟩
  rw[e]
  exact h2 hw
def sIx(n d:Nat):Option Int->Nat
 | none=>d
 | some v=>if v < 0 then(v + (n:Int)).toNat else min v.toNat n
theorem sIx_none(n d:Nat):sIx n d none=d:=rfl
theorem sIx_nat(n d k:Nat):sIx n d (some (k:Int))=min k n:=by
 show(if (k:Int) < 0 then((k:Int) + (n:Int)).toNat else min (k:Int).toNat n)=min k n
 rw[if_neg (by lia),Cu]
theorem PK(n d:Nat)(hd:d<=n)(o:Option Int):sIx n d o<=n:=by
 cases o with
 | none=>exact hd
 | some v=>
  show(if v < 0 then(v + (n:Int)).toNat else min v.toNat n)<=n
  by_cases hv:v < 0
  ·rw[if_pos hv];lia
  ·rw[if_neg hv];exact Nat.min_le_right _ _
theorem DG(v:Int)(n d:Nat):(if v < 0 then max (v + (n:Int)) 0 else min v (n:Int))=((sIx n d (some v):Nat):Int):=by
 show(if v < 0 then max (v + (n:Int)) 0 else min v (n:Int))=(((if v < 0 then(v + (n:Int)).toNat else min v.toNat n):Nat):Int)
 by_cases hv:v < 0
 ·simp only[if_pos hv];lia
 ·simp only[if_neg hv];lia
theorem PL(lo hi:Option Int)(n:Nat):Je lo hi 1 (n:Int)=(((sIx n 0 lo:Nat):Int),((sIx n n hi:Nat):Int)):=by
 have h1:¬ ((1:Int) < 0):=by lia
 unfold Je
 simp only[h1,if_false]
 refine Prod.ext ?_ ?_
 ·cases lo with
  | none=>rfl
  | some v=>exact DG v n 0
 ·cases hi with
  | none=>rfl
  | some v=>exact DG v n n
theorem PM(i j:Nat):Ha (i:Int) (j:Int) 1=j - i:=by
 unfold Ha
 have h1:(1:Int) > 0:=by lia
 simp only[h1,if_true,Int.ediv_one]
 split <;> lia
theorem DH{v:Ae}{o:Option Int}{Q:Option Int->Ag->Prop}(p:IsPart v o)(h:Q o s):Bh (Bq prog w) A (Builtin.Slice.slicePartIndex v) Q E s:=by
 cases p with
 | none=>exact slicePart_none h
 | int i t=>exact slicePart_int h
theorem PN{sl:Addr}{vl vu:Ae}{lo hi:Option Int}{n:Nat}{Q:Int×Int×Nat->Ag->Prop}(hs:s.heap.IsSliceOf sl vl vu .none)(pl:IsPart vl lo)(pu:IsPart vu hi)
  (h:Q (((sIx n 0 lo:Nat):Int),1,sIx n n hi - sIx n 0 lo) s):Bh (Bq prog w) A (Builtin.Slice.sliceApplied (.ref sl) (pure (n:Int))) Q E s:=by
 obtain⟨os,hos,hcs,hds⟩:=id hs
 unfold Builtin.Slice.sliceApplied Builtin.Slice.sliceFields
 refine Ac (Ac (Jq hos hds (x:=vl) rfl (Ac (Jq hos hds (x:=vu) rfl (Ac (Jq hos hds (x:=.none) rfl (Am ?_)))))))
 refine Ac (slicePart_none ?_)
 show Bh _ _ (if ((1:Int) == 0)=true then _ else _) _ _ s
 rw[if_neg (by decide)]
 refine Ac (DH pl (Ac (DH pu (Ac (Am ?_)))))
 show Bh _ _ (match Je lo hi 1 (n:Int) with | (lo,hi)=>pure (lo,(1:Int),Ha lo hi 1)) _ _ s
 rw[PL lo hi n]
 show Bh _ _ (pure (((sIx n 0 lo:Nat):Int),(1:Int),Ha ((sIx n 0 lo:Nat):Int) ((sIx n n hi:Nat):Int) 1)) _ _ s
 rw[PM]
 exact Am h
theorem PQ(xs:Array Ae)(i k:Nat):((Cw k).filterMap fun(m:Nat)=>xs[((i:Int) + (m:Int) * 1).toNat]?).toArray=((xs.toList.drop i).take k).toArray:=by
 have e:(fun(m:Nat)=>xs[((i:Int) + (m:Int) * 1).toNat]?)=fun m=>xs[i + m]?:=by
  funext m
  have:((i:Int) + (m:Int) * 1).toNat=i + m:=by lia
  rw[this]
 rw[e]
 have:=pick_run xs i k
 rw[Ig] at this
 have e2:((fun x=>xs[x]?) ∘ fun x=>i + x)=fun m=>xs[i + m]?:=rfl
 rw[e2] at this
 rw[this]
theorem getItem_tuple_cut{t sl:Addr}{items:Array Ae}{vl vu:Ae}{lo hi:Option Int}{Q:Ae->Ag->Prop}(ht:IsTup s.heap t items)(hs:s.heap.IsSliceOf sl vl vu .none)(pl:IsPart vl lo)(pu:IsPart vu hi)
  (hw:¬ (sIx items.size 0 lo=0/\sIx items.size items.size hi=items.size))
  (h:Q (.ref s.heap.objs.size) {s with heap:=s.heap.push {cls:=.type "tuple",data:=.seq ((items.toList.drop (sIx items.size 0 lo)).take (sIx items.size items.size hi - sIx items.size 0 lo)).toArray}})
  (hsz:items.size<=Ak):Bh (Bq prog w) A (getItem (.ref t) (.ref sl)) Q E s:=by
 have htake:sizeOk (.seq ((items.toList.drop (sIx items.size 0 lo)).take (sIx items.size items.size hi - sIx items.size 0 lo)).toArray):=by
  show((items.toList.drop (sIx items.size 0 lo)).take (sIx items.size items.size hi - sIx items.size 0 lo)).toArray.size<=Ak
  rw[Aw,Bj,Ds,Fp]
  omega
 have hj:sIx items.size items.size hi<=items.size:=PK _ _ (Ai _) hi
 obtain⟨os,hos,hcs,hds⟩:=id hs
 have hTs:s.TypeIs (.ref sl) "slice":=⟨os,hos,hcs⟩
 unfold getItem
 try with_reducible refine Dq ?_
 first | refine Ac (Am ?_) | skip
 refine Ac (wpAny_sequenceKey ht.typeIs (by decide) ?_)
 refine Ac (Gx (name:=Ej "__getitem__") ht.typeIs Ia
  (Fi Ia ht.typeIs entry_tuple_getitem ?_ (args_tuple_getitem _ _)))
 show Bh _ _ (Builtin.Tuple.tupleItemsOf (.ref t) >>= _) _ _ s
 refine Ac (tupleItemsOf_ ht ?_)
 refine Ac (wpAny_typeOf hTs ?_)
 rw[if_pos (by decide)]
 refine Ac (PN hs pl pu ?_)
 have hno:¬ ((((sIx items.size 0 lo:Nat):Int) == 0 && (1:Int) == 1 && (sIx items.size items.size hi - sIx items.size 0 lo) == items.size)=true):=by
  intro q
  rw[Cr,Cr] at q
  have q1:((sIx items.size 0 lo:Nat):Int)=0:=eq_of_beq q.1.1
  have q2:sIx items.size items.size hi - sIx items.size 0 lo=items.size:=eq_of_beq q.2
  exact hw ⟨by omega,by omega⟩
 show Bh _ _ (if (((sIx items.size 0 lo:Nat):Int) == 0 && (1:Int) == 1 && (sIx items.size items.size hi - sIx items.size 0 lo) == items.size)=true then _ else _) _ _ s
 rw[if_neg hno,PQ]
 first
  | exact Ac (m:=Hf _) (Eg (Am ⟨_,rfl,Am h⟩) htake)
  | exact Ac (m:=Hf _) (Eg (Ac (Am (Am ⟨_,rfl,Am h⟩))) htake)
  | exact Ac (Ac (m:=Hf _) (Eg (Am (Am ⟨_,rfl,Am h⟩)) htake))
  | exact Ac (Ac (m:=Hf _) (Eg (Am ⟨_,rfl,Am h⟩) htake))
end
end HT
namespace L2
open PySem PySem.Spec PyProof.Rows
abbrev TO:=St->Hp->(Option Int->Hp->Prop)->Prop
def PO(X:Cx)(e:Option Expr)(t:TO):Prop:=
 ∀ (pins:List (Addr×Obj)) (s:Ag) (σ:St) (H:Hp) (Q:Option Int->Hp->Prop),Inv X pins σ H s->t σ H Q->
  Bh (Bq X.prog X.w) X.A (evalPart e X.env) (fun u s'=>∃ o H',Inv X pins σ H' s'/\IsPart u o/\Q o H') X.xe s
def PR:TO:=fun _ H Q=>Q none H
def PU(t:TE):TO:=fun σ H Q=>t σ H fun x H1=>∃ i,x=.int i/\Q (some i) H1
section
variable {X:Cx}{e:Expr}{te:TE}{lo hi:Option Expr}{tl th:TO}{pos p2:Pos}
theorem PV:PO X none PR:=by
 intro pins s σ H Q I h
 rw[evalPart_none]
 exact Am ⟨none,H,I,.none,h⟩
theorem PX(h:PE X e te):PO X (some e) (PU te):=by
 intro pins s σ H Q I hw
 rw[evalPart_some]
 refine a8 (h pins s σ H _ I hw) fun u s1 ⟨x,H1,I1,r1,q1⟩=>?_
 obtain⟨i,rfl,q⟩:=q1
 obtain⟨t,rfl⟩:=r1
 exact⟨some i,H1,I1,.int i t,q⟩
def qZ(X:Cx)(r:V->Option Int->Option Int->Hp->VK->Prop):Prop:=
 ∀ (pins:List (Addr×Obj)) (s:Ag) (σ:St) (H:Hp) (x:V) (v vl vu:Ae) (lo hi:Option Int) (sl:Addr) (Q:VK),Inv X pins σ H s->RelV x v->s.heap.IsSliceOf sl vl vu .none->IsPart vl lo->IsPart vu hi->r x lo hi H Q->
  ∃ T id,typeLookup (.type T) "__getitem__" = pure (some (.builtin id))/\s.TypeIs v T/\Bh (Bq X.prog X.w) X.A (getItem v (.ref sl)) (EP X pins σ Q) X.xe s
def PY(r:V->Option Int->Option Int->Hp->VK->Prop)(te:TE)(tl th:TO):TE:=fun σ H Q=>te σ H fun x H1=>tl σ H1 fun l H2=>th σ H2 fun u H3=>r x l u H3 Q
theorem PZ{r:V->Option Int->Option Int->Hp->VK->Prop}(hr:qZ X r)(he:PE X e te)(hl:PO X lo tl)(hu:PO X hi th):PE X (.Subscript e (.Slice lo hi none p2) pos) (PY r te tl th):=by
 intro pins s σ H Q I h
 refine Subscript_ (a8 (he pins s σ H _ I h) fun v s1 ⟨x,H1,I1,r1,q1⟩=>?_)
 refine wpAny_Slice (a8 (hl pins s1 σ H1 _ I1 q1) fun vl s2 ⟨l,H2,I2,pl,q2⟩=>a8 (hu pins s2 σ H2 _ I2 q2) fun vu s3 ⟨u,H3,I3,pu,q3⟩=>?_)
 rw[evalPart_none]
 refine Am ?_
 have I4:Inv X pins σ H3 {s3 with heap:=s3.heap.push {cls:=.type "slice",data:=.fields #[vl,vu,.none]}}:=I3.kept (t':=s3.toks) fun b ob q=>Aj _ q
 obtain⟨T,id,hT,ht,hg⟩:=hr pins {s3 with heap:=s3.heap.push {cls:=.type "slice",data:=.fields #[vl,vu,.none]}} σ H3 x v vl vu l u s3.heap.objs.size Q I4 r1 (Heap.IsSliceOf.new ..) pl pu q3
 show Bh (Bq X.prog X.w) X.A (subscriptTail e (.Slice lo hi none p2) v (.ref s3.heap.objs.size)) (EP X pins σ Q) X.xe {s3 with heap:=s3.heap.push {cls:=.type "slice",data:=.fields #[vl,vu,.none]}}
 exact tail_any (ops:=[.ref s3.heap.objs.size,v]) ht hT hg (by with_unfolding_all rfl)
def lD(xs:List V)(lo hi:Option Int):List V:=(xs.drop (HT.sIx xs.length 0 lo)).take (HT.sIx xs.length xs.length hi - HT.sIx xs.length 0 lo)
theorem DJ(xs:List V)(lo hi:Option Int):(lD xs lo hi).length<=xs.length:=by
 unfold lD
 rw[Bj,Ds]
 lia
def P0(K:Ab):V->Option Int->Option Int->Hp->VK->Prop:=fun x lo hi H Q=>∃ a xs,x=.ref a/\cD K H a xs/\
 ¬ (HT.sIx xs.length 0 lo=0/\HT.sIx xs.length xs.length hi=xs.length)/\∀ p,H p=none->Q (.ref p) (aR H p (.tup (lD xs lo hi)))
theorem P1:qZ X (P0 X.K):=by
 intro pins s σ H x v vl vu lo hi sl Q I rx hs pl pu h
 obtain⟨a,xs,rfl,hx,hw,q⟩:=h
 cases rx
 obtain⟨its,r,ht,hz⟩:=I.tuple hx
 have hlen:its.toArray.size=xs.length:=by rw[Aw];exact r.length.symm
 refine⟨"tuple",_,Ia.lookup,ht.typeIs,?_⟩
 refine HT.getItem_tuple_cut ht hs pl pu (by rw[hlen];exact hw) ?_ (by rw[hlen];exact hz)
 rw[hlen]
 refine⟨.ref s.heap.objs.size,_,I.laid (t':=s.toks) (o:=.tup (lD xs lo hi)) (fun b ob q=>Aj _ q) (Ai _) ?_,rfl,q _ (I.hok.fresh (Ai _))⟩
 exact⟨Ao (DJ xs lo hi) hz,_,(r.drop (HT.sIx xs.length 0 lo)).take (HT.sIx xs.length xs.length hi - HT.sIx xs.length 0 lo),IsTup.new _ _⟩
def P2(K:Ab):R2:=fun x y H Q=>∃ a b xs ys,x=.ref a/\y=.ref b/\cD K H a xs/\cD K H b ys/\xs≠[]/\xs.length + ys.length<=Ak/\
 (ys=[]->Q (.ref a) H)/\(ys≠[]->∀ p,H p=none->Q (.ref p) (aR H p (.tup (xs ++ ys))))
theorem a5.nil_iff{xs:List V}{us:List Ae}(r:a5 xs us):us=[]↔xs=[]:=by
 cases r with
 | nil=>simp
 | cons _ _=>simp
theorem P4:bD X (Fe .Add) (P2 X.K):=by
 intro pins s σ H x y v u Q I rx ry h
 obtain⟨a,b,xs,ys,rfl,rfl,ha,hb,hx,hz,q1,q2⟩:=h
 cases rx
 cases ry
 obtain⟨its,r1,p1,_⟩:=I.tuple ha
 obtain⟨its2,r2,p2,_⟩:=I.tuple hb
 refine HT.cat_tup p1 p2 (fun z=>hx (r1.nil_iff.mp z)) (fun z=>⟨.ref a,H,I,rfl,q1 (r2.nil_iff.mp z)⟩) (fun z=>?_) (by rw[<-r1.length,<-r2.length];exact hz)
 refine⟨.ref s.heap.objs.size,_,I.laid (t':=s.toks) (o:=.tup (xs ++ ys)) (fun b ob q=>Aj _ q) (Ai _) ?_,rfl,q2 (fun w=>z (r2.nil_iff.mpr w)) _ (I.hok.fresh (Ai _))⟩
 exact⟨by rw[Af];exact hz,_,r1.append r2,IsTup.new _ _⟩
end
def gX(n:Nat)(i:Int):Option Nat:=if 0<=i then(if i < n then some i.toNat else none) else if -(n:Int)<=i then some (i + n).toNat else none
def cC{α:Type}(xs:List α)(i:Int):Option α:=(gX xs.length i).bind fun j=>xs[j]?
theorem DK{n:Nat}{i:Int}{j:Nat}(h:gX n i=some j):seqIndex? i n=some j/\j < n/\-(n:Int)<=i/\i < n:=by
 unfold gX at h
 by_cases h0:0<=i
 ·rw[if_pos h0] at h
  by_cases h1:i < n
  ·rw[if_pos h1] at h
   have e:i.toNat=j:=Cj h
   exact⟨by rw[seqIndex_of h0 h1,e],by lia,by lia,h1⟩
  ·rw[if_neg h1] at h;cases h
 ·rw[if_neg h0] at h
  by_cases h1 : -(n:Int)<=i
  ·rw[if_pos h1] at h
   have e:(i + n).toNat=j:=Cj h
   exact⟨by rw[seqIndex_neg (by lia) h1,e],by lia,h1,by lia⟩
  ·rw[if_neg h1] at h;cases h
theorem uX{α:Type}{xs:List α}{i:Int}{v:α}(h:cC xs i=some v):∃ j,seqIndex? i xs.length=some j/\xs[j]? = some v/\j < xs.length/\-(xs.length:Int)<=i/\i < xs.length:=by
 unfold cC at h
 cases e:gX xs.length i with
 | none=>rw[e] at h;cases h
 | some j=>
  rw[e] at h
  obtain⟨h1,h2,h3,h4⟩:=DK e
  exact⟨j,h1,h,h2,h3,h4⟩
theorem iL{α:Type}{xs:List α}{j:Nat}{v:α}(h:xs[j]? = some v):cC xs (j:Int)=some v:=by
 have hj:j < xs.length:=(Ah.mp h).1
 have e:gX xs.length (j:Int)=some j:=by
  unfold gX
  rw[if_pos (by lia),if_pos (by lia)];simp
 unfold cC;rw[e];exact h
theorem DL{α:Type}(xs:List α)(v:α):cC (xs ++ [v]) (-1)=some v:=by
 have hl:(xs ++ [v]).length=xs.length + 1:=by simp
 have e:gX (xs ++ [v]).length (-1)=some xs.length:=by
  unfold gX
  rw[hl,if_neg (by decide),if_pos (by lia)]
  congr 1
  lia
 unfold cC
 rw[e]
 show(xs ++ [v])[xs.length]? = some v
 simp
def DM(b:Expr):Prop:=∀ o i,subscripted b false o i=operate [o,i] (getItem o i)
def iW(X:Cx)(r:R2):Prop:=
 ∀ (value slice:Expr) (pins:List (Addr×Obj)) (s:Ag) (σ:St) (H:Hp) (x y:V) (v u:Ae) (Q:VK),Inv X pins σ H s->RelV x v->RelV y u->r x y H Q->
  subscripted slice false v u=operate [v,u] (getItem v u)->Bh (Bq X.prog X.w) X.A (subscriptTail value slice v u) (EP X pins σ Q) X.xe s
def iX(X:Cx)(id:String)(r:V->List V->Hp->VK->Prop):Prop:=
 ∀ (pins:List (Addr×Obj)) (s:Ag) (σ:St) (H:Hp) (x:V) (xs:List V) (v:Ae) (us:List Ae) (Q:VK),Inv X pins σ H s->RelV x v->a5 xs us->r x xs H Q->
  Bh (Bq X.prog X.w) X.A (call (.builtin id) (v :: us)) (EP X pins σ Q) X.xe s
section
variable {X:Cx}{a b:Expr}{ta tb:TE}{pos:Pos}
theorem iW.or{r r':R2}(h:iW X r)(h':iW X r'):iW X (fun x y H Q=>r x y H Q\/r' x y H Q):=by
 intro value slice pins s σ H x y v u Q I rx ry q hs
 rcases q with q | q
 ·exact h value slice pins s σ H x y v u Q I rx ry q hs
 ·exact h' value slice pins s σ H x y v u Q I rx ry q hs
theorem P5{r:R2}(hr:iW X r)(ha:PE X a ta)(hb:PE X b tb)(hs:DM b):PE X (.Subscript a b pos) (oT r ta tb):=by
 intro pins s σ H Q I h
 exact Subscript_ (uP ha hb I h fun v u s2 x y H2 I2 rx ry q=>hr a b pins s2 σ H2 x y v u Q I2 rx ry q (hs _ _))
def P6(K:Ab):R2:=fun x y H Q=>∃ p xs i v,x=.ref p/\y=.int i/\bQ K H p xs/\cC xs i=some v/\Q v H
def P7(K:Ab):R2:=fun x y H Q=>∃ p xs i v,x=.ref p/\y=.int i/\cD K H p xs/\cC xs i=some v/\Q v H
def P8:R2:=fun x y H Q=>∃ z i c,x=.str z/\y=.int i/\z.length<=Ak/\cC z.cps.toList i=some c/\Q (.str ⟨#[c]⟩) H
theorem P9:iW X (P6 X.K):=by
 intro value slice pins s σ H x y v u Q I rx ry h hs
 obtain⟨p,xs,i,z,rfl,rfl,hq,he,q⟩:=h
 cases rx
 obtain⟨t,rfl⟩:=ry
 obtain⟨its,r,pl,hz⟩:=I.list hq
 obtain⟨j,h1,h2,h3,h4,h5⟩:=uX he
 obtain⟨w,ew,rw'⟩:=r.get h2
 have hl:=r.length
 have hn:=mB
 have fin:EP X pins σ Q w s:=⟨z,H,I,rw',q⟩
 by_cases h0:0<=i
 ·have hj:i.toNat=j:=by
   rw[seqIndex_of h0 h5] at h1
   exact Cj h1
  exact item_listR pl.isList h0 (by lia) (by rw[hj];simpa using ew) fin hs
 ·have hj:(i + (its.toArray.size:Int)).toNat=j:=by
   rw[seqIndex_neg (by lia) h4] at h1
   rw[Aw,<-hl]
   exact Cj h1
  exact subscriptTail_builtinR (x:=w) pl.isList.typeIs slot_list_getitem.lookup
   (wpAny_getItem_list_neg (Q:=fun r s'=>r=w/\EP X pins σ Q r s') pl.isList (by lia) (by rw[Aw] <;> lia) (by lia) (by rw[hj];simpa using ew) ⟨rfl,fin⟩) hs
theorem QA:iW X (P7 X.K):=by
 intro value slice pins s σ H x y v u Q I rx ry h hs
 obtain⟨p,xs,i,z,rfl,rfl,hq,he,q⟩:=h
 cases rx
 obtain⟨t,rfl⟩:=ry
 obtain⟨its,r,pl,hz⟩:=I.tuple hq
 obtain⟨j,h1,h2,h3,h4,h5⟩:=uX he
 obtain⟨w,ew,rw'⟩:=r.get h2
 have hl:=r.length
 have hn:=mB
 have fin:EP X pins σ Q w s:=⟨z,H,I,rw',q⟩
 exact subscriptTail_builtinR (x:=w) pl.typeIs slot_tuple_getitem.lookup
  (getItem_tuple (j:=j) (Q:=fun r s'=>r=w/\EP X pins σ Q r s') pl (by lia) (by lia) (by rw[Aw,<-hl];exact h1) (by simpa using ew) ⟨rfl,fin⟩) hs
theorem QB:iW X P8:=by
 intro value slice pins s σ H x y v u Q I rx ry h hs
 obtain⟨z,i,c,rfl,rfl,hz,he,q⟩:=h
 obtain⟨t,rfl⟩:=rx
 obtain⟨t',rfl⟩:=ry
 obtain⟨j,h1,h2,h3,h4,h5⟩:=uX he
 have hl:z.cps.toList.length=z.length:=by simp[Str.length]
 rw[hl] at h1 h4 h5
 have hn:=mB
 exact tail_any (typeIs_str s z t) slot_str_getitem.lookup (getItem_str (c:=c) (by
  have e1:decide (i < -(2 ^ 63:Int))=false:=decide_eq_false (by lia)
  have e2:decide (i ≥ 2 ^ 63)=false:=decide_eq_false (by lia)
  rw[e1,e2,Bool.or_false]) (by rw[h1];simpa using h2) ⟨.str ⟨#[c]⟩,H,I.tok _,⟨_,rfl⟩,q⟩) hs
theorem QC(its:List Ae)(n j:Nat)(u:Ae):Jy (·.setIfInBounds j u) {cls:=.type "list",data:=.seq its.toArray n} = {cls:=.type "list",data:=.seq (its.set j u).toArray n}:=by
 simp[Jy]
theorem Inv.lst{pins:List (Addr×Obj)}{σ:St}{H:Hp}{s:Ag}{p:Addr}{xs:List V}(I:Inv X pins σ H s)(h:H p=some (.lst xs)) :
  ∃ (its:List Ae) (n:Nat),a5 xs its/\s.heap.get? p=some {cls:=.type "list",data:=.seq its.toArray n}/\xs.length<=Ak:=by
 obtain⟨z,its,n,r,e⟩:=I.hok p _ h
 exact⟨its,n,r,e,z⟩
theorem Inv.lstUpd{pins:List (Addr×Obj)}{σ:St}{H:Hp}{s:Ag}{p:Addr}{xs ys:List V}{its its':List Ae}{n n':Nat}{f:Obj->Obj}(I:Inv X pins σ H s)(h:H p=some (.lst xs))
  (ho:s.heap.get? p=some {cls:=.type "list",data:=.seq its.toArray n}) (hf:f {cls:=.type "list",data:=.seq its.toArray n} = {cls:=.type "list",data:=.seq its'.toArray n'}) (r:a5 ys its') (hz:ys.length<=Ak) (t:Nat) :
  Inv X pins σ (aR H p (.lst ys)) {s with heap:=s.heap.update p f,toks:=t}:=by
 have e:(s.heap.update p f).get? p=some {cls:=.type "list",data:=.seq its'.toArray n'}:=by
  rw[Gb f ho (by rw[hf] <;> rfl),hf]
 refine I.write (x:=p) (e:=p) (by rw[h];trivial) (.inl rfl) (fun b u hb q=>(Gw _ _ (Cg hb)).trans q) ⟨_,e⟩ ?_
 exact⟨hz,its',n',r,e⟩
def QD:V->V->V->Hp->(Hp->Prop)->Prop:=fun o i v H Q=>∃ p xs k j,o=.ref p/\i=.int k/\H p=some (.lst xs)/\gX xs.length k=some j/\Q (aR H p (.lst (xs.set j v)))
theorem QE:qS X QD:=by
 intro pins s σ H o i v ov iv u Q I ro ri rv h
 obtain⟨p,xs,k,j,rfl,rfl,hp,hj,q⟩:=h
 cases ro
 obtain⟨t,rfl⟩:=ri
 obtain⟨its,n,r,ho,hz⟩:=I.lst hp
 obtain⟨h1,h2,h3,h4⟩:=DK hj
 have hl:=r.length
 have hn:=mB
 have I':Inv X pins σ (aR H p (.lst (xs.set j v))) {s with heap:=s.heap.update p (Jy (·.setIfInBounds j u))}:=
  I.lstUpd hp ho (QC its n j u) (r.set rv j) (by rw[List.length_set];exact hz) s.toks
 by_cases h0:0<=k
 ·have hk:k.toNat=j:=by
   rw[seqIndex_of h0 h4] at h1
   exact Cj h1
  exact PySem.W.ki_setAt ho h0 (by lia) (by rw[Aw,<-hl];exact h4) (by rw[hk];exact⟨_,I',q⟩)
 ·have hk:(k + (its.toArray.size:Int)).toNat=j:=by
   rw[seqIndex_neg (by lia) h3] at h1
   rw[Aw,<-hl]
   exact Cj h1
  exact PySem.W.ki_setBack ho (by lia) (by rw[Aw,<-hl];exact h3) (by lia) (by rw[hk];exact⟨_,I',q⟩)
theorem QF(lo hi:Option Int)(n:Nat):(Jr lo hi none n).1=((HT.sIx n 0 lo:Nat):Int)/\(Jr lo hi none n).2.1=((HT.sIx n n hi:Nat):Int)/\(Jr lo hi none n).2.2=1:=by
 refine⟨?_,?_,rfl⟩
 ·cases lo with
  | none=>simp[Jr,HT.sIx]
  | some i=>
   simp only[Jr,HT.sIx,Option.getD_none,show(1:Int) > 0 by decide,if_true]
   by_cases h:i < 0
   ·simp only[h,if_true] <;> lia
   ·simp only[h,if_false] <;> lia
 ·cases hi with
  | none=>simp[Jr,HT.sIx]
  | some i=>
   simp only[Jr,HT.sIx,Option.getD_none,show(1:Int) > 0 by decide,if_true]
   by_cases h:i < 0
   ·simp only[h,if_true] <;> lia
   ·simp only[h,if_false] <;> lia
theorem QG(its:List Ae)(lo hi:Option Int):slicePick its.toArray lo hi none=((its.drop (HT.sIx its.length 0 lo)).take (HT.sIx its.length its.length hi - HT.sIx its.length 0 lo)).toArray:=by
 obtain⟨h1,h2,h3⟩:=QF lo hi its.toArray.size
 unfold slicePick
 rw[h1,h2,h3]
 simp only[sliceRange_one,pick_run,Aw] <;> rfl
def QH(K:Ab):V->Option Int->Option Int->Hp->VK->Prop:=fun x lo hi H Q=>∃ a xs,x=.ref a/\bQ K H a xs/\∀ p,H p=none->Q (.ref p) (aR H p (.lst (lD xs lo hi)))
theorem uY:qZ X (QH X.K):=by
 intro pins s σ H x v vl vu lo hi sl Q I rx hs pl pu h
 obtain⟨a,xs,rfl,hx,q⟩:=h
 cases rx
 obtain⟨its,r,ht,hz⟩:=I.list hx
 have hlen:=r.length
 refine⟨"list",_,slot_list_getitem.lookup,ht.isList.typeIs,?_⟩
 refine wpAny_getItem_list_slice ht.isList hs pl pu .none (by simp) ?_ (by rw[Aw] <;> lia)
 rw[QG,<-hlen]
 refine⟨.ref s.heap.objs.size,_,I.laid (t':=s.toks) (o:=.lst (lD xs lo hi)) (fun b ob q=>Aj _ q) (Ai _) ?_,rfl,q _ (I.hok.fresh (Ai _))⟩
 exact⟨Ao (DJ xs lo hi) hz,_,0,(r.drop (HT.sIx xs.length 0 lo)).take (HT.sIx xs.length xs.length hi - HT.sIx xs.length 0 lo),Bd _ rfl⟩
def jS:V->Bool
 | .non=>true
 | .bl _=>true
 | .int _=>true
 | .str _=>true
 | _=>false
def jT:V->V->Bool
 | .non,.non=>true
 | .bl a,.bl b=>a == b
 | .bl a,.int b=>(if a then 1 else 0) == b
 | .int a,.bl b=>a == (if b then 1 else 0)
 | .int a,.int b=>a == b
 | .str a,.str b=>a == b
 | _,_=>false
theorem QI{A:Co}{s:Ag}{y x:V}{u v:Ae}(ry:RelV y u)(rx:RelV x v)(fy:jS y=true)(fx:jS x=true):SeqAt.EqAt A s u v (jT y x):=by
 cases y with
 | non=>
  cases ry
  cases x with
  | non=>cases rx;exact SeqAt.EqAt.same _
  | bl b=>cases rx;exact SeqAt.EqAt.none_bool b
  | int b=>obtain⟨t,rfl⟩:=rx;exact SeqAt.EqAt.none_int b t
  | str b=>obtain⟨t,rfl⟩:=rx;exact SeqAt.EqAt.none_str b t
  | _=>exact absurd (show false=true from fx) Ap
 | bl a=>
  cases ry
  cases x with
  | non=>cases rx;exact SeqAt.EqAt.bool_none a
  | bl b=>cases rx;exact SeqAt.EqAt.bool_bool a b
  | int b=>obtain⟨t,rfl⟩:=rx;exact SeqAt.EqAt.bool_int a b t
  | str b=>obtain⟨t,rfl⟩:=rx;exact SeqAt.EqAt.bool_str a b t
  | _=>exact absurd (show false=true from fx) Ap
 | int a=>
  obtain⟨t',rfl⟩:=ry
  cases x with
  | non=>cases rx;exact SeqAt.EqAt.int_none a t'
  | bl b=>cases rx;exact SeqAt.EqAt.int_bool a t' b
  | int b=>obtain⟨t,rfl⟩:=rx;exact SeqAt.EqAt.int_int a t' b t
  | str b=>obtain⟨t,rfl⟩:=rx;exact SeqAt.EqAt.int_str a t' b t
  | _=>exact absurd (show false=true from fx) Ap
 | str a=>
  obtain⟨t',rfl⟩:=ry
  cases x with
  | non=>cases rx;exact SeqAt.EqAt.str_none a t'
  | bl b=>cases rx;exact SeqAt.EqAt.str_bool a t' b
  | int b=>obtain⟨t,rfl⟩:=rx;exact SeqAt.EqAt.str_int a t' b t
  | str b=>obtain⟨t,rfl⟩:=rx;exact SeqAt.EqAt.str_str a t' b t
  | _=>exact absurd (show false=true from fx) Ap
 | _=>exact absurd (show false=true from fy) Ap
def gY(x:V)(u:Ae):Bool:=match u with
 | .none=>jT .non x
 | .bool b=>jT (.bl b) x
 | .int i _=>jT (.int i) x
 | .str z _=>jT (.str z) x
 | _=>false
theorem DN{x y:V}{u:Ae}(r:RelV y u)(f:jS y=true):gY x u=jT y x:=by
 cases y with
 | non=>cases r;rfl
 | bl b=>cases r;rfl
 | int i=>obtain⟨t,rfl⟩:=r;rfl
 | str z=>obtain⟨t,rfl⟩:=r;rfl
 | _=>exact absurd (show false=true from f) Ap
theorem oV{x:V}:∀ {xs:List V} {us:List Ae},a5 xs us->xs.all jS=true->us.any (gY x)=xs.any fun y=>jT y x
 | _,_,.nil,_=>rfl
 | y :: xs,u :: us,.cons r t,f=>by
  rw[Ly,Cr] at f
  rw[Fw,Fw,DN r f.1,oV t f.2]
theorem oW{A:Co}{s:Ag}{x:V}{v:Ae}(rx:RelV x v)(fx:jS x=true):∀ {xs:List V} {us:List Ae},a5 xs us->xs.all jS=true->∀ u∈us,SeqAt.EqAt A s u v (gY x u)
 | _,_,.nil,_=>fun u hu=>by cases hu
 | y :: xs,u :: us,.cons r t,f=>fun u' hu=>by
  rw[Ly,Cr] at f
  rcases Ay.mp hu with rfl | hu
  ·rw[DN r f.1];exact QI r rx f.1 fx
  ·exact oW rx fx t f.2 u' hu
def inV(x:V)(xs:List V):Bool:=xs.any fun y=>jT y x
def rIn(K:Ab)(neg:Bool):R2:=fun x y H Q=>∃ p xs,y=.ref p/\(bQ K H p xs\/cD K H p xs)/\jS x=true/\xs.all jS=true/\Q (.bl (if neg then !inV x xs else inV x xs)) H
theorem QJ:bD X (Ci .In) (rIn X.K false):=by
 intro pins s σ H x y v u Q I rx ry h
 obtain⟨p,xs,rfl,hq,fx,fs,q⟩:=h
 cases ry
 rcases hq with hq | hq
 ·obtain⟨its,r,pl,hz⟩:=I.list hq
  refine SeqAt.in_listAt (gY x) pl.isList (fun w hw=>oW rx fx r fs w (by simpa using hw)) ⟨.bl _,H,I,rfl,?_⟩
  rw[show its.toArray.any (gY x)=its.any (gY x) by simp,oV r fs]
  exact q
 ·obtain⟨its,r,pl,hz⟩:=I.tuple hq
  refine SeqAt.in_tupleAt (gY x) pl (fun w hw=>oW rx fx r fs w (by simpa using hw)) ⟨.bl _,H,I,rfl,?_⟩
  rw[show its.toArray.any (gY x)=its.any (gY x) by simp,oV r fs]
  exact q
theorem QK:bD X (Ci .NotIn) (rIn X.K true):=by
 intro pins s σ H x y v u Q I rx ry h
 obtain⟨p,xs,rfl,hq,fx,fs,q⟩:=h
 cases ry
 rcases hq with hq | hq
 ·obtain⟨its,r,pl,hz⟩:=I.list hq
  refine SeqAt.notIn_listAt (gY x) pl.isList (fun w hw=>oW rx fx r fs w (by simpa using hw)) ⟨.bl _,H,I,rfl,?_⟩
  rw[show its.toArray.any (gY x)=its.any (gY x) by simp,oV r fs]
  exact q
 ·obtain⟨its,r,pl,hz⟩:=I.tuple hq
  refine SeqAt.notIn_tupleAt (gY x) pl (fun w hw=>oW rx fx r fs w (by simpa using hw)) ⟨.bl _,H,I,rfl,?_⟩
  rw[show its.toArray.any (gY x)=its.any (gY x) by simp,oV r fs]
  exact q
theorem QL:eD X (.builtin "len") (fun xs H Q=>∃ p ys,xs=[.ref p]/\(bQ X.K H p ys\/cD X.K H p ys)/\Q (.int ys.length) H):=by
 intro pins s σ H xs us Q I r h
 obtain⟨p,ys,rfl,hq,q⟩:=h
 obtain⟨u,rfl,rx⟩:=vals1 r
 cases rx
 have hn:=mB
 rcases hq with hq | hq
 ·obtain⟨its,r',pl,hz⟩:=I.list hq
  have hlen:=r'.length
  exact Calls.call_len_list pl.isList (by simp only[Aw] <;> lia) ⟨.int ys.length,H,I.tok _,⟨s.toks + 1,by rw[Aw,hlen]⟩,q⟩
 ·obtain⟨its,r',pl,hz⟩:=I.tuple hq
  have hlen:=r'.length
  exact len_tuple pl (by simp only[Aw] <;> lia) ⟨.int ys.length,H,I.tok _,⟨s.toks + 1,by rw[Aw,hlen]⟩,q⟩
theorem QN:eD X (.builtin "len") (fun xs H Q=>∃ z,xs=[.str z]/\z.length<=Ak/\Q (.int z.length) H):=by
 intro pins s σ H xs us Q I r h
 obtain⟨z,rfl,hz,q⟩:=h
 obtain⟨u,rfl,t,rfl⟩:=vals1 r
 have hn:=mB
 exact len_str (by lia) ⟨.int z.length,H,I.tok _,⟨_,rfl⟩,q⟩
theorem eD.or{f:Ae}{r r':List V->Hp->VK->Prop}(h:eD X f r)(h':eD X f r'):eD X f (fun xs H Q=>r xs H Q\/r' xs H Q):=by
 intro pins s σ H xs us Q I rs q
 rcases q with q | q
 ·exact h pins s σ H xs us Q I rs q
 ·exact h' pins s σ H xs us Q I rs q
theorem QO:eD X (.type "list") (fun xs H Q=>∃ p ys,xs=[.ref p]/\(bQ X.K H p ys\/cD X.K H p ys)/\∀ l,H l=none->Q (.ref l) (aR H l (.lst ys))):=by
 intro pins s σ H xs us Q I r h
 obtain⟨p,ys,rfl,hq,q⟩:=h
 obtain⟨u,rfl,rx⟩:=vals1 r
 cases rx
 have fin:∀ (its:List Ae),a5 ys its->ys.length<=Ak->∀ (h':Heap) (c':Nat),(∀ b o',s.heap.get? b=some o'->h'.get? b=some o')->
   h'.get? s.heap.objs.size=some {cls:=.type "list",dict:=none,data:=.seq its.toArray c',slots:=#[]}->EP X pins σ Q (.ref s.heap.objs.size) {s with heap:=h'}:=fun its r' hz h' c' kp e=>
  ⟨.ref s.heap.objs.size,_,I.laid (t':=s.toks) kp (Ai _) (show c9 X.prog X.w _ h' _ (.lst ys) from⟨hz,its,c',r',e⟩),rfl,q _ (I.hok.fresh (Ai _))⟩
 rcases hq with hq | hq
 ·obtain⟨its,r',pl,hz⟩:=I.list hq
  have hlen:=r'.length
  obtain⟨o,ho,hc,n,hd⟩:=pl.isList
  exact call_list_seq p (.inl rfl) ho hc hd (fun h' c' kp e=>fin its r' hz h' c' kp e) (by simp only[Aw] <;> lia)
 ·obtain⟨its,r',pl,hz⟩:=I.tuple hq
  have hlen:=r'.length
  obtain⟨o,ho,hc,n,hd⟩:=pl
  exact call_list_seq p (.inr rfl) ho hc hd (fun h' c' kp e=>fin its r' hz h' c' kp e) (by simp only[Aw] <;> lia)
theorem QP:eD X (.type "tuple") (fun xs H Q=>∃ p ys,xs=[.ref p]/\((bQ X.K H p ys/\∀ l,H l=none->Q (.ref l) (aR H l (.tup ys)))\/(cD X.K H p ys/\Q (.ref p) H))):=by
 intro pins s σ H xs us Q I r h
 obtain⟨p,ys,rfl,h⟩:=h
 obtain⟨u,rfl,rx⟩:=vals1 r
 cases rx
 rcases h with⟨hq,q⟩ | ⟨hq,q⟩
 ·obtain⟨its,r',pl,hz⟩:=I.list hq
  have hlen:=r'.length
  refine call_tuple_list pl.isList (fun h' kp=>?_) (by simp only[Aw] <;> lia)
  have I1:Inv X pins σ H {s with heap:=h'}:=I.kept (t':=s.toks) kp
  have I2:Inv X pins σ (aR H h'.objs.size (.tup ys)) {s with heap:=h'.push {cls:=.type "tuple",data:=.seq its.toArray}}:=
   I1.laid (t':=s.toks) (fun b o e=>Aj _ e) (Ai _) (show c9 X.prog X.w _ _ _ (.tup ys) from⟨hz,its,r',IsTup.new _ _⟩)
  exact⟨.ref h'.objs.size,_,I2,rfl,q _ (I1.hok.fresh (Ai _))⟩
 ·obtain⟨its,r',pl,hz⟩:=I.tuple hq
  exact call_tuple_same pl ⟨.ref p,H,I,rfl,q⟩
def rA(K:Ab)(T:String)(x:V)(H:Hp):Prop:=match x with
 | .str _=>T = "str"
 | .int _=>T = "int"
 | .ref p=>(T = "list"/\∃ xs,bQ K H p xs)\/(T = "tuple"/\∃ o,K.lookup p=some o/\o.cls=.type "tuple"/\o.dict=none)\/
   (T = "dict"/\((∃ kvs,Rd H p (.dK kvs))\/∃ kvs,Rd H p (.dT kvs)))\/(T = "set"/\∃ S n,H p=some (.set S n))
 | _=>False
theorem DO{pins:List (Addr×Obj)}{σ:St}{H:Hp}{s:Ag}{T:String}{x:V}{v:Ae}(I:Inv X pins σ H s)(r:RelV x v)(ty:rA X.K T x H) :
  s.TypeIs v T/\∀ a,v=.ref a->∃ ob,s.heap.get? a=some ob/\ob.dict=none:=by
 cases x with
 | str z=>
  obtain⟨t,rfl⟩:=r
  cases (show T = "str" from ty)
  exact⟨typeIs_str s z t,fun _ e=>nomatch e⟩
 | int i=>
  obtain⟨t,rfl⟩:=r
  cases (show T = "int" from ty)
  exact⟨typeIs_int s i t,fun _ e=>nomatch e⟩
 | ref p=>
  cases r
  rcases ty with⟨rfl,xs,hq⟩ | ⟨rfl,o,hk,hc,hd⟩ | ⟨rfl,hk⟩ | ⟨rfl,S,n,hk⟩
  ·obtain⟨its,_,pl,_⟩:=I.list hq
   refine⟨pl.isList.typeIs,fun a e=>?_⟩
   cases e
   obtain⟨o,n,e,c,hd,_⟩:=pl
   exact⟨o,e,hd⟩
  ·refine⟨⟨o,I.kIn p o hk,hc⟩,fun a e=>?_⟩
   cases e
   exact⟨o,I.kIn _ o hk,hd⟩
  ·have z:∃ o,s.heap.get? p=some o/\o.ExactDict:=by
    rcases hk with⟨kvs,hk⟩ | ⟨kvs,hk⟩
    ·obtain⟨_,_,_,_,o,_,_,e,ex,_⟩:=hk.ok I.hok
     exact⟨o,e,ex⟩
    ·obtain⟨_,_,_,_,o,_,_,e,ex,_⟩:=hk.ok I.hok
     exact⟨o,e,ex⟩
   obtain⟨o,e,ex⟩:=z
   refine⟨⟨o,e,ex.1⟩,fun a e2=>?_⟩
   cases e2
   exact⟨o,e,ex.2.1⟩
  ·obtain⟨o,_,_,_,e,ex,_⟩:=I.hok p _ hk
   refine⟨⟨o,e,ex.1⟩,fun a e2=>?_⟩
   cases e2
   exact⟨o,e,ex.2.1⟩
 | _=>exact Du ty
def QQ(K:Ab)(T:String)(r:V->List V->Hp->VK->Prop)(to:TE):TE:=fun σ H Q=>to σ H fun x H1=>rA K T x H1/\r x [] H1 Q
def QS(K:Ab)(T:String)(r:V->List V->Hp->VK->Prop)(to:TE)(t:TA):TE:=fun σ H Q=>to σ H fun x H1=>rA K T x H1/\t σ H1 fun xs H2=>r x xs H2 Q
variable {o e:Expr}{es:List Expr}{to:TE}{t:TA}{name:Str}{apos cpos:Pos}{T id:String}{r:V->List V->Hp->VK->Prop}
theorem QT(pa:PlainAttrs T)(slot:Slot T name id)(hty:typeOf (.builtin id)=pure (.type "method_descriptor"))(hm:iX X id r)(ho:PE X o to)
  (hbase:Ik o name X.env (eval o X.env)=eval o X.env:=by rfl) (hline:(apos.endLine == cpos.line)=true:=by rfl):PE X (.Call (.Attribute o name apos) [] [] cpos) (QQ X.K T r to):=by
 intro pins s σ H Q I h
 refine wpAny_Call_method0_late hbase hline (a8 (ho pins s σ H _ I h) fun v s1 ⟨x,H1,I1,r1,ty,q1⟩=>?_)
 obtain⟨h1,h2⟩:=DO I1 r1 ty
 exact⟨T,id,pa,slot,hty,h1,h2,Calls.callWith_builtin rfl (PySem.evalArgs_none (hm pins s1 σ H1 x [] v [] Q I1 r1 .nil q1))⟩
theorem QU(pa:PlainAttrs T)(slot:Slot T name id)(hty:typeOf (.builtin id)=pure (.type "method_descriptor"))(hm:iX X id r)(ho:PE X o to)(ha:PA X (e :: es) t)
  (hbase:Ik o name X.env (eval o X.env)=eval o X.env:=by rfl)
  (hfew:((Gf cpos (Bg (e :: es) X.env)).all (fun x=>!x.1) && (backToKw cpos (Kw [] X.env)).all (fun x=>x.1.isSome)
   && decide ((e :: es).length + ([]:List Keyword).length + (if ([]:List Keyword).isEmpty then 0 else 1) < 30))=true:=by rfl)
  (hline:(apos.endLine == cpos.line)=true:=by rfl) (hs:Bg (e :: es) X.env=(false,eval e X.env) :: Bg es X.env:=by rfl) (hplain:(Gf cpos (Bg es X.env)).any (·.1)=false:=by rfl) :
  PE X (.Call (.Attribute o name apos) (e :: es) [] cpos) (QS X.K T r to t):=by
 intro pins s σ H Q I h
 refine wpAny_Call_method_late hbase hfew hline rfl (a8 (ho pins s σ H _ I h) fun v s1 ⟨x,H1,I1,r1,ty,q1⟩=>?_)
 obtain⟨h1,h2⟩:=DO I1 r1 ty
 refine⟨T,id,pa,slot,hty,h1,h2,?_⟩
 have hA:=ha cpos pins s1 σ H1 _ I1 q1
 rw[hs] at hA ⊢
 refine Calls.callWith_builtin (by show(false || (Gf cpos (Bg es X.env)).any (·.1))=false;rw[hplain] <;> rfl) (Calls.evalArgs_plain ?_)
 exact a8 hA fun us s2 ⟨vs,H2,I2,r2,q2⟩=>hm pins s2 σ H2 x vs v us Q I2 r1 r2 q2
end
def rB(X:Cx)(id:String)(r:V->List V->Hp->VK->Prop):Prop:=
 ∀ (pins:List (Addr×Obj)) (s:Ag) (σ:St) (H:Hp) (x:V) (xs:List V) (v:Ae) (us:List Ae) (Q:VK),Inv X pins σ H s->RelV x v->a5 xs us->r x xs H Q->
  Bh (Bq X.prog X.w) X.A (call (.builtin id) (v :: us)) (EP X pins σ Q) X.xe s
theorem a5.one:∀ {x:V} {us:List Ae},a5 [x] us->∃ u,us=[u]/\RelV x u
 | _,_,.cons r .nil=>⟨_,rfl,r⟩
theorem a5.zero:∀ {us:List Ae},a5 [] us->us=[]
 | _,.nil=>rfl
theorem a5.dropLast{xs:List V}{us:List Ae}(h:a5 xs us):a5 xs.dropLast us.dropLast:=by
 induction h with
 | nil=>exact .nil
 | cons r t ih=>
  cases t with
  | nil=>exact .nil
  | cons q t'=>exact .cons r ih
theorem a5.rep{xs:List V}{us:List Ae}(h:a5 xs us):∀ k:Nat,a5 (Bw k xs).flatten (Bw k us).flatten
 | 0=>.nil
 | k + 1=>by
  rw[Fq,Fq,Ex,Ex]
  exact a5.append h (a5.rep h k)
theorem QV{α:Type}(l:List α):l.eraseIdx (l.length - 1)=l.dropLast:=by
 induction l with
 | nil=>rfl
 | cons a r ih=>
  cases r with
  | nil=>rfl
  | cons b r=>
   have e:(a :: b :: r).length - 1=((b :: r).length - 1) + 1:=by
    have h1:(a :: b :: r).length=r.length + 2:=rfl
    have h2:(b :: r).length=r.length + 1:=rfl
    lia
   rw[e,List.eraseIdx_cons_succ,ih]
   all_goals rfl
theorem foldl_rep(its:List Ae):∀ (k:Nat) (acc:List Ae),
  List.foldl (fun x1 x2=>x1 ++ x2) acc.toArray (Bw k its.toArray)=(acc ++ (Bw k its).flatten).toArray
 | 0,acc=>by simp
 | k + 1,acc=>by
  have e:acc.toArray ++ its.toArray=(acc ++ its).toArray:=by simp
  have e2:(acc ++ its) ++ (Bw k its).flatten=acc ++ (Bw (k + 1) its).flatten:=by
   rw[Fq,Ex,Dl]
  rw[<-e2,<-foldl_rep its k (acc ++ its),<-e,Fq,Dz]
section
variable {X:Cx}{pins:List (Addr×Obj)}{σ:St}{H:Hp}{s:Ag}{l b:Addr}{xs ys zs:List V}
theorem Inv.lset{its its':List Ae}{n:Nat}{f:Array Ae->Array Ae}{t':Nat}(I:Inv X pins σ H s)(hH:H l=some (.lst xs))
  (e:s.heap.get? l=some {cls:=.type "list",data:=.seq its.toArray n}) (hf:f its.toArray=its'.toArray) (hv:a5 ys its') (hz:ys.length<=Ak) :
  Inv X pins σ (aR H l (.lst ys)) {s with heap:=s.heap.update l (Jy f),toks:=t'}:=by
 have q:=PySem.IsL.update e f
 rw[hf] at q
 refine I.write (x:=l) (e:=l) (by rw[hH];exact trivial) (.inl rfl) (fun b' u hb hu=>(Gw s.heap (Jy f) (Cg hb)).trans hu) ⟨_,q⟩ ?_
 exact⟨hz,its',_,hv,q⟩
theorem Inv.lnew{its:List Ae}{t':Nat}(I:Inv X pins σ H s)(hv:a5 ys its)(hz:ys.length<=Ak) :
  Inv X pins σ (aR H s.heap.objs.size (.lst ys)) {s with heap:=s.heap.push {cls:=.type "list",data:=.seq its.toArray},toks:=t'}:=
 I.laid (fun _ _ q=>Aj _ q) (Ai _) ⟨hz,its,0,hv,Bd _ rfl⟩
theorem Inv.fresh(I:Inv X pins σ H s):H s.heap.objs.size=none:=I.hok.fresh (Ai _)
theorem Inv.lstM(I:Inv X pins σ H s)(hH:H l=some (.lst xs)):xs.length<=Ak/\∃ (its:List Ae) (n:Nat),a5 xs its/\xs.length=its.length/\s.heap.get? l=some {cls:=.type "list",data:=.seq its.toArray n}:=by
 obtain⟨z,its,n,r,e⟩:=I.hok l _ hH
 exact⟨z,its,n,r,r.length,e⟩
theorem DP{n:Nat}(h:n<=Ak):Hg n=false:=by
 unfold Hg
 exact decide_eq_false (by lia)
end
section
variable {X:Cx}
def rAppend:V->List V->Hp->VK->Prop:=fun x vs H Q=>∃ l xs y,x=.ref l/\vs=[y]/\H l=some (.lst xs)/\xs.length < Ak/\Q .non (aR H l (.lst (xs ++ [y])))
theorem DQ:rB X "list.append" rAppend:=by
 intro pins s σ H x vs v us Q I rx rv h
 obtain⟨l,xs,y,rfl,rfl,hH,hz,q⟩:=h
 cases rx
 obtain⟨u,rfl,ru⟩:=rv.one
 obtain⟨z,its,n,r,hl,e⟩:=I.lstM hH
 refine Jn Cb ⟨_,e,rfl⟩ F.entry_list_append (F.args_list_append_2 _ _) (PySem.list_append l its.toArray n u (by rw[Aw];lia)) ⟨e,?_⟩
 refine⟨.non,_,I.lset (its':=its ++ [u]) hH e (by simp) (r.append (.cons ru .nil)) ?_,rfl,q⟩
 rw[Af,Bl]
 lia
def rExtend:V->List V->Hp->VK->Prop:=fun x vs H Q=>∃ l b xs zs,x=.ref l/\vs=[.ref b]/\H l=some (.lst xs)/\H b=some (.lst zs)/\xs.length + zs.length<=Ak/\Q .non (aR H l (.lst (xs ++ zs)))
theorem DR:rB X "list.extend" rExtend:=by
 intro pins s σ H x vs v us Q I rx rv h
 obtain⟨l,b,xs,zs,rfl,rfl,hH,hB,hz,q⟩:=h
 cases rx
 obtain⟨u,rfl,ru⟩:=rv.one
 cases ru
 obtain⟨z,its,n,r,hl,e⟩:=I.lstM hH
 obtain⟨z2,its2,n2,r2,hl2,e2⟩:=I.lstM hB
 have hsz:its.toArray.size + its2.toArray.size<=Ak:=by rw[Aw,Aw];lia
 have hlong:¬ (!its.toArray.isEmpty && Hg (its.toArray.size + its2.toArray.size))=true:=by
  rw[DP hsz,Bool.and_false]
  exact Ap
 refine Jn F.slot_list_extend ⟨_,e,rfl⟩ F.entry_list_extend (F.args_list_extend_2 _ _)
  (AutoSeq1.list_extend_list_list_0 l its.toArray n b its2.toArray n2 hlong (by rw[Aw];lia) (by lia)) ⟨e,e2,?_⟩
 refine⟨.non,_,I.lset (its':=its ++ its2) hH e (by simp) (r.append r2) ?_,rfl,q⟩
 rw[Af]
 lia
def rPop:V->List V->Hp->VK->Prop:=fun x vs H Q=>∃ l xs y,x=.ref l/\vs=[]/\H l=some (.lst xs)/\xs[xs.length - 1]? = some y/\Q y (aR H l (.lst xs.dropLast))
theorem QW:rB X "list.pop" rPop:=by
 intro pins s σ H x vs v us Q I rx rv h
 obtain⟨l,xs,y,rfl,rfl,hH,hy,q⟩:=h
 cases rx
 have hus:=rv.zero
 subst hus
 obtain⟨z,its,n,r,hl,e⟩:=I.lstM hH
 obtain⟨u,hu,ru⟩:=r.get hy
 have hy':its.toArray[its.toArray.size - 1]? = some u:=by
  show its.toArray[its.length - 1]? = some u
  rw[<-Ga,<-hl]
  exact hu
 refine Jn Ll ⟨_,e,rfl⟩ F.entry_list_pop (F.args_list_pop_1 _) (MeetsSeq.list_pop_last l its.toArray n u hy' (by rw[Aw];lia)) ⟨e,?_⟩
 refine⟨y,_,I.lset (its':=its.dropLast) hH e ?_ r.dropLast ?_,ru,q⟩
 ·show its.toArray.eraseIdxIfInBounds (its.toArray.size - 1)=its.dropLast.toArray
  rw[Aw,List.eraseIdxIfInBounds_toArray,QV]
 ·rw[List.length_dropLast]
  lia
def QX:R2:=fun x y H Q=>∃ l b xs zs,x=.ref l/\y=.ref b/\H l=some (.lst xs)/\H b=some (.lst zs)/\xs.length + zs.length<=Ak/\∀ p,H p=none->Q (.ref p) (aR H p (.lst (xs ++ zs)))
theorem QY:bD X (Fe .Add) QX:=by
 intro pins s σ H x y v u Q I rx ry h
 obtain⟨l,b,xs,zs,rfl,rfl,hH,hB,hz,q⟩:=h
 cases rx
 cases ry
 obtain⟨z,its,n,r,hl,e⟩:=I.lstM hH
 obtain⟨z2,its2,n2,r2,hl2,e2⟩:=I.lstM hB
 refine PySem.P.add_list e e2 ?_ (by rw[Aw,Aw];lia)
 have ea:its.toArray ++ its2.toArray=(its ++ its2).toArray:=by simp
 rw[ea]
 exact⟨.ref _,_,I.lnew (t':=s.toks) (r.append r2) (by rw[Af];lia),rfl,q _ I.fresh⟩
def QZ:R2:=fun x y H Q=>∃ l k xs,x=.ref l/\y=.int k/\H l=some (.lst xs)/\-(2 ^ 63)<=k/\k < 2 ^ 63/\xs.length * k.toNat<=Ak/\
 ∀ p,H p=none->Q (.ref p) (aR H p (.lst (Bw k.toNat xs).flatten))
theorem Q1{α:Type}(xs:List α)(k:Nat):(Bw k xs).flatten.length=k * xs.length:=by
 induction k with
 | zero=>simp
 | succ k ih=>rw[Fq,Ex,Af,ih,Nat.succ_mul,Nat.add_comm]
theorem Q2:bD X (Fe .Mult) QZ:=by
 intro pins s σ H x y v u Q I rx ry h
 obtain⟨l,k,xs,rfl,rfl,hH,h1,h2,hz,q⟩:=h
 cases rx
 obtain⟨t,rfl⟩:=ry
 obtain⟨z,its,n,r,hl,e⟩:=I.lstM hH
 have hlen:its.toArray.size * k.toNat<=Ak:=by rw[Aw,<-hl];exact hz
 have hcap:¬ its.toArray.size * k.toNat > (2 ^ 63 - 1) / 8:=by
  have:(Ak:Nat)<=(2 ^ 63 - 1) / 8:=by decide
  lia
 have hfit:¬ (!Builtin.List.listFitsIndex k)=true:=by
  rw[fitsIndex_both h1 h2]
  exact Ap
 have hlong:¬ Hg (its.toArray.size * k.toNat)=true:=by
  rw[DP hlen]
  exact Ap
 have hnew:List.foldl (fun x1 x2=>x1 ++ x2) #[] (Bw (if its.toArray.isEmpty=true then 0 else k.toNat) its.toArray)=(Bw k.toNat its).flatten.toArray:=by
  have f0:∀ m:Nat,List.foldl (fun x1 x2=>x1 ++ x2) #[] (Bw m its.toArray)=(Bw m its).flatten.toArray:=fun m=>by
   have:=foldl_rep its m []
   rw[Eh] at this
   exact this
  rw[f0]
  cases its with
  | nil=>simp
  | cons a r'=>rw[if_neg (by simp)]
 refine wpAny_binaryOp_repeat_ref (T:="list") (U:="int") (by decide) ⟨_,e,rfl⟩ (fun s'=>typeIs_int s' k t) noFill_list_mul F.fills_int_mul F.slot_int_rmul repeat_list F.slot_int_index.lookup
  (Jn F.slot_int_rmul (typeIs_int s k t) F.entry_int_rmul (F.args_int_rmul_2 _ _) (int___rmul___int_list k t l its.toArray n)
   ⟨e,rfl,⟨_,e,rfl⟩,Jn F.slot_list_mul ⟨_,e,rfl⟩ F.entry_list_mul (F.args_list_mul_2 _ _) (AutoListH.list___mul___list_int_3 l its.toArray n k t hfit hcap hlong) ⟨e,?_⟩⟩)
 rw[hnew]
 exact⟨.ref _,_,I.lnew (t':=s.toks) (r.rep k.toNat) (by rw[Q1,Nat.mul_comm];exact hz),rfl,q _ I.fresh⟩
end
section
variable {κ:Type}[DecidableEq κ]
def gA(kvs:List (κ×V))(k:κ):Option V:=(kvs.find? fun kv=>decide (kv.1=k)).map (·.2)
def eY(kvs:List (κ×V))(k:κ)(v:V):List (κ×V):=
 if (kvs.any fun kv=>decide (kv.1=k))=true then kvs.map (fun kv=>if kv.1=k then(kv.1,v) else kv) else kvs ++ [(k,v)]
def mE(kvs:List (κ×V))(k:κ):List (κ×V):=kvs.filter fun kv=>decide (kv.1≠k)
theorem rC{p:κ×V}{r:List (κ×V)}{k:κ}(e:p.1=k):gA (p :: r) k=some p.2:=by simp[gA,Fc,e]
theorem rD{p:κ×V}{r:List (κ×V)}{k:κ}(e:¬ p.1=k):gA (p :: r) k=gA r k:=by simp[gA,Fc,e]
theorem DS(k:κ):∀ kvs:List (κ×V),(kvs.any fun kv=>decide (kv.1=k))=(gA kvs k).isSome
 | []=>rfl
 | p :: r=>by
  rw[Fw]
  by_cases e:p.1=k
  ·simp only[rC e,decide_eq_true e,Bool.true_or,Option.isSome_some]
  ·rw[rD e,decide_eq_false e,Bool.false_or];exact DS k r
theorem oX(kvs:List (κ×V))(k:κ)(v:V):(eY kvs k v).length<=kvs.length + 1:=by
 unfold eY
 split
 ·rw[Aa];lia
 ·rw[Af,Ar,Fm];lia
theorem fU.isSome_eq{o:Option V}{u:Option Ae}(r:fU o u):o.isSome=u.isSome:=by
 cases o with
 | none=>cases u with
  | none=>rfl
  | some _=>exact(show False from r).elim
 | some _=>cases u with
  | none=>exact(show False from r).elim
  | some _=>rfl
theorem fU.getD{o:Option V}{u:Option Ae}{d:V}{d':Ae}(r:fU o u)(rd:RelV d d'):RelV (o.getD d) (u.getD d'):=by
 cases o with
 | none=>cases u with
  | none=>exact rd
  | some _=>exact(show False from r).elim
 | some _=>cases u with
  | none=>exact(show False from r).elim
  | some _=>exact r
theorem KV.val{kvs:List (κ×V)}{vs:List (κ×Ae)}(r:KV kvs vs)(k:κ):fU (gA kvs k) (valueAt vs k):=by
 unfold KV at r
 induction r with
 | nil=>exact True.intro
 | @cons p q ps qs h t ih=>
  obtain⟨h1,h2⟩:=h
  by_cases e:p.1=k
  ·have e':q.1=k:=h1.symm.trans e
   have b:valueAt (q :: qs) k=some q.2:=by simp[valueAt,Fc,e']
   rw[rC e,b];exact h2
  ·have e':¬ q.1=k:=fun z=>e (h1.trans z)
   have b:valueAt (q :: qs) k=valueAt qs k:=by simp[valueAt,Fc,e']
   rw[rD e,b];exact ih
theorem KV.any{kvs:List (κ×V)}{vs:List (κ×Ae)}(r:KV kvs vs)(k:κ):(kvs.any fun kv=>decide (kv.1=k))=vs.any fun kv=>decide (kv.1=k):=by
 unfold KV at r
 induction r with
 | nil=>rfl
 | cons h t ih=>rw[Fw,Fw,ih,h.1]
theorem KV.repl{kvs:List (κ×V)}{vs:List (κ×Ae)}(r:KV kvs vs)(k:κ){y:V}{u:Ae}(ry:RelV y u) :
  KV (kvs.map fun kv=>if kv.1=k then(kv.1,y) else kv) (vs.map fun kv=>if kv.1=k then(kv.1,u) else kv):=by
 unfold KV at r ⊢
 induction r with
 | nil=>exact .nil
 | @cons p q ps qs h t ih=>
  rw[Bc,Bc]
  refine .cons ?_ ih
  obtain⟨h1,h2⟩:=h
  by_cases e:p.1=k
  ·rw[if_pos e,if_pos (h1.symm.trans e)];exact⟨h1,ry⟩
  ·rw[if_neg e,if_neg (fun z=>e (h1.trans z))];exact⟨h1,h2⟩
theorem KV.put{kvs:List (κ×V)}{vs:List (κ×Ae)}(r:KV kvs vs)(k:κ){y:V}{u:Ae}(ry:RelV y u):KV (eY kvs k y) (stored vs k u):=by
 unfold eY stored
 rw[r.any k]
 by_cases e:(vs.any fun kv=>decide (kv.1=k))=true
 ·rw[if_pos e,if_pos e];exact r.repl k ry
 ·rw[if_neg e,if_neg e];exact Paired.snoc r ⟨rfl,ry⟩
theorem KV.length{kvs:List (κ×V)}{vs:List (κ×Ae)}(r:KV kvs vs):kvs.length=vs.length:=Dw r
theorem Q3(kvs:List (κ×V))(k:κ):(mE kvs k).length<=kvs.length:=Hd _ _
end
theorem lE{P:Bu}{w:Cm}{k:aG}{u:Ae}(r:RelV (kV k) u):(dD P w).is k u=true:=by
 cases k with
 | inl i=>obtain⟨t,e⟩:=(show ∃ t,u=Value.int i t from r);subst e;exact LX P w i t
 | inr x=>obtain⟨t,e⟩:=(show ∃ t,u=Value.str x t from r);subst e;exact LY P w x t
theorem DT{P:Bu}{w:Cm}:∀ {ks:List aG} {us:List Ae},a5 (ks.map kV) us->ItemsAre (dD P w) ks us
 | [],_,r=>by rw[Jp] at r;cases r;exact .nil
 | k :: ks,_,r=>by
  rw[Bc] at r
  cases r with
  | cons h t=>exact .cons (lE h) (DT t)
abbrev KT(H:Hp):List (List aG×V)->List (List aG×Addr×Ae)->Prop:=Fn fun p q=>p.1=q.1/\H q.2.1=some (.tup (p.1.map kV))/\RelV p.2 q.2.2
theorem KT.val{H:Hp}{kvs:List (List aG×V)}{xs:List (List aG×Addr×Ae)}(r:KT H kvs xs)(k:List aG):fU (gA kvs k) ((Lf xs k).map (·.2)):=by
 induction r with
 | nil=>exact True.intro
 | @cons p q ps qs h t ih=>
  obtain⟨h1,_,h2⟩:=h
  by_cases e:p.1=k
  ·have e':q.1=k:=h1.symm.trans e
   have b:Lf (q :: qs) k=some q.2:=by simp[Lf,Fc,e']
   rw[rC e,b];exact h2
  ·have e':¬ q.1=k:=fun z=>e (h1.trans z)
   have b:Lf (q :: qs) k=Lf qs k:=by simp[Lf,Fc,e']
   rw[rD e,b];exact ih
theorem KT.repl{H:Hp}{kvs:List (List aG×V)}{xs:List (List aG×Addr×Ae)}(r:KT H kvs xs)(k:List aG){y:V}{u:Ae}(ry:RelV y u) :
  KT H (kvs.map fun kv=>if kv.1=k then(kv.1,y) else kv) (xs.map (putAt k u)):=by
 induction r with
 | nil=>exact .nil
 | @cons p q ps qs h t ih=>
  rw[Bc,Bc]
  refine .cons ?_ ih
  obtain⟨h1,h2,h3⟩:=h
  unfold putAt
  by_cases e:p.1=k
  ·rw[if_pos e,if_pos (h1.symm.trans e)];exact⟨h1,h2,ry⟩
  ·rw[if_neg e,if_neg (fun z=>e (h1.trans z))];exact⟨h1,h2,h3⟩
theorem KT.put{H:Hp}{kvs:List (List aG×V)}{xs:List (List aG×Addr×Ae)}(r:KT H kvs xs)(k:List aG){b:Addr}{y:V}{u:Ae}(hb:H b=some (.tup (k.map kV)))(ry:RelV y u) :
  KT H (eY kvs k y) (Mb xs k b u):=by
 have e:(kvs.any fun kv=>decide (kv.1=k))=(Lf xs k).isSome:=by
  rw[DS,(r.val k).isSome_eq,Jx]
 unfold eY Mb
 rw[e]
 by_cases q:(Lf xs k).isSome=true
 ·rw[if_pos q,if_pos q];exact r.repl k ry
 ·rw[if_neg q,if_neg q];exact Paired.snoc r ⟨rfl,hb,ry⟩
theorem KT.keeps{H H':Hp}{kvs:List (List aG×V)}{xs:List (List aG×Addr×Ae)}(r:KT H kvs xs)(ht:∀ b ys,H b=some (.tup ys)->H' b=some (.tup ys)):KT H' kvs xs:=
 Paired.mapP r fun _ _ z=>⟨z.1,ht _ _ z.2.1,z.2.2⟩
section
variable {P:Bu}{w:Cm}{H:Hp}{h:Heap}{a:Addr}
theorem DU{u:HO}(ok:cU P w H h)(e:Rd H a u):c9 P w H h a u:=e.ok ok
theorem lG{kvs:List (aG×V)}(ok:cU P w H h)(e:Rd H a (.dK kvs)):kvs.length<=Ak/\(a == Ft)=false/\∃ vs,KV kvs vs/\h.DictOf (dD P w) a vs:=
 show c9 P w H h a (.dK kvs) from DU ok e
theorem Q4{kvs:List (aG×V)}(ok:cU P w H h)(e:H a=some (.dK kvs)):kvs.length<=Ak/\(a == Ft)=false/\∃ vs,KV kvs vs/\h.DictOf (dD P w) a vs:=lG ok (.inl e)
theorem jG{ks:List aG}(ok:cU P w H h)(e:H a=some (.tup (ks.map kV))):(Fs (dD P w)).is h ks a:=by
 obtain⟨_,its,r,o,h1,h2,n,h3⟩:=(show c9 P w H h a (.tup (ks.map kV)) from ok a _ e)
 exact⟨o,its.toArray,n,h1,h2,h3,by simpa using DT r⟩
theorem mF{kvs:List (List aG×V)}(ok:cU P w H h)(e:Rd H a (.dT kvs)):kvs.length<=Ak/\(a == Ft)=false/\
  ∃ xs,KT H kvs xs/\h.DictOfH (Fs (dD P w)) a xs:=by
 obtain⟨z,y,xs,r,o,es,ep,h1,h2,h3,h4,h5⟩:=(show c9 P w H h a (.dT kvs) from DU ok e)
 refine⟨z,y,xs,r,o,es,ep,h1,h2,h3,h4,fun x hx=>?_,h5⟩
 have all:∀ {l:List (List aG×V)} {m:List (List aG×Addr×Ae)},KT H l m->∀ x∈m,(Fs (dD P w)).is h x.1 x.2.1:=by
  intro l m q
  induction q with
  | nil=>intro x hx;exact nomatch hx
  | @cons p q ps qs hq t ih=>
   intro x hx
   rcases Ay.mp hx with e | hx
   ·subst e
    exact jG ok (by rw[<-hq.1];exact hq.2.1)
   ·exact ih x hx
 exact all r x hx
theorem rE{kvs:List (List aG×V)}(ok:cU P w H h)(e:H a=some (.dT kvs)):kvs.length<=Ak/\(a == Ft)=false/\
  ∃ xs,KT H kvs xs/\h.DictOfH (Fs (dD P w)) a xs:=mF ok (.inl e)
end
def gZ(H:Hp)(a:Addr)(y:V)(r:Option V):Prop:=
 (∃ kvs k,Rd H a (.dK kvs)/\y=kV k/\r=gA kvs k)\/∃ kvs k b,Rd H a (.dT kvs)/\y=.ref b/\H b=some (.tup (k.map kV))/\r=gA kvs k
def lH(H:Hp)(a:Addr)(y v:V)(H':Hp):Prop:=
 (∃ kvs k,H a=some (.dK kvs)/\y=kV k/\kvs.length < Ak/\H'=aR H a (.dK (eY kvs k v)))\/
 ∃ kvs k b,H a=some (.dT kvs)/\y=.ref b/\H b=some (.tup (k.map kV))/\kvs.length < Ak/\H'=aR H a (.dT (eY kvs k v))
theorem lH.k{H:Hp}{a:Addr}{kvs:List (aG×V)}{k:aG}{v:V}(e:H a=some (.dK kvs))(hl:kvs.length < Ak):lH H a (kV k) v (aR H a (.dK (eY kvs k v))):=.inl ⟨kvs,k,e,rfl,hl,rfl⟩
theorem lH.t{H:Hp}{a b:Addr}{kvs:List (List aG×V)}{k:List aG}{v:V}(e:H a=some (.dT kvs))(eb:H b=some (.tup (k.map kV)))(hl:kvs.length < Ak) :
  lH H a (.ref b) v (aR H a (.dT (eY kvs k v))):=.inr ⟨kvs,k,b,e,rfl,eb,hl,rfl⟩
section
variable {X:Cx}{pins:List (Addr×Obj)}{σ:St}{H:Hp}{s:Ag}{a:Addr}{y v:V}{u r:Ae}{o:Option V}{A:Co}{E:Ae->Ag->Prop}
theorem Inv.big(I:Inv X pins σ H s):Ft < s.heap.objs.size:=by
 have h:De < s.heap.objs.size:=(I.mod.glob.keeps I.bk).lt
 exact Nat.lt_trans (by decide) h
theorem Q5{Q:Ae->Ag->Prop}(hu:A.units + 1 < Ff)(I:Inv X pins σ H s)(g:gZ H a y (some v))(ry:RelV y u)(h:∀ w' s',Inv X pins σ H s'->RelV v w'->Q w' s') :
  Bh (Bq X.prog X.w) A (getItem (.ref a) u) Q E s:=by
 rcases g with⟨kvs,k,e,ey,l⟩ | ⟨kvs,k,b,e,ey,eb,l⟩
 ·subst ey
  obtain⟨z,hd,vs,rel,dd⟩:=lG I.hok e
  obtain⟨w',hw,rw'⟩:=fU.some_of (v:=v) (o:=valueAt vs k) (by rw[l];exact rel.val k)
  exact wpAny_getItem_of (lE ry) dd.mapOf hw (h w' _ (I.tok _) rw')
 ·subst ey
  cases (show u=Value.ref b from ry)
  obtain⟨z,hd,xs,rel,dd⟩:=mF I.hok e
  obtain⟨w',hw,rw'⟩:=fU.some_of (v:=v) (o:=(Lf xs k).map (·.2)) (by rw[l];exact rel.val k)
  obtain⟨p,hp,hp2⟩:=Bk.mp hw
  refine wpAny_getItem_heap (Ep hu) (jG I.hok eb) dd hp ?_
  rw[hp2]
  exact h w' _ (I.tok _) rw'
theorem Q6{Q:Ae->Ag->Prop}(hu:A.units + 1 < Ff)(I:Inv X pins σ H s)(g:gZ H a y o)(ry:RelV y u)(h:∀ s',Inv X pins σ H s'->Q (.bool o.isSome) s') :
  Bh (Bq X.prog X.w) A (Ci .In u (.ref a)) Q E s:=by
 rcases g with⟨kvs,k,e,ey,l⟩ | ⟨kvs,k,b,e,ey,eb,l⟩
 ·subst ey
  obtain⟨z,hd,vs,rel,dd⟩:=lG I.hok e
  refine wpAny_in_of (lE ry) hd dd.mapOf ?_
  rw[<-(rel.val k).isSome_eq,<-l]
  exact h _ (I.tok _)
 ·subst ey
  cases (show u=Value.ref b from ry)
  obtain⟨z,hd,xs,rel,dd⟩:=mF I.hok e
  refine wpAny_in_heap (Ep hu) (jG I.hok eb) hd dd ?_
  have q:=(rel.val k).isSome_eq
  rw[Jx] at q
  rw[<-q,<-l]
  exact h _ (I.tok _)
theorem Q7{Q:Ae->Ag->Prop}(hu:A.units + 1 < Ff)(I:Inv X pins σ H s)(g:gZ H a y o)(ry:RelV y u)(h:∀ s',Inv X pins σ H s'->Q (.bool (!o.isSome)) s') :
  Bh (Bq X.prog X.w) A (Ci .NotIn u (.ref a)) Q E s:=by
 rcases g with⟨kvs,k,e,ey,l⟩ | ⟨kvs,k,b,e,ey,eb,l⟩
 ·subst ey
  obtain⟨z,hd,vs,rel,dd⟩:=lG I.hok e
  refine wpAny_notIn_of (lE ry) hd dd.mapOf ?_
  rw[<-(rel.val k).isSome_eq,<-l]
  exact h _ (I.tok _)
 ·subst ey
  cases (show u=Value.ref b from ry)
  obtain⟨z,hd,xs,rel,dd⟩:=mF I.hok e
  refine wpAny_notIn_heap (Ep hu) (jG I.hok eb) hd dd ?_
  have q:=(rel.val k).isSome_eq
  rw[Jx] at q
  rw[<-q,<-l]
  exact h _ (I.tok _)
theorem oY{h':Heap}{t':Nat}{ob:HO}(I:Inv X pins σ H s)(mu:oO (H a))(hs:Ei a s.heap h')(he:∃ q,h'.get? a=some q)(new:c9 X.prog X.w (aR H a ob) h' a ob) :
  Inv X pins σ (aR H a ob) {s with heap:=h',toks:=t'}:=
 I.write (x:=a) (e:=a) mu (.inl rfl) (fun b q hb z=>(hs.2 b hb).trans z) he new
theorem Q8{P:Bu}{w:Cm}{H':Hp}{h':Heap}{kvs:List (aG×V)}{vs:List (aG×Ae)}(z:kvs.length<=Ak)(hd:(a == Ft)=false)(rel:KV kvs vs)(dd:h'.DictOf (dD P w) a vs) :
  c9 P w H' h' a (.dK kvs):=⟨z,hd,vs,rel,dd⟩
theorem Q9{H':Hp}{Q:Unit->Ag->Prop}(hu:A.units + 1 < Ff)(I:Inv X pins σ H s)(g:lH H a y v H')(ry:RelV y u)(rv:RelV v r)(h:∀ s',Inv X pins σ H' s'->Q () s') :
  Bh (Bq X.prog X.w) A (setItem (.ref a) u r) Q E s:=by
 rcases g with⟨kvs,k,e,ey,l,eH⟩ | ⟨kvs,k,b,e,ey,eb,l,eH⟩
 ·subst ey eH
  obtain⟨z,hd,vs,rel,dd⟩:=Q4 I.hok e
  have hz:vs.length<=Ak:=by rw[<-rel.length];exact z
  have hl:(eY kvs k v).length<=Ak:=by have:=oX kvs k v;lia
  refine wpAny_setItem_pairs (hsz:=hz) (lE ry) dd fun h' dd' hs=>h _ ?_
  have he:∃ q,h'.get? a=some q:=let ⟨q,_,_,hq,_⟩:=dd';⟨q,hq⟩
  exact oY I (by rw[e];exact True.intro) hs he (Q8 hl hd (rel.put k rv) dd')
 ·subst ey eH
  cases (show u=Value.ref b from ry)
  obtain⟨z,hd,xs,rel,dd⟩:=rE I.hok e
  have hz:xs.length<=Ak:=by rw[<-Dw rel];exact z
  have hl:(eY kvs k v).length<=Ak:=by have:=oX kvs k v;lia
  refine wpAny_setItem_heap (hsz:=hz) (Ep hu) (jG I.hok eb) dd fun h' dd' hs=>h _ ?_
  obtain⟨q,es,ep,hq,h2,h3,h4,_,h5⟩:=dd'
  refine oY I (by rw[e];exact True.intro) hs ⟨q,hq⟩ ⟨hl,hd,_,(rel.put k eb rv).keeps fun c ys ec=>?_,q,es,ep,hq,h2,h3,h4,h5⟩
  rw[bG (qO ec e (fun z=>nomatch z))]
  exact ec
end
section
variable {X:Cx}{pins:List (Addr×Obj)}{σ:St}{H:Hp}{s:Ag}{a:Addr}{kvs:List (aG×V)}{k:aG}{u:Ae}{A:Co}{E:Ae->Ag->Prop}
theorem RA{Q:Ae->Ag->Prop}(I:Inv X pins σ H s)(e:Rd H a (.dK kvs))(h:∀ t s',Inv X pins σ H s'->Q (.int kvs.length t) s'):Bh (Bq X.prog X.w) A (call (.builtin "len") [.ref a]) Q E s:=by
 obtain⟨z,hd,vs,rel,dd⟩:=lG I.hok e
 refine call_len_dict hd dd (by rw[<-rel.length];rw[Kv] at z;lia) ?_
 rw[<-rel.length]
 exact h _ _ (I.tok _)
end
theorem RB{X:Cx}{pins:List (Addr×Obj)}{σ:St}{H:Hp}{s:Ag}{a:Addr}{y:V}{o:Option V}(I:Inv X pins σ H s)(g:gZ H a y o):s.TypeIs (.ref a) "dict":=by
 rcases g with⟨kvs,k,e,_,_⟩ | ⟨kvs,k,b,e,_,_,_⟩
 ·obtain⟨_,_,vs,_,dd⟩:=lG I.hok e
  exact dd.typeIs
 ·obtain⟨_,_,xs,_,dd⟩:=mF I.hok e
  exact dd.typeIs
theorem RC{P:Bu}{w:Cm}{H:Hp}(h:Heap)(hb:Ft < h.objs.size):c9 P w H (h.push {cls:=.type "dict",data:=.dict #[]}) h.objs.size (.dK []):=
 ⟨Cd _,beq_eq_false_iff_ne.mpr (Cg (Bo hb)),[],.nil,Heap.DictOf.new h⟩
theorem DV{P:Bu}{w:Cm}{H:Hp}(h:Heap)(hb:Ft < h.objs.size):c9 P w H (h.push {cls:=.type "dict",data:=.dict #[]}) h.objs.size (.dT []):=
 ⟨Cd _,beq_eq_false_iff_ne.mpr (Cg (Bo hb)),[],.nil,_,#[],0,Bd _ rfl,⟨rfl,rfl,rfl⟩,rfl,rfl,Gm⟩
def RD:TE:=fun _ H Q=>∀ p,H p=none->Q (.ref p) (aR H p (.dK []))
def RE:TE:=fun _ H Q=>∀ p,H p=none->Q (.ref p) (aR H p (.dT []))
section
variable {X:Cx}{pos:Pos}
theorem RF:PE X (.Dict [] [] pos) RD:=fun pins s σ H Q I h=>
 wpAny_Dict_empty ⟨.ref s.heap.objs.size,_,I.laid (a:=s.heap.objs.size) (o:=.dK []) (t':=s.toks) (fun _ _ q=>Aj _ q) (Ai _) (RC s.heap I.big),rfl,h _ (I.hok.fresh (Ai _))⟩
theorem RG:PE X (.Dict [] [] pos) RE:=fun pins s σ H Q I h=>
 wpAny_Dict_empty ⟨.ref s.heap.objs.size,_,I.laid (a:=s.heap.objs.size) (o:=.dT []) (t':=s.toks) (fun _ _ q=>Aj _ q) (Ai _) (DV s.heap I.big),rfl,h _ (I.hok.fresh (Ai _))⟩
end
def uZ:List (TE×TE)->St->Hp->(List (V×V)->Hp->Prop)->Prop
 | [],_,H,Q=>Q [] H
 | (tk,tv) :: r,σ,H,Q=>tk σ H fun x H1=>tv σ H1 fun y H2=>uZ r σ H2 fun ps H3=>Q ((x,y) :: ps) H3
abbrev VV:List (V×V)->List (Ae×Ae)->Prop:=Fn fun p q=>RelV p.1 q.1/\RelV p.2 q.2
def u0(X:Cx)(pos:Pos)(keys:List (Option Expr))(values:List Expr)(trs:List (TE×TE)):Prop:=
 ∀ (pins:List (Addr×Obj)) (s:Ag) (σ:St) (H:Hp) (Q:List (V×V)->Hp->Prop),Inv X pins σ H s->uZ trs σ H Q->
  Bh (Bq X.prog X.w) X.A (evalPairs (pairTrees keys values X.env pos)) (fun vs s'=>∃ ps H',Inv X pins σ H' s'/\VV ps vs/\Q ps H') X.xe s
theorem RH{X:Cx}{pos:Pos}:u0 X pos [] [] []:=fun pins s σ H Q I h=>pairTrees_nil_walk ⟨[],H,I,.nil,h⟩
theorem RI{X:Cx}{pos:Pos}{k v:Expr}{ks:List (Option Expr)}{vs:List Expr}{tk tv:TE}{trs:List (TE×TE)}(hk:PE X k tk)(hv:PE X v tv)(hr:u0 X pos ks vs trs) :
  u0 X pos (some k :: ks) (v :: vs) ((tk,tv) :: trs):=fun pins s σ H Q I h=>
 pairTrees_cons_walk (a8 (hk pins s σ H _ I h) fun u s1 ⟨x,H1,I1,rx,q1⟩=>a8 (hv pins s1 σ H1 _ I1 q1) fun w2 s2 ⟨y,H2,I2,ry,q2⟩=>
  a8 (hr pins s2 σ H2 _ I2 q2) fun ws s3 ⟨ps,H3,I3,rel,q3⟩=>⟨(x,y) :: ps,H3,I3,.cons ⟨rx,ry⟩ rel,q3⟩)
section
variable {X:Cx}{pins:List (Addr×Obj)}{σ:St}{H:Hp}{s:Ag}{a:Addr}{y d:V}{u r:Ae}{o:Option V}{A:Co}{E:Ae->Ag->Prop}
theorem DW{Q:Ae->Ag->Prop}(hu:A.units + 1 < Ff)(I:Inv X pins σ H s)(g:gZ H a y o)(ry:RelV y u)(h:∀ w' s',Inv X pins σ H s'->RelV (o.getD .non) w'->Q w' s') :
  Bh (Bq X.prog X.w) A (call (.builtin "dict.get") [.ref a,u]) Q E s:=by
 rcases g with⟨kvs,k,e,ey,l⟩ | ⟨kvs,k,b,e,ey,eb,l⟩
 ·subst ey
  obtain⟨z,hd,vs,rel,dd⟩:=lG I.hok e
  refine Kg Im dd.typeIs Ii (PySem.F.args_dict_get_2 _ _) (meets_dict_get (dD X.prog X.w) a (lE ry) hd) ⟨_,dd.mapOf,h _ _ (I.tok _) ?_⟩
  rw[l]
  exact(rel.val k).getD rfl
 ·subst ey
  cases (show u=Value.ref b from ry)
  obtain⟨z,hd,xs,rel,dd⟩:=mF I.hok e
  refine Kg Im dd.typeIs Ii (PySem.F.args_dict_get_2 _ _) (meetsH_dict_get (Fs (dD X.prog X.w)) a b hd) ⟨Ep hu,k,xs,jG I.hok eb,dd,h _ _ (I.tok _) ?_⟩
  rw[l]
  exact(rel.val k).getD rfl
theorem DX{Q:Ae->Ag->Prop}(hu:A.units + 1 < Ff)(I:Inv X pins σ H s)(g:gZ H a y o)(ry:RelV y u)(rd:RelV d r)(h:∀ w' s',Inv X pins σ H s'->RelV (o.getD d) w'->Q w' s') :
  Bh (Bq X.prog X.w) A (call (.builtin "dict.get") [.ref a,u,r]) Q E s:=by
 rcases g with⟨kvs,k,e,ey,l⟩ | ⟨kvs,k,b,e,ey,eb,l⟩
 ·subst ey
  obtain⟨z,hd,vs,rel,dd⟩:=lG I.hok e
  refine Kg Im dd.typeIs Ii (PySem.F.args_dict_get_3 _ _ _) (meets_dict_get_default (dD X.prog X.w) a (lE ry) hd r) ⟨_,dd.mapOf,h _ _ (I.tok _) ?_⟩
  rw[l]
  exact(rel.val k).getD rd
 ·subst ey
  cases (show u=Value.ref b from ry)
  obtain⟨z,hd,xs,rel,dd⟩:=mF I.hok e
  refine Kg Im dd.typeIs Ii (PySem.F.args_dict_get_3 _ _ _) (meetsH_dict_get_default (Fs (dD X.prog X.w)) a b hd r) ⟨Ep hu,k,xs,jG I.hok eb,dd,h _ _ (I.tok _) ?_⟩
  rw[l]
  exact(rel.val k).getD rd
end
end L2
namespace Att
open PySem PySem.W PySem.Calls PyProof.Rows
theorem RJ{P:Params}{h:Heap}:∀ (ns:List Int) (vs:List Ae),WellAll P h vs (ns.map WData.int)->IntsAre vs ns:=by
 intro ns
 induction ns with
 | nil=>
  intro vs w
  rw[Jp] at w
  cases w
  exact .nil
 | cons n ns ih=>
  intro vs w
  rw[Bc] at w
  cases w with
  | cons a b=>
   cases a
   exact .cons _ _ (ih _ b)
theorem RK{l:OpenLaw}{n:Nat}(hn:l.most=some n){P:Params}{h:Heap}{args:List WData}{vals:List Ae}
  (hpre:l.row.toRowW.claim.pre args=true) (hwl:WellAll P h vals args) :
  ∃ a vs ns,vals=[Value.ref a]/\args=[WData.list (ns.map WData.int)]/\h.get? a=some {cls:=.type "list",data:=.seq vs.toArray}/\IntsAre vs ns/\ns.length<=n:=by
 have hsh:WShape.hasAll [] args [.list .int]=true:=(pre_splitW hpre).1
 have hc:l.pre.holds [] {args:=args} = true:=(pre_splitW hpre).2
 obtain⟨d,r,rfl,h1,h2⟩:=hasAllW_cons hsh
 obtain rfl:=hasAllW_nil h2
 obtain⟨xs,rfl,h3⟩:=hasW_list h1
 obtain⟨ns,rfl⟩:=items_int h3
 have hlen:ns.length<=n:=by
  unfold OpenLaw.pre at hc
  have h4:(WTm.not (.lt (.lit (.int (n:Int))) (.len (.arg 0)))).holds [] {args:=[.list (ns.map .int)]} = true:=by
   have h4:=(holds_andW hc).1
   rw[hn] at h4
   exact h4
  have h5:=condW_of h4 (w_not (w_lt w_lit (w_len_list (w_arg rfl))))
  rw[Aa] at h5
  refine Nat.le_of_not_lt fun q=>?_
  have q':(n:Int) < ((ns.length:Nat):Int):=by lia
  first
   | (rw[decide_eq_true q'] at h5;exact absurd h5 (by decide))
   | (simp at h5;lia)
 cases hwl with
 | cons w1 w2=>
  cases w2
  cases w1 with
  | list ho hall=>exact⟨_,_,ns,rfl,rfl,ho,RJ ns _ hall,hlen⟩
theorem RL(l:OpenLaw)(args:List WData):l.row.toRowW.claim.post args (.bool true) args=true:=
 postW_of (r:=l.row.toRowW) (X:=(true == true))
  (show WShape.has [] (.bool true) .bool=true by first | rfl | decide | simp[WShape.has,WShape.arms,WShape.armsAll])
  (show(WTm.eq .res (.lit (.bool true))).value [] {args:=args,res:=some (.bool true),after:=args} = some (.bool (true == true)) from w_eq_bool (w_res rfl) w_lit) rfl
theorem attach_call{l:OpenLaw}{n:Nat}{q:Bu}{loose:List Str}{XP:(Str->Option Ae)->Heap->Prop}{YP:Cm->Heap->Prop}{d:DefRec}
  (hn:l.most=some n) (hdf:d.params.defaults=[])
  (call:∀ (w:Cm) (s₀ s₁:Ag) (mg mb:Str->Option Ae) (fa:Addr) (o:Obj) (pm cd doc:Ae) (a:Addr) (vs:List Ae) (ns:List Int),
   Ground q loose [] XP w s₀ mg mb s₁.heap->YP w s₁.heap->
   s₁.heap.get? fa=some o->o.data=.func (docDef d.name d.params d.body d.scope pm cd doc)->s₁.heap.CodeRec cd d.name->mg d.name=some (.ref fa)->
   s₁.heap.get? a=some {cls:=.type "list",data:=.seq vs.toArray}->IntsAre vs ns->ns.length<=n->s₁.gens = #[]->
   Jb (Bq l.prog w) callerA (.call (.ref fa) ⟨[.ref a],[]⟩) (fun r s'=>r=.ok (.ret (.bool true))/\OldK s₁.heap s'.heap/\s'.os=s₁.os/\Lr s'.gens) s₁) :
  WalkO q loose XP YP l.row.toRowW d [] (fun f vs=>PySem.call f vs):=by
 intro w s₀ s₁ mg mb G Y fa o pm cd doc dV kV ho hd hcd hD hmg hg args vals as hpre hlay hrd hwl oM
 obtain rfl:dV=.none:=Dflts.none hD hdf
 obtain rfl:kV=.none:=Dflts.noKw hD
 obtain⟨a,vs,ns,rfl,rfl,hobj,hints,hlen⟩:=RK hn hpre hwl
 refine enter_call (Kf (call w s₀ s₁ mg mb fa o pm cd doc a vs ns G Y ho (fd_plain hd) hcd hmg hobj hints hlen hg) fun r s' hq=>?_)
 obtain⟨rfl,h2,h3,h4⟩:=hq
 exact⟨.inl ⟨.bool true,.bool true,[],rfl,fun _=>rfl,.bool true,RL l _,fun _=>⟨List.Pairwise.nil,fun _ hm=>(nomatch hm)⟩⟩,h2,h3,h4⟩
end Att
namespace L2
open PySem PySem.Spec PyProof.Rows
theorem DY:∀ {vs:List Ae} {ns:List Int},IntsAre vs ns->a5 (ns.map V.int) vs
 | _,_,.nil=>.nil
 | _,_,.cons n t h=>.cons ⟨t,rfl⟩ (DY h)
abbrev e9:lA:=fun _ _ _ _ _ _=>False
abbrev E0:XK:=fun _ _ _=>False
theorem lI{X:Cx}:lC e9 X E0:=fun _ _ _ _ _ _ _ h=>h.elim
structure jH(K:Ab)(x qual:Str)(st:Stmt)(f:Addr)(fd:Bi):Prop where
 ex:∃ (oc:Ae) (od:Option Addr) (kV doc pm:Ae) (an:Option Addr) (cdv ct:Ae) (osl:Array (Option Ae)),
  fd=Ec x qual (iU st) (gQ st) (d6 st) .none kV doc pm an cdv ct/\K.lookup f=some ⟨oc,od,.func fd,osl⟩/\Ih K cdv qual=true
 kp:Eb K (.ref f)=true
section
variable {P:Bu}{w:Cm}{K:Ab}{mg:Str->Option Ae}{base:Heap}
theorem jH.ok{x qual:Str}{st:Stmt}{f:Addr}{fd:Bi}{N ps:List Str}{k:Nat}{sp:Sp}(F:jH K x qual st f fd)(S:mD N ps (d6 st))(len:∀ vs H Q E,sp vs H Q E->vs.length=ps.length)
  (hbody:∀ (cdv:Ae) (A:Co) (outer:List Env) (s:Ag) (H:Hp) (vs:List V) (Q:VK) (E:XK),cF k (A.deeper (Ja qual (d6 st) s.heap.objs.size f cdv))->sp vs H Q E->
   ∃ t,f7 (kG e9 P w K mg base N qual (d6 st) f cdv A outer s H E).nox (gQ st) t/\t {nx:=fun _ H'=>Q .non H',rt:=Q} (start N vs) H):eV P w K mg base e9 (k + 1) f fd ps sp:=by
 obtain⟨oc,od,kV,doc,pm,an,cdv,ct,osl,rfl,lk,hcd⟩:=F.ex
 refine DF lk hcd S len fun A outer s H vs Q E hr hsp=>?_
 obtain⟨t,h,q⟩:=hbody cdv A outer s H vs Q E hr hsp
 exact⟨t,h.nox,q⟩
theorem jH.binds{x qual:Str}{st:Stmt}{f:Addr}{fd:Bi}{ps:List Str}(F:jH K x qual st f fd)
  (h:∀ (kV doc pm:Ae) (an:Option Addr) (cdv ct:Ae) (us:List Ae),us.length=ps.length->bindArgs (Ec x qual (iU st) (gQ st) (d6 st) .none kV doc pm an cdv ct) ⟨us,[]⟩=pure (ps.zip us)):Binds K fd ps []:=by
 obtain⟨oc,od,kV,doc,pm,an,cdv,ct,osl,rfl,lk,hcd⟩:=F.ex
 exact .all (h kV doc pm an cdv ct)
theorem nF{x qual:Str}{st:Stmt}{f:Addr}{oc:Ae}{od an:Option Addr}{osl:Array (Option Ae)}{kV doc pm cdv ct:Ae}(l:K.lookup f=some ⟨oc,od,.func (Ec x qual (iU st) (gQ st) (d6 st) .none kV doc pm an cdv ct),osl⟩)
  (c:Ih K cdv qual=true) (k:Eb K (.ref f)=true):jH K x qual st f (Ec x qual (iU st) (gQ st) (d6 st) .none kV doc pm an cdv ct):=⟨⟨oc,od,kV,doc,pm,an,cdv,ct,osl,rfl,l,c⟩,k⟩
end
theorem DZ{A:Co}{k:Nat}(hr:cF k A):A.units + 1 < Ff:=Ka (Lx (by decide:1<=64) _) hr.units
section
variable {X:Cx}
theorem RM:eD X (.builtin "len") (fun xs H Q=>∃ a kvs,xs=[V.ref a]/\H a=some (.dK kvs)/\Q (.int kvs.length) H):=by
 intro pins s σ H xs us Q I r h
 obtain⟨a,kvs,rfl,ha,q⟩:=h
 obtain⟨u,rfl,ru⟩:=vals1 r
 cases ru
 exact RA I (.inl ha) fun t s' I'=>⟨.int kvs.length,H,I',⟨t,rfl⟩,q⟩
end
theorem RN{A B:Prop}(h:B):if false=true then A else B:=by
 rw[if_neg Ap]
 exact h
theorem RO{A B:Prop}(h:A):if true=true then A else B:=by
 rw[if_pos rfl]
 exact h
end L2
set_option maxHeartbeats 4000000
namespace L2
open PySem PySem.Spec PyProof.Rows
structure jU where
 cl:List (Str×Addr)
 s:Ag
 H:Hp
 fp:List Addr
 C:Addr
def dY(X:Cx)(sc:Hc)(N':List Str)(B:jU):Cx where
 prog:=X.prog
 w:=X.w
 K:=X.K
 mg:=X.mg
 base:=X.base
 A:=X.A
 N:=N'
 s₀:=B.s
 H₀:=B.H
 env:=compEnvC sc B.cl B.C X.env
 outer:=X.stack
 stack:=X.stack
 ex:=B.fp
 fn:=fun _=>false
 calm:=X.calm
 pn:=[]
 xe:=fun _ _=>False
def gE(cells:List (Str×Addr)):List (Str×Hz)->List (Str×Addr)->List (Str×Addr)
 | [],acc=>acc
 | (n,k) :: r,acc=>if k=.free then gE cells r ((n,(cells.lookup n).getD 0) :: acc) else gE cells r acc
theorem u5{scope:Hc}{env:Env}(h:∀ y∈scope.names,y.2=.free->∃ c,env.cells.lookup y.1=some c):closureFor scope env=pure (gE env.cells scope.names []):=by
 have key:∀ (names:List (Str×Hz)) (acc:List (Str×Addr)),(∀ y∈names,y.2=.free->∃ c,env.cells.lookup y.1=some c)->
   (forIn names acc fun(x:Str×Hz) (cs:List (Str×Addr))=>(if (x.2 == NameKind.free)=true then(do let a <-cellOf env x.1;pure (ForInStep.yield ((x.1,a) :: cs))) else pure (ForInStep.yield cs):Sem (ForInStep (List (Str×Addr)))))=(pure (gE env.cells names acc):Sem _):=by
  intro names
  induction names with
  | nil=>intro acc _;rfl
  | cons y r ih=>
   intro acc hy
   obtain⟨n,k⟩:=y
   rw[List.forIn_cons]
   by_cases hk:k=.free
   ·subst hk
    obtain⟨c,hc⟩:=hy (n,.free) Bb rfl
    have e1:cellOf env n=(pure c:Sem Addr):=by
     unfold cellOf
     rw[show env.cells.lookup n=some c from hc]
    simp only[beq_self_eq_true,if_true,e1,pure_bind]
    rw[ih _ fun z hz=>hy z (Av _ hz)]
    simp only[gE,if_true]
    rw[show env.cells.lookup n=some c from hc]
    rfl
   ·have hb:(k == NameKind.free)=false:=by simpa using hk
    simp only[hb,Ek,if_false,pure_bind]
    rw[ih _ fun z hz=>hy z (Av _ hz)]
    simp only[gE,if_neg hk]
 have e:closureFor scope env=((forIn scope.names [] fun(x:Str×Hz) (cs:List (Str×Addr))=>(if (x.2 == NameKind.free)=true then(do let a <-cellOf env x.1;pure (ForInStep.yield ((x.1,a) :: cs))) else pure (ForInStep.yield cs):Sem (ForInStep (List (Str×Addr))))) >>= fun cs=>pure cs):=by
  unfold closureFor
  rfl
 rw[e,key _ _ h,pure_bind]
theorem u6{cells:List (Str×Addr)}{x:Str}{c:Addr}:∀ {names:List (Str×Hz)} {acc:List (Str×Addr)},(∀ y∈names,y.2=.free->∃ c,cells.lookup y.1=some c)->
  (∀ x c,acc.lookup x=some c->cells.lookup x=some c)->(gE cells names acc).lookup x=some c->cells.lookup x=some c
 | [],acc,_,ha,e=>ha x c e
 | (n,k) :: r,acc,hy,ha,e=>by
  have hr:∀ y∈r,y.2=.free->∃ c,cells.lookup y.1=some c:=fun z hz=>hy z (Av _ hz)
  unfold gE at e
  by_cases hk:k=.free
  ·subst hk
   rw[if_pos rfl] at e
   obtain⟨d,hd⟩:=hy (n,.free) Bb rfl
   have hd:cells.lookup n=some d:=hd
   refine u6 hr (fun z b q=>?_) e
   rw[Br] at q
   by_cases hz:z=n
   ·subst hz
    rw[beq_self_eq_true,hd] at q
    rw[hd];exact q
   ·have:(z == n)=false:=beq_eq_false_iff_ne.mpr hz
    rw[this] at q
    exact ha z b q
  ·rw[if_neg hk] at e
   exact u6 hr ha e
theorem rF{cells:List (Str×Addr)}{x:Str}:∀ {names:List (Str×Hz)} {acc:List (Str×Addr)},((x,NameKind.free)∈names\/∃ c,acc.lookup x=some c)->∃ c,(gE cells names acc).lookup x=some c
 | [],acc,h=>by
  rcases h with h | h
  ·cases h
  ·exact h
 | (n,k) :: r,acc,h=>by
  unfold gE
  by_cases hk:k=.free
  ·subst hk
   rw[if_pos rfl]
   refine rF ?_
   by_cases hx:x=n
   ·subst hx
    right
    rw[Br,beq_self_eq_true]
    exact⟨_,rfl⟩
   ·have hb:(x == n)=false:=beq_eq_false_iff_ne.mpr hx
    rcases h with h | ⟨c,h⟩
    ·rcases Ay.mp h with e | h
     ·cases e;exact absurd rfl hx
     ·exact .inl h
    ·right
     rw[Br,hb]
     exact⟨c,h⟩
  ·rw[if_neg hk]
   refine rF ?_
   rcases h with h | h
   ·rcases Ay.mp h with e | h
    ·cases e;exact absurd rfl hk
    ·exact .inl h
   ·exact .inr h
structure mG(N':List Str)(sc osc:Hc):Prop where
 kind:sc.kind=.function
 nd:N'.Nodup
 nocell:∀ y∈sc.names,y.2≠.cell
 loc:∀ y∈sc.names,y.2=.local->sc.names.lookup y.1=some .local
 free:∀ y∈sc.names,y.2=.free->osc.names.lookup y.1=some .cell\/osc.names.lookup y.1=some .free
def mH(N':List Str)(sc osc:Hc):Bool:=
 decide (sc.kind=.function) && decide N'.Nodup && sc.names.all (fun y=>decide (y.2≠.cell)) && sc.names.all (fun y=>decide (y.2=.local->sc.names.lookup y.1=some .local)) &&
  sc.names.all (fun y=>decide (y.2=.free->osc.names.lookup y.1=some .cell\/osc.names.lookup y.1=some .free))
theorem mG.of{N':List Str}{sc osc:Hc}(h:mH N' sc osc=true):mG N' sc osc:=by
 unfold mH at h
 simp only[Cr] at h
 obtain⟨⟨⟨⟨h1,h2⟩,h3⟩,h4⟩,h5⟩:=h
 exact⟨of_decide_eq_true h1,of_decide_eq_true h2,fun y hy=>of_decide_eq_true (Iz.mp h3 y hy),fun y hy=>of_decide_eq_true (Iz.mp h4 y hy),fun y hy=>of_decide_eq_true (Iz.mp h5 y hy)⟩
def cmap(js:List (Option Nat))(σ:St):St:=js.map fun o=>o.bind fun j=>(σ[j]?).join
def fQ(N' N:List Str)(sc:Hc):List (Option Nat)->List Str->Bool
 | [],[]=>true
 | none :: js,_ :: r=>fQ N' N sc js r
 | some j :: js,x :: r=>decide (N[j]? = some x) && decide (sc.names.lookup x=some .free) && fQ N' N sc js r
 | _,_=>false
theorem u7{N' N:List Str}{sc:Hc}:∀ {js:List (Option Nat)} {r:List Str},fQ N' N sc js r=true->js.length=r.length
 | [],[],_=>rfl
 | none :: js,_ :: r,h=>by
  have:=u7 (js:=js) (r:=r) h
  simp[this]
 | some j :: js,x :: r,h=>by
  unfold fQ at h
  rw[Cr] at h
  have:=u7 (js:=js) (r:=r) h.2
  simp[this]
 | [],_ :: _,h=>by simp[fQ] at h
 | none :: _,[],h=>by simp[fQ] at h
 | some _ :: _,[],h=>by simp[fQ] at h
theorem u9{N' N:List Str}{sc:Hc}:∀ {js:List (Option Nat)} {r:List Str} {i j:Nat} {x:Str},fQ N' N sc js r=true->js[i]? = some (some j)->r[i]? = some x->N[j]? = some x/\sc.names.lookup x=some .free
 | [],[],i,j,x,_,e,_=>by simp at e
 | none :: js,_ :: r,0,j,x,h,e,_=>by simp at e
 | none :: js,_ :: r,i + 1,j,x,h,e,e2=>u9 (js:=js) (r:=r) (i:=i) h (by simpa using e) (by simpa using e2)
 | some k :: js,y :: r,0,j,x,h,e,e2=>by
  unfold fQ at h
  rw[Cr,Cr] at h
  simp at e e2
  subst e;subst e2
  exact⟨of_decide_eq_true h.1.1,of_decide_eq_true h.1.2⟩
 | some k :: js,y :: r,i + 1,j,x,h,e,e2=>by
  unfold fQ at h
  rw[Cr,Cr] at h
  exact u9 (js:=js) (r:=r) (i:=i) h.2 (by simpa using e) (by simpa using e2)
 | [],_ :: _,_,_,_,h,_,_=>by simp[fQ] at h
 | none :: _,[],_,_,_,h,_,_=>by simp[fQ] at h
 | some _ :: _,[],_,_,_,h,_,_=>by simp[fQ] at h
theorem vA{env:Env}{x:Str}:∀ {names:List (Str×Hz)},(∀ y∈names,y.2≠.cell)->
  (((names.map fun(n,k)=>if (k == NameKind.free && env.scope.kind == .function && env.kindOf n == some .cell) then(n,NameKind.cell) else(n,k)).lookup x=some .cell\/
    (names.map fun(n,k)=>if (k == NameKind.free && env.scope.kind == .function && env.kindOf n == some .cell) then(n,NameKind.cell) else(n,k)).lookup x=some .free)↔names.lookup x=some .free)
 | [],_=>by simp
 | (n,k) :: r,h=>by
  have ih:=@vA env x r fun y hy=>h y (Av _ hy)
  have hk:k≠.cell:=h (n,k) Bb
  rw[Bc]
  dsimp only
  by_cases hx:(x == n)=true
  ·by_cases hc:(k == NameKind.free && env.scope.kind == .function && env.kindOf n == some .cell)=true
   ·rw[if_pos hc]
    simp only[Br,hx]
    have:k=.free:=by
     rw[Cr,Cr] at hc
     exact beq_iff_eq.mp hc.1.1
    simp[this]
   ·rw[if_neg hc]
    simp only[Br,hx]
    constructor
    ·rintro(e | e)
     ·cases e;exact absurd rfl hk
     ·exact e
    ·intro e;exact .inr e
  ·have hx:(x == n)=false:=by simpa using hx
   by_cases hc:(k == NameKind.free && env.scope.kind == .function && env.kindOf n == some .cell)=true
   ·rw[if_pos hc]
    simp only[Br,hx]
    exact ih
   ·rw[if_neg hc]
    simp only[Br,hx]
    exact ih
theorem vB{x:Str}{k:Hz}:∀ {names:List (Str×Hz)},names.lookup x=some k->(x,k)∈names:=fun h=>Es h
section
variable {X:Cx}{sc:Hc}{N':List Str}{js:List (Option Nat)}{pins:List (Addr×Obj)}{σ:St}{H H1:Hp}{s:Ag}{fp:List Addr}{C:Addr}
theorem vD(S:mG N' sc X.env.scope)(I:Inv X pins σ H s):∀ y∈sc.names,y.2=.free->∃ c,X.env.cells.lookup y.1=some c:=fun y hy hk=>
 I.ok.has y.1 (S.free y hy hk)
theorem RP(S:mG N' sc X.env.scope)(hj:fQ N' X.N sc js N'=true)(I:Inv X pins σ H s)(hf:∀ b∈fp,gV X pins H b)(ho:∀ b∈fp,∃ o,s.heap.get? b=some o)
  {h1:Heap} {tk:Nat} {m:Str->Option Ae} (hC:s.heap.objs.size<=C) (keep:∀ b o,s.heap.get? b=some o->h1.get? b=some o) (un:Un (f6 X.stack) fp H H1 s.heap h1) (hok:cU X.prog X.w H1 h1) (hn:h1.Ns C m) (hfree:H1 C=none) :
  Inv (dY X sc N' ⟨gE X.env.cells sc.names [],s,H,fp,C⟩) [] (cmap js σ) H1 {s with heap:=h1,toks:=tk}:=by
 have cs:=vD S I
 have sub:∀ x c,(gE X.env.cells sc.names []).lookup x=some c->X.env.cells.lookup x=some c:=fun x c e=>u6 cs (fun _ _ z=>by simp at z) e
 refine⟨⟨I.ok.mod,S.kind,I.ok.glob,I.ok.blt,hC,fun x y c e1 e2=>I.ok.inj x y c (sub x c e1) (sub y c e2),fun x hx=>?_,fun _ _ h _=>absurd (show false=true from h) Ap,I.ok.hd,I.ok.frames,.inl rfl,fun b hb=>?_,I.bs,Ao I.ok.bsz I.sz,fun b o e hb=>?_,fun b hb hb'=>?_,I.stack,I.stkFree⟩,
  rfl,I.bare,un,⟨m,hn,fun i x v e1 e2 e3=>?_⟩,fun x c e=>?_,hfree,fun x c e=>?_,fun p hp=>absurd (show p∈([]:List (Addr×Obj)) from hp) (by simp),hok,?_⟩
 ·have q:sc.names.lookup x=some .free:=(vA (env:=X.env) S.nocell).mp hx
  exact rF (.inl (vB q))
 ·obtain⟨o,e⟩:=ho b hb
  exact⟨Bo (Ca (Az e) hC),fun x c q=>(hf b hb).2.2.2.2.1 x c (sub x c q)⟩
 ·rcases(hf b hb).2.2.2.1 with z | z
  ·exact I.ok.noex b o e z
  ·exact absurd (Ca (Az e) (Ao I.ok.bsz z)) (Jh _)
 ·rcases Ay.mp (I.stkSub b hb') with z | z
  ·exact(hf b hb).2.1 z
  ·exact(hf b hb).2.2.1 z
 ·
  have e1:N'[i]? = some x:=e1
  unfold cmap at e2
  rw[Au] at e2
  cases hji:js[i]? with
  | none=>rw[hji] at e2;cases e2
  | some o=>
   rw[hji] at e2
   cases o with
   | none=>cases e2
   | some j=>
    obtain⟨a1,a2⟩:=u9 hj hji e1
    have e2:(σ[j]?).join=some v:=by simpa using e2
    have e2':σ[j]? = some (some v):=by
     cases q:σ[j]? with
     | none=>rw[q] at e2;cases e2
     | some z=>rw[q] at e2;simpa using e2
    obtain⟨m0,hn0,hl0⟩:=I.loc
    have kx:=S.free _ (vB a2) rfl
    obtain⟨u,r,l⟩:=hl0 j x v a1 e2' (kx.elim (fun z=>.inr (.inl z)) fun z=>.inr (.inr z))
    refine⟨u,r,.inr ⟨(vA (env:=X.env) S.nocell).mpr a2,?_⟩⟩
    rcases l with⟨k,_⟩ | ⟨_,c,ec,hc⟩
    ·have k:X.env.scope.names.lookup x=some .local:=k
     rcases kx with z | z
     ·rw[k] at z;cases z
     ·rw[k] at z;cases z
    ·obtain⟨c',ec'⟩:=rF (cells:=X.env.cells) (acc:=[]) (.inl (vB a2))
     have:c'=c:=Cj ((sub x c' ec').symm.trans ec)
     subst this
     obtain⟨oc,hoc,hd⟩:=hc
     exact⟨c',ec',oc,keep _ _ hoc,hd⟩
 ·obtain⟨v,oc,hoc,hd⟩:=I.cell x c (sub x c e)
  exact⟨v,oc,keep _ _ hoc,hd⟩
 ·obtain⟨v,oc,hoc,hd⟩:=I.cell x c (sub x c e)
  have nfp:c∉fp:=fun z=>(hf c z).2.2.2.2.1 x c (sub x c e) rfl
  exact un.free c oc hoc (I.freeC x c (sub x c e)) nfp
 ·show(cmap js σ).length=N'.length
  unfold cmap
  rw[Aa]
  exact u7 hj
end
section
variable {prog:Bu}{w:Cm}{A:Co}{R:Result->Ag->Prop}{s:Ag}
theorem RQ{elt target iter:Expr}{ifs:List Expr}{scope:Hc}{pos:Pos}{it acc:Ae}{env:Env}(I:Nat->Ag->Prop)
  (turn:∀ n s,I n s->Bh (Bq prog w) A (Ky it) (fun r s₁=>match r with
   | none=>R (.ok .next) s₁
   | some v=>Bh (Bq prog w) A (Lv target it v) (fun _ s₀=>Bh (Bq prog w) A (Kz target env v) (fun _ s₂=>
     Bh (Bq prog w) A (forIn ifs true fun c r=>if r=true then do let ok <-isTrue c env (eval c env);pure (ForInStep.yield ok) else pure (ForInStep.yield r)) (fun ok s₃=>
      if ok=true then Bh (Bq prog w) A (eval elt env) (fun x s₄=>
       Bh (Bq prog w) A (call (.builtin "list.append") [acc,x]) (fun _ s₅=>∃ m,m < n/\I m s₅) (fun _ _=>False) s₄) (fun _ _=>False) s₃
      else ∃ m,m < n/\I m s₃) (fun _ _=>False) s₂) (fun _ _=>False) s₀) (fun _ _=>False) s₁) (fun _ _=>False) s)
  (n:Nat) (h:I n s) :
  Jb (Bq prog w) A (.compLoop (.ListComp elt [⟨target,iter,ifs,0⟩] scope pos) 0 it acc env) R s:=by
 refine codeAny_loop rfl I (fun n s hI=>?_) n h
 show Bh _ A ((compTurn (.ListComp elt [⟨target,iter,ifs,0⟩] scope pos) 0 it acc env).onRaise (fun x=>do noteFrame x env;theTreesLotGoes x)) _ _ s
 refine wpAny_noted ?_
 rw[compTurn_list]
 refine Ac (Me (Ac (He (turn n s hI) (fun r s₁ h₁=>?_) fun _ _ h'=>h'.elim)))
 cases r with
 | none=>exact Am h₁
 | some v=>
  refine Ac (He h₁ (fun _ s₀ h₀=>?_) fun _ _ h'=>h'.elim)
  refine Ac (He h₀ (fun _ s₂ h₂=>Ac (He h₂ (fun ok s₃ h₃=>?_) fun _ _ h'=>h'.elim)) fun _ _ h'=>h'.elim)
  cases ok with
  | false=>exact Am ⟨rfl,h₃⟩
  | true=>
   exact Ac (Ac (He h₃ (fun x s₄ h₄=>Ac (He h₄ (fun _ s₅ h₅=>Am (Am ⟨rfl,h₅⟩)) fun _ _ h'=>h'.elim)) fun _ _ h'=>h'.elim))
end
def iM(X:Cx)(ifs:List Expr)(t:TT):Prop:=
 ∀ (pins:List (Addr×Obj)) (s:Ag) (σ:St) (H:Hp) (Q:Bool->Hp->Prop),Inv X pins σ H s->t σ H Q->
  Bh (Bq X.prog X.w) X.A (forIn ifs true fun c r=>if r=true then do let ok <-isTrue c X.env (eval c X.env);pure (ForInStep.yield ok) else pure (ForInStep.yield r)) (TP X pins σ Q) X.xe s
def RS:TT:=fun _ H Q=>Q true H
theorem RT{X:Cx}:iM X [] RS:=fun _ _ _ H _ I h=>wpAny_tests_nil ⟨H,I,h⟩
theorem RU{X:Cx}{c:Expr}{t:TT}(h:PT X c t):iM X [c] t:=fun pins s σ H Q I hw=>wpAny_tests_one (h pins s σ H Q I hw)
def vE(J:It)(g:TG)(tt:TT)(te:TE)(p:Addr)(σ₀:St)(H1:Hp)(Q:VK):Prop:=
 ∃ W:Nat->Nat->St->List V->Hp->Prop,(∃ m,W 0 m σ₀ [] (aR H1 p (.lst [])))/\∀ i m σ' acc H,W i m σ' acc H->
  (J.stop i H/\Q (.ref p) H)\/(J.go i H/\∃ N:St->List V->Hp->Prop,(∀ σ2 acc' H',N σ2 acc' H'->∃ m',m' < m/\W (i + 1) m' σ2 acc' H')/\∀ x H',J.yld i H x H'->g x σ' H' fun σ2 H2=>tt σ2 H2 fun b H3=>
   if b=true then te σ2 H3 fun y H4=>H4 p=some (.lst acc)/\acc.length < Ak/\N σ2 (acc ++ [y]) (aR H4 p (.lst (acc ++ [y])))
   else N σ2 acc H3)
def vF(wi:TI)(g:jU->TG)(tt:jU->TT)(te:jU->TE)(js:List (Option Nat)):TE:=fun σ H Q=>wi σ H fun J H1=>∀ p,H1 p=none->∀ B:jU,vE J (g B) (tt B) (te B) p (cmap js σ) H1 Q
section
variable {X:Cx}{sc:Hc}{N':List Str}{js:List (Option Nat)}{tg iter elt:Expr}{ifs:List Expr}{pos:Pos}{wi:TI}{g:jU->TG}{tt:jU->TT}{te:jU->TE}
theorem D0(S:mG N' sc X.env.scope)(hj:fQ N' X.N sc js N'=true)(hc:X.calm=true)
  (hg:∀ B,PG (dY X sc N' B) tg (g B)) (ht:∀ B,iM (dY X sc N' B) ifs (tt B)) (he:∀ B,PE (dY X sc N' B) elt (te B))
  {pins:List (Addr×Obj)} {s:Ag} {σ:St} {J:It} {H:Hp} {it:Addr} {fp:List Addr} {tn:Nat->Heap->Prop} (I:Inv X pins σ H s) (T:kF X.prog X.w X.K tg J fp it tn) (st:tn 0 s.heap) (hf:∀ b∈fp,gV X pins H b)
  {Q:VK} (hw:∀ p,H p=none->∀ B:jU,vE J (g B) (tt B) (te B) p (cmap js σ) H Q) {E:Ae->Ag->Prop} {RR:Ae->Addr->Result->Ag->Prop}
  (hRR:∀ p C H' s' m,Inv X pins σ H' s'->gV X pins H' C->s'.heap.Ns C m->Q (.ref p) H'->RR (.ref p) C (.ok .next) s') :
  Bh (Bq X.prog X.w) X.A (newList []) (fun acc s₃=>Bh (Bq X.prog X.w) X.A (newFunctionEnv sc X.env.globals (gE X.env.cells sc.names []) [] X.env.qual none .none (some X.env)) (fun cenv s₄=>
   Jb (Bq X.prog X.w) X.A (.compStart (.ListComp elt [⟨tg,iter,ifs,0⟩] sc pos) 0 (.ref it) acc {cenv with scope:=relabel sc X.env}) (RR acc cenv.locals) s₄) E s₃) E s:=by
 refine Eg (wpAny_newFunctionEnv S.nocell (by intro y hy;simp at hy) (fun h₁ hns₁ hsb₁=>?_) S.kind)
 dsimp only at hns₁ hsb₁ ⊢
 generalize hH2:s.heap.push {cls:=.type "list",dict:=none,data:=.seq ([]:List Ae).toArray} = H2 at hns₁ hsb₁ ⊢
 have hC:H2.objs.size=s.heap.objs.size + 1:=by rw[<-hH2,Ey]
 have hDC:s.heap.objs.size≠H2.objs.size:=by rw[hC];exact Bo (Jc _)
 have hCle:s.heap.objs.size<=H2.objs.size:=by rw[hC];exact Lq _
 have below:∀ b,b < s.heap.objs.size->b≠H2.objs.size:=fun b hb=>by rw[hC];exact Bo (Nat.lt_succ_of_lt hb)
 have old:∀ b o,s.heap.get? b=some o->h₁.get? b=some o:=fun b o e=>hsb₁.extBut b o (below b (Az e)) (Aj _ (hH2 ▸ Aj _ e))
 have hacc:h₁.get? s.heap.objs.size=some {cls:=.type "list",dict:=none,data:=.seq ([]:List Ae).toArray}:=hsb₁.extBut _ _ hDC (Aj _ (hH2 ▸ Bd _ rfl))
 have hp0:H s.heap.objs.size=none:=I.hok.fresh (Ai _)
 have newO:c9 X.prog X.w (aR H s.heap.objs.size (.lst [])) h₁ s.heap.objs.size (.lst []):=⟨Cd _,[],_,.nil,hacc⟩
 have hok1:cU X.prog X.w (aR H s.heap.objs.size (.lst [])) h₁:=I.hok.laid old (Ai _) newO
 have un1:Un (f6 X.stack) fp H (aR H s.heap.objs.size (.lst [])) s.heap h₁:=Un.laid old (Ai _) hp0
 have fC:(aR H s.heap.objs.size (.lst [])) H2.objs.size=none:=by rw[bG (Cg hDC)];exact I.hok.fresh hCle
 have IB:=RP (tk:=s.toks + ([]:List (Str×Ae)).length) S hj I hf (fun b hb=>let ⟨o,e,_⟩:=T.obj 0 _ st b hb;⟨o,e⟩) hCle old un1 hok1 hns₁ fC
 obtain⟨W,⟨m0,w0⟩,turn⟩:=hw _ hp0 ⟨gE X.env.cells sc.names [],s,H,fp,H2.objs.size⟩
 have st1:tn 0 h₁:=T.keep _ _ _ st fun b _ o e=>old b o e
 have loop:∀ s₃:Ag,s₃ = {s with heap:=h₁,toks:=s.toks + ([]:List (Str×Ae)).length}->
   Jb (Bq X.prog X.w) X.A (.compLoop (.ListComp elt [⟨tg,iter,ifs,0⟩] sc pos) 0 (.ref it) (.ref s.heap.objs.size) (compEnvC sc (gE X.env.cells sc.names []) H2.objs.size X.env))
    (RR (.ref s.heap.objs.size) H2.objs.size) s₃:=by
  rintro s₃ rfl
  generalize hB:(⟨gE X.env.cells sc.names [],s,H,fp,H2.objs.size⟩:jU)=B at turn w0 IB
  have eB:compEnvC sc (gE X.env.cells sc.names []) H2.objs.size X.env=(dY X sc N' B).env:=by subst hB;rfl
  have exB:(dY X sc N' B).ex=fp:=by subst hB;rfl
  rw[eB]
  have stat:∀ {σ':St} {H':Hp} {s':Ag},Inv (dY X sc N' B) [] σ' H' s'->(∀ b∈fp,H' b=none)->∀ b∈fp,gV (dY X sc N' B) [] H' b:=fun {σ' H' s'} J' hn b hb=>by
   refine⟨hn b hb,(J'.ok.exf b (by rw[exB];exact hb)).1,J'.ok.exfs b (by rw[exB];exact hb),.inl (by rw[exB];exact hb),(J'.ok.exf b (by rw[exB];exact hb)).2,fun p hp=>absurd (show p∈([]:List (Addr×Obj)) from hp) (by simp)⟩
  have fp0:∀ b∈fp,(aR H s.heap.objs.size (.lst [])) b=none:=fun b hb=>by
   obtain⟨o,e,_⟩:=T.obj 0 _ st b hb
   rw[bG (Bo (Az e))]
   exact(hf b hb).1
  refine RQ (fun n s'=>∃ i σ' acc H',Inv (dY X sc N' B) [] σ' H' s'/\tn i s'.heap/\(∀ b∈fp,H' b=none)/\W i n σ' acc H') ?_ m0 ⟨0,_,[],_,IB,st1,fp0,w0⟩
  rintro n s3 ⟨i,σ3,acc,H3,I3,st3,fr3,w3⟩
  rcases turn i n σ3 acc H3 w3 with⟨stop,qn⟩ | ⟨go,N,hN,step⟩
  ·refine a8 (T.done (dY X sc N' B) rfl rfl rfl hc i [] s3 σ3 H3 (fun _ _=>False) I3 (stat I3 fr3) st3 stop) fun r s4 ⟨hr,I4⟩=>?_
   subst hr
   obtain⟨m4,hn4,_⟩:=I4.loc
   have u4:Un (f6 X.stack) fp H H3 s.heap s4.heap:=by have:=I4.base;subst hB;exact this
   have o4:s4.os=s.os:=by have:=I4.os;subst hB;exact this
   have c4:(dY X sc N' B).env.locals=H2.objs.size:=by subst hB;rfl
   have hIX:Inv X pins σ H3 s4:=I.call' (ch:=fp) o4 u4 I4.hok I4.bare fun b hb=>⟨(hf b hb).2.2.2.1,(hf b hb).2.1,(hf b hb).2.2.2.2.1,(hf b hb).2.2.2.2.2⟩
   exact hRR _ _ H3 s4 m4 hIX (I.fpOk hCle (by rw[<-c4];exact I4.free)) (by rw[<-c4];exact hn4) qn
  ·refine a8 (T.item (dY X sc N' B) rfl rfl rfl hc i [] s3 σ3 H3 (fun _ _=>False) I3 (stat I3 fr3) st3 go) fun r s4 ⟨u,hr,h4⟩=>?_
   subst hr
   refine a8 h4 fun _ s5 ⟨x,H5,I5,r5,y5,st5,fr5⟩=>?_
   have I5':=I5.pinned (stat I5 fr5) (T.obj _ _ st5)
   refine a8 (hg B _ s5 σ3 H5 x u _ I5' r5 (step x H5 y5)) fun _ s6 ⟨σ6,H6,I6,q6⟩=>?_
   refine a8 (ht B _ s6 σ6 H6 _ I6 q6) fun ok s7 ⟨H7,I7,q7⟩=>?_
   have again:∀ {H8:Hp} {s8:Ag} {acc':List V},Inv (dY X sc N' B) ([] ++ oR fp s5.heap) σ6 H8 s8->(∃ m',m' < n/\W (i + 1) m' σ6 acc' H8)->∃ m,m < n/\∃ i σ' acc H',Inv (dY X sc N' B) [] σ' H' s8/\tn i s8.heap/\(∀ b∈fp,H' b=none)/\W i m σ' acc H':=
    fun {H8 s8 acc'} I8 ⟨m',hm,w8⟩=>by
     refine⟨m',hm,i + 1,σ6,acc',H8,I8.unpinned,T.keep _ _ _ st5 fun b hb o e=>(I8.pin (b,o) (Bt _ (Bt _ (qW hb e)))).1,fun b hb=>?_,w8⟩
     obtain⟨o,e,d⟩:=T.obj _ _ st5 b hb
     exact(I8.pin (b,o) (Bt _ (Bt _ (qW hb e)))).2.1
   cases ok with
   | false=>
    rw[if_neg Ap] at q7
    rw[if_neg Ap]
    exact again I7 (hN _ _ _ q7)
   | true=>
    rw[if_pos rfl] at q7
    rw[if_pos rfl]
    refine a8 (he B _ s7 σ6 H7 _ I7 q7) fun y s8 ⟨z,H8,I8,r8,hp8,hl8,q8⟩=>?_
    exact a8 (DQ _ s8 σ6 H8 (.ref s.heap.objs.size) [z] (.ref s.heap.objs.size) [y] (fun _ H9=>N σ6 (acc ++ [z]) H9) I8 rfl (.cons r8 .nil) ⟨_,acc,z,rfl,rfl,hp8,hl8,q8⟩) fun _ s9 ⟨_,H9,I9,_,q9⟩=>again I9 (hN _ _ _ q9)
 exact codeAny_compStart_list (loop _ rfl) (T.self _ 0 _ _ _ st1 (loop _ rfl))
theorem RV(N':List Str)(js:List (Option Nat))(hi:PI X tg iter wi)
  (hg:∀ B,PG (dY X sc N' B) tg (g B)) (ht:∀ B,iM (dY X sc N' B) ifs (tt B)) (he:∀ B,PE (dY X sc N' B) elt (te B))
  (S0:mH N' sc X.env.scope=true:=by kernel_rfl) (hj:fQ N' X.N sc js N'=true:=by kernel_rfl) (hc:X.calm=true:=by rfl) (hs:∀ x,Gk iter X.env x=pure x:=by intro _;rfl):PE X (.ListComp elt [⟨tg,iter,ifs,0⟩] sc pos) (vF wi g tt te js):=by
 intro pins s σ H Q I h
 have S:=mG.of S0
 rw[eval_ListComp]
 refine wpAny_comprehension_free (use:=none) rfl hs (u5 (vD S I)) S.kind S.loc (a8 (hi pins s σ H _ I h) fun xv s₁ h₁=>a8 h₁ fun itv s₂ h₂=>?_)
 obtain⟨it,fp,tn,J,H2,e,I2,T,st2,f2,hw⟩:=h₂
 subst e
 refine D0 (RR:=fun acc C=>compPost (Bq X.prog X.w) X.A X.xe none (EP X pins σ Q) acc C) S hj hc hg ht he I2 T st2 f2 hw ?_
 intro p C H' s' m I' fC hn q
 refine⟨m,hn,fun h' hs'=>⟨.ref p,H',?_,rfl,q⟩⟩
 exact I'.turned (t':=s'.toks) (fun b o hb e=>(hs'.2 b hb).trans e) fC.1 fC.2.1 fC.2.2.2.1 fC.2.2.2.2.1 fC.2.2.2.2.2
theorem RW{i:Nat}{x:Str}{px spos:Pos}(hN:X.N.Nodup)(hi0:X.N[i]? = some x)(hx:Loc X.env.scope x)(N':List Str)(js:List (Option Nat))(hi:PI X tg iter wi)
  (hg:∀ B,PG (dY X sc N' B) tg (g B)) (ht:∀ B,iM (dY X sc N' B) ifs (tt B)) (he:∀ B,PE (dY X sc N' B) elt (te B))
  (S0:mH N' sc X.env.scope=true:=by kernel_rfl) (hj:fQ N' X.N sc js N'=true:=by kernel_rfl) (hc:X.calm=true:=by rfl) (hsw:Ir (.ListComp elt [⟨tg,iter,ifs,0⟩] sc pos) (some (.Name x px)) spos.line X.env=pure true:=by rfl)
  (hf:X.fn x=true\/X.env.scope.names.lookup x=some .local:=by first | exact .inl rfl | exact .inr rfl | assumption)
  (hs:∀ x,Gk iter X.env x=pure x:=by intro _;rfl):PS X (.Assign [.Name x px] (.ListComp elt [⟨tg,iter,ifs,0⟩] sc pos) spos) (qT (vF wi g tt te js) (uM i)):=by
 intro pins s σ H D I h
 have S:=mG.of S0
 rw[exec_Assign_Name_used _ _ _ _ hsw]
 refine Ac (Me (Ac ?_))
 show Bh _ X.A (do let _ <-comprehension (.ListComp elt [⟨tg,iter,ifs,0⟩] sc pos) sc X.env _ (newList []) false (eval iter X.env) (some (Kz (.Name x px) X.env))) _ _ s
 refine Ac (He (wpAny_comprehension_free (use:=some (Kz (.Name x px) X.env)) (Q:=fun _ s'=>SP X pins D .next s') rfl hs (u5 (vD S I)) S.kind S.loc
  (a8 (hi pins s σ H _ I h) fun xv s₁ h₁=>a8 h₁ fun itv s₂ h₂=>?_)) (fun _ s' hq=>Am (Am hq)) fun _ _ e=>e)
 obtain⟨it,fp,tn,J,H2,e,I2,T,st2,f2,hw⟩:=h₂
 subst e
 refine D0 (RR:=fun acc C=>compPost (Bq X.prog X.w) X.A X.xe (some (Kz (.Name x px) X.env)) (fun _ s'=>SP X pins D .next s') acc C) S hj hc hg ht he I2 T st2 f2 hw ?_
 intro p C H' s' m I' fC hn q
 show Bh _ X.A (Kz (.Name x px) X.env (.ref p)) _ _ _
 refine wpAny_assign_Name (CQ I' hN hi0 hx (v:=.ref p) rfl (fun s'' I'' ⟨a,sb,ha⟩=>?_) hf)
 have hCa:C≠a:=by
  rcases ha with e | e
  ·rw[e];exact fC.2.1
  ·exact fun z=>fC.2.2.2.2.1 x a e z.symm
 refine⟨m,hn.sameBut sb hCa,fun h' hs'=>⟨_,H',?_,q⟩⟩
 exact I''.turned (t':=s''.toks) (fun b o hb e=>(hs'.2 b hb).trans e) fC.1 fC.2.1 fC.2.2.2.1 fC.2.2.2.2.1 fC.2.2.2.2.2
end
section
variable {g:TG}{tt:TT}{te:TE}{p:Addr}{σ₀:St}{H1:Hp}{Q:VK}
theorem RX{J:It}(n:Nat)(Pv:Nat->St->List V->Hp->Prop)(h0:Pv 0 σ₀ [] (aR H1 p (.lst [])))(hd:∀ σ acc H,Pv n σ acc H->J.stop n H/\Q (.ref p) H)
  (hs:∀ i σ acc H,i < n->Pv i σ acc H->J.go i H/\∀ x H',J.yld i H x H'->g x σ H' fun σ2 H2=>tt σ2 H2 fun b H3=>
   if b=true then te σ2 H3 fun y H4=>H4 p=some (.lst acc)/\acc.length < Ak/\Pv (i + 1) σ2 (acc ++ [y]) (aR H4 p (.lst (acc ++ [y]))) else Pv (i + 1) σ2 acc H3):vE J g tt te p σ₀ H1 Q:=by
 refine⟨fun i m σ acc H=>m=n - i/\i<=n/\Pv i σ acc H,⟨n,by simp,Cd _,h0⟩,?_⟩
 rintro i m σ acc H ⟨rfl,hi,q⟩
 by_cases hlt:i < n
 ·obtain⟨hg,hy⟩:=hs i σ acc H hlt q
  exact .inr ⟨hg,Pv (i + 1),fun σ2 acc' H' q'=>⟨n - (i + 1),by lia,rfl,hlt,q'⟩,hy⟩
 ·have e:i=n:=by lia
  subst e
  exact .inl (hd σ acc H q)
end
section
variable {X:Cx}
theorem D4{i:Int}(h:i.natAbs < 2 ^ 4096):Builtin.Int.intBits i<=2 ^ 20:=by
 unfold Builtin.Int.intBits
 split
 ·exact Cd _
 ·rename_i h0
  have hn:i.natAbs≠0:=by
   intro z
   have:i=0:=Int.natAbs_eq_zero.mp z
   rw[this] at h0
   exact h0 rfl
  have:i.natAbs.log2 < 4096:=(Nat.log2_lt hn).mpr h
  have e:(2:Nat) ^ 20=1048576:=by decide
  lia
def rG(i j:Int):Prop:=i.natAbs < 2 ^ 4096/\j.natAbs < 2 ^ 4096
theorem RY:bD X (Fe .Mult) (rI rG fun i j=>.int (i * j)):=oU fun _ _ _ _ _ _ _ hc q=>mul_int q (IntMulOk.of_bits (D4 hc.1) (D4 hc.2))
def D5(i j:Int):Prop:=0 < j/\j < 2 ^ 4096
theorem RZ:bD X (Fe .FloorDiv) (rI D5 fun i j=>.int (i / j)):=oU fun i j _ _ _ _ _ hc q=>by
 refine floordiv_int (by have:=hc.1;lia) ?_ (.inl (PyProof.noPylong_of_log2 ?_))
 ·rw[Int.fdiv_eq_ediv_of_nonneg _ (Int.le_of_lt hc.1)];exact q
 ·have h0:j.natAbs≠0:=by have:=hc.1;lia
  have h1:j.natAbs < 2 ^ 4096:=by
   have a:=hc.1
   have b:=hc.2
   lia
  have:=(Nat.log2_lt h0).mpr h1
  lia
def vG(z:Str):It:=⟨fun i _=>i < z.cps.size,fun i H x H'=>H'=H/\∃ c,z.cps.toList[i]? = some c/\x=.str ⟨#[c]⟩,fun i _=>z.cps.size<=i⟩
theorem D6{P:Bu}{w:Cm}{K:Ab}{x:Str}{px:Pos}(z:Str)(it:Addr)(ty:String)(tk0:Tok)
  (nx:∀ (A:Co) (s:Ag) (i c:Nat) (Q:Option Ae->Ag->Prop) (E:Ae->Ag->Prop),s.heap.IsStrIter it ty z tk0 i->z.cps[i]? = some c->
   (∀ h',h'.IsStrIter it ty z tk0 (i + 1)->Ei it s.heap h'->Q (some (.str ⟨#[c]⟩ s.toks)) {s with heap:=h',toks:=s.toks + 1})->Bh (Bq P w) A (Ky (.ref it)) Q E s)
  (en:∀ (A:Co) (s:Ag) (i:Nat) (Q:Option Ae->Ag->Prop) (E:Ae->Ag->Prop),A.handled=none->s.heap.IsStrIter it ty z tk0 i->z.cps[i]? = none->
   (∀ h',Lk it s.heap h'->Q none {s with heap:=h'})->Bh (Bq P w) A (Ky (.ref it)) Q E s)
  (slf:∀ (A:Co) (i:Nat) (s:Ag) (Q:Ae->Ag->Prop) (E:Ae->Ag->Prop),s.heap.IsStrIter it ty z tk0 i->Q (.ref it) s->Bh (Bq P w) A (pyIter (.ref it)) Q E s) :
  kF P w K (.Name x px) (vG z) [it] it (fun i h=>h.IsStrIter it ty z tk0 i) where
 mem:=by simp
 obj:=fun i h st b hb=>by
  have e:b=it:=by simpa using hb
  subst e
  obtain⟨o,ho,_,hd⟩:=st
  exact⟨o,ho,fun v q=>by rw[hd] at q;cases q⟩
 keep:=fun i h h' st k=>by
  obtain⟨o,ho,r⟩:=st
  exact⟨o,k it (by simp) o ho,r⟩
 item:=by
  intro X hP hw hK hc i pins s σ H E I hf st hg
  subst hP hw hK
  obtain⟨f0,f1,f2,f3,f4,f5⟩:=hf it (by simp)
  have hi:z.cps[i]? = some z.cps[i]:=Array.getElem?_eq_getElem hg
  refine nx X.A s i _ _ _ st hi fun h' st' sb=>?_
  have I1:Inv X pins σ H {s with heap:=h',toks:=s.toks + 1}:=I.turned (fun b o hb e=>(sb.2 b hb).trans e) f0 f1 f3 f4 f5
  exact⟨_,rfl,Am ⟨.str ⟨#[z.cps[i]]⟩,H,I1,⟨_,rfl⟩,⟨rfl,z.cps[i],by rw[Ga];exact hi,rfl⟩,st',fun b hb=>(hf b hb).1⟩⟩
 done:=by
  intro X hP hw hK hc i pins s σ H E I hf st hg
  subst hP hw hK
  obtain⟨f0,f1,f2,f3,f4,f5⟩:=hf it (by simp)
  have hg':z.cps.size<=i:=hg
  exact en X.A s i _ _ (I.ok.hd hc) st (Array.getElem?_eq_none hg') fun h' eb=>⟨rfl,I.turned (t':=s.toks) (fun b o hb e=>eb b o hb e) f0 f1 f3 f4 f5⟩
 self:=slf
theorem D7{prog:Bu}{w:Cm}{A:Co}{E:Ae->Ag->Prop}{it l:Addr}{items:Array Ae}(hne:l≠it):∀ (n i:Nat) (s:Ag) (Q:List Ae->Ag->Prop),s.heap.IsListIter it l i->s.heap.IsList l items->i + n<=items.size->
  (∀ h',h'.IsListIter it l (i + n)->Ei it s.heap h'->Q ((items.toList.drop i).take n) {s with heap:=h'})->Bh (Bq prog w) A (draw (.ref it) n) Q E s
 | 0,i,s,Q,hit,_,_,hQ=>by
  show Bh _ _ (pure []) Q E s
  exact Am (by simpa using hQ s.heap hit (Heap.SameBut.refl ..))
 | n + 1,i,s,Q,hit,ht,hle,hQ=>by
  have hlt:i < items.size:=by lia
  show Bh _ _ (Ky (.ref it) >>= _) Q E s
  refine Ac (wpAny_pyNext_list_item hit ht (x:=items[i]) (by simp[hlt]) fun h₁ hit₁ hs₁=>?_)
  refine Ac (Dq (D7 hne n (i + 1) _ _ hit₁ (ht.extBut hs₁.extBut hne) (by lia) fun h₂ hit₂ hs₂=>Am ?_))
  have hd:items.toList.drop i=items[i] :: items.toList.drop (i + 1):=by simp[Ke,hlt]
  have:=hQ h₂ (by rw[show i + (n + 1)=i + 1 + n by lia];exact hit₂) (hs₁.trans hs₂)
  rw[hd,List.take_succ_cons] at this
  exact this
theorem R0{prog:Bu}{w:Cm}{A:Co}{E:Ae->Ag->Prop}{s:Ag}{t:Addr}{items:Array Ae}{targets:List (Bool×(Ae->Sem Unit))}{Q:Unit->Ag->Prop}(hh:A.handled=none)(ht:s.heap.IsList t items)
  (hn:targets.length=items.size) (hstar:targets.findIdx? (·.1)=none)
  (h:∀ h',Lk s.heap.objs.size s.heap h'->Bh (Bq prog w) A (assignInOrder (targets.map (·.2)) items.toList) Q E {s with heap:=h'}) :
  Bh (Bq prog w) A (unpack (.ref t) targets) Q E s:=by
 have hlt:t≠s.heap.objs.size:=by obtain⟨o,ho,_⟩:=ht;exact Bo (Az ho)
 unfold unpack
 rw[hn,hstar]
 refine Ac (Dq ?_)
 unfold unpackItems
 refine Ac ?_
 unfold notIterableAtAll
 refine Ac (wpAny_specialOf ht.typeIs F.slot_list_iter.lookup ?_)
 refine Am ?_
 simp only[Ek,if_false]
 refine Ac (Dq (wpAny_pyIter_list ht ?_))
 refine Ac (Dq (D7 hlt items.size 0 _ _ ⟨_,Bd _ rfl,rfl,rfl⟩ (ht.push _) (by lia) fun h₁ hit₁ hs₁=>?_))
 have hall:List.take items.size (List.drop 0 items.toList)=items.toList:=by
  rw[List.drop_zero];exact Gs (by simp)
 rw[hall]
 rw[if_neg (by simp)]
 have ht₁:h₁.IsList t items:=(ht.push _).extBut hs₁.extBut hlt
 refine Ac (Dq (wpAny_pyNext_list_end hh hit₁ ht₁ (by simp) fun h₂ he₂=>?_))
 simp only[Option.isSome_none,Ek,if_false]
 refine Am (h h₂ fun b o hb e=>he₂ b o hb (hs₁.extBut b o hb (Aj _ e)))
def R1(K:Ab)(n:Nat)(t:jF):TG:=fun v σ H Q=>∃ a xs,v=.ref a/\bQ K H a xs/\xs.length=n/\t xs σ H Q
theorem D8{es:List Expr}{k:Nat}{pos:Pos}{t:jF}{n:Nat}(hc:X.calm=true)(h:iV X es t)
  (hn:(Gg es X.env).length=n:=by rfl) (hst:(Gg es X.env).findIdx? (·.1)=none:=by rfl):PG X (.Tuple es k pos) (R1 X.K n t):=by
 intro pins s σ H v u Q I r hw
 obtain⟨a,xs,e1,hq,hl,hw⟩:=hw
 subst e1
 cases r
 obtain⟨its,rv,ht,hz⟩:=I.list hq
 rw[PyProof.Rows.assign_Tuple]
 refine Ac (Me (R0 (I.ok.hd hc) ht.isList (by simp[hn,<-hl,rv.length]) hst fun h' hx=>?_))
 have I1:Inv X pins σ H {s with heap:=h'}:=I.kept (t':=s.toks) fun b o e=>hx b o (Bo (Az e)) e
 exact h pins _ σ H xs _ Q I1 (by simpa using rv) hw
end
end L2
namespace Rg
open PySem PySem.Spec PyProof.Rows L2
theorem D9{i:Nat}{m n:Nat}(h:i < 2 ^ m)(hm:m<=n):i < 2 ^ n:=Ca h (Nat.pow_le_pow_right (by decide) hm)
end Rg
namespace L2
open PySem PySem.Spec PyProof.Rows
section
variable {X:Cx}
def EA(d:Ko):Prop:=d.canLay0=true/\d.depth<=60
theorem rH:∀ {xs:List V} {us:List Ae},xs.length=us.length->(∀ (j:Nat) (u:Ae),us[j]? = some u->∃ x,xs[j]? = some x/\RelV x u)->a5 xs us
 | [],[],_,_=>.nil
 | [],_ :: _,h,_=>by simp at h
 | _ :: _,[],h,_=>by simp at h
 | x :: xs,u :: us,h,k=>by
  obtain⟨y,e,r⟩:=k 0 u rfl
  simp at e
  subst e
  exact .cons r (rH (by simpa using h) fun j v hv=>by
   obtain⟨y,e,r⟩:=k (j + 1) v (by simpa using hv)
   exact⟨y,by simpa using e,r⟩)
theorem vH:∀ {kvs:List (aG×V)} {vs:List (aG×Ae)} {j:Nat} {k:aG} {x:Ae},KV kvs vs->vs[j]? = some (k,x)->∃ v,kvs[j]? = some (k,v)
 | _,_,_,_,_,.nil,e=>by simp at e
 | _,_,0,_,_,.cons (a:=p) r _,e=>by
  simp at e
  subst e
  exact⟨p.2,by obtain⟨a,b⟩:=p;cases r.1;rfl⟩
 | _,_,j + 1,k,x,.cons _ t,e=>by
  obtain⟨v,q⟩:=vH (j:=j) (k:=k) (x:=x) t (by simpa using e)
  exact⟨v,by simpa using q⟩
theorem vI{k:aG}{v:Ae}(h:l9 k v=true):RelV (kV k) v:=by
 rcases jR h with⟨i,t,rfl,rfl⟩ | ⟨x,t,rfl,rfl⟩
 ·exact⟨t,rfl⟩
 ·exact⟨t,rfl⟩
theorem R4(hc:X.calm=true):eD X (.type "list") (fun xs H Q=>∃ d kvs,xs=[.ref d]/\H d=some (.dK kvs)/\∀ l,H l=none->Q (.ref l) (aR H l (.lst (kvs.map fun kv=>kV kv.1)))):=by
 intro pins s σ H xs us Q I r h
 obtain⟨d,kvs,rfl,hd,q⟩:=h
 obtain⟨u,rfl,ru⟩:=vals1 r
 cases ru
 obtain⟨hz,hne,vs,rkv,hD⟩:=(show c9 X.prog X.w H s.heap d (.dK kvs) from I.hok d _ hd)
 obtain⟨ep,hat⟩:=hD.dictAt
 have hl:=rkv.length
 refine PySem.W.kdl_call (PySem.W.kdl_dict (knd:=dD X.prog X.w) (kvs:=vs) (ep:=ep) hne) (I.ok.hd hc) hat (by rw[<-hl];exact hz) fun h' tk acc' c' hk hS hacc=>?_
 refine⟨.ref s.heap.objs.size,_,I.laid (o:=.lst (kvs.map fun kv=>kV kv.1)) (t':=tk) hk (Ai _) ⟨by rw[Aa];exact hz,acc'.toList,c',?_,by rw[Jg];exact hS⟩,rfl,q _ (I.hok.fresh (Ai _))⟩
 refine rH (by have h1:=hacc.1;have h2:acc'.toList.length=acc'.size:=Fp;have h3:(kvs.map fun kv=>kV kv.1).length=kvs.length:=Aa ..;lia) fun j v hv=>?_
 obtain⟨k,x,hx,hk'⟩:=hacc.2 j v (by rw[<-Ga];exact hv)
 obtain⟨y,hy⟩:=vH rkv hx
 exact⟨kV k,by rw[Au,hy];rfl,vI hk'⟩
theorem EB{n:Nat}(i:Nat)(h:i≠0):n + i≠n:=by lia
theorem EC{n:Nat}(i:Nat):n<=n + i:=by lia
end
section
variable {X:Cx}
def vJ(K:Ab)(a:Addr)(xs:List V):It:=
 ⟨fun i H=>bQ K H a xs/\i < xs.length,
   fun i H x H'=>∃ p u,xs[i]? = some u/\H p=none/\x=.ref p/\H'=aR H p (.tup [.int (i:Nat),u]),
   fun i H=>bQ K H a xs/\xs.length<=i⟩
theorem Inv.laidT{pins:List (Addr×Obj)}{σ:St}{H:Hp}{s:Ag}{fp:List Addr}{h'':Heap}{tk:Nat}{xs:List V}{its:List Ae}(I:Inv X pins σ H s)(hf:∀ b∈fp,gV X pins H b)
  (keep2:∀ q o,q∉fp->s.heap.get? q=some o->h''.get? q=some o) (hz:xs.length<=Ak) (rv:a5 xs its) (hp2:h''.get? s.heap.objs.size=some {cls:=.type "tuple",data:=.seq its.toArray}) :
  Inv X pins σ (aR H s.heap.objs.size (.tup xs)) {s with heap:=h'',toks:=tk}:=by
 have hfr:H s.heap.objs.size=none:=I.hok.fresh (Ai _)
 have nfp:∀ q∈fp,H q=none:=fun q hq=>(hf q hq).1
 refine I.step (g':=s.gens) (d':=s.drawn) (t':=tk) (ch:=fp) (fun q hq=>⟨(hf q hq).2.2.2.1,(hf q hq).2.1,(hf q hq).2.2.2.2.1,(hf q hq).2.2.2.2.2⟩)
  (fun q o _ _ hc e _=>keep2 q o hc e) (fun q o _ _ hc e _=>⟨o.slots,keep2 q o hc e⟩) (fun q o _ e n=>by rw[bG (Bo (Az e))];exact n)
  (fun q o hc e=>⟨o,keep2 q o hc e⟩) (fun q zs e=>by rw[bG (fH e hfr)];exact e) (fun q o zs e=>by rw[bG (fH e hfr)];exact e) (fun q ps e=>⟨#[],by rw[bG (fH e hfr),e];simp⟩) (fun m hm=>?_) ?_ I.bare
 ·obtain⟨o,es,ep,ho,r⟩:=hm
  exact⟨o,es,ep,keep2 _ o (fun z=>absurd rfl (hf _ z).2.1) ho,r⟩
 ·intro q o e
  by_cases hq:q=s.heap.objs.size
  ·subst hq
   rw[cZ] at e;cases e
   exact⟨hz,its,rv,⟨_,hp2,rfl,_,rfl⟩⟩
  ·rw[bG hq] at e
   refine(I.hok q o e).stay (fun t w' ht qq=>keep2 t w' (fun z=>?_) qq) (fun t qq=>by rw[bG (fH qq hfr)];exact qq) fun t zs qq=>by rw[bG (fH qq hfr)];exact qq
   have n0:=nfp t z
   rcases ht with rfl | ht
   ·rw[n0] at e;cases e
   ·rw[n0] at ht;cases ht
theorem Inv.turnedT{pins:List (Addr×Obj)}{σ:St}{H:Hp}{s:Ag}{fp:List Addr}{h'':Heap}{tk:Nat}(I:Inv X pins σ H s)(hf:∀ b∈fp,gV X pins H b)
  (keep2:∀ q o,q∉fp->s.heap.get? q=some o->h''.get? q=some o):Inv X pins σ H {s with heap:=h'',toks:=tk}:=by
 have nfp:∀ q∈fp,H q=none:=fun q hq=>(hf q hq).1
 refine I.step (g':=s.gens) (d':=s.drawn) (t':=tk) (ch:=fp) (fun q hq=>⟨(hf q hq).2.2.2.1,(hf q hq).2.1,(hf q hq).2.2.2.2.1,(hf q hq).2.2.2.2.2⟩)
   (fun q o _ _ hc e _=>keep2 q o hc e) (fun q o _ _ hc e _=>⟨o.slots,keep2 q o hc e⟩) (fun q o _ e n=>n)
   (fun q o hc e=>⟨o,keep2 q o hc e⟩) (fun q zs e=>e) (fun q o zs e=>e) (fun q ps e=>⟨#[],by rw[e];simp⟩) (fun m hm=>?_) ?_ I.bare
 ·obtain⟨o,es,ep,ho,r⟩:=hm
  exact⟨o,es,ep,keep2 _ o (fun z=>absurd rfl (hf _ z).2.1) ho,r⟩
 ·intro q o e
  refine(I.hok q o e).stay (fun t w' ht qq=>keep2 t w' (fun z=>?_) qq) (fun t qq=>qq) fun t zs qq=>qq
  have n0:=nfp t z
  rcases ht with rfl | ht
  ·rw[n0] at e;cases e
  ·rw[n0] at ht;cases ht
theorem R5{P:Bu}{w:Cm}{K:Ab}{es:List Expr}{kx:Nat}{px:Pos}(a e it:Addr)(xs:List V)(hne:e≠it) :
  kF P w K (.Tuple es kx px) (vJ K a xs) [e,it] e (fun i h=>(∃ old,IsEnum h e it (i:Nat) old)/\h.IsListIter it a i) where
 mem:=by simp
 obj:=fun i h st c hc=>by
  obtain⟨⟨old,h1⟩,⟨o4,h4,_,h4d⟩⟩:=st
  simp only[Ay,Fx,or_false] at hc
  rcases hc with rfl | rfl
  ·exact⟨_,h1,fun v q=>by cases q⟩
  ·exact⟨_,h4,fun v q=>by rw[h4d] at q;cases q⟩
 keep:=fun i h h' st k=>by
  obtain⟨⟨old,h1⟩,⟨o4,h4,r4⟩⟩:=st
  exact⟨⟨old,k e (by simp) _ h1⟩,⟨o4,k it (by simp) _ h4,r4⟩⟩
 item:=by
  intro X hP hw hK hc i pins s σ H E I hf st hg
  subst hP hw hK
  obtain⟨⟨old,h1⟩,h4⟩:=st
  obtain⟨hqa,hi⟩:=hg
  obtain⟨its,rv,pl,hz⟩:=I.list hqa
  obtain⟨u,hu,ru⟩:=rv.get (Ax hi)
  refine wpAny_pyNext_enum_item h1 h4 pl.isList (x:=u) (by simpa using hu) hne fun h' a1 a2 a3 a4 hk=>?_
  refine⟨_,rfl,wpAny_letOwnedTupleGo_enum a1 fun h'' e' sb=>?_⟩
  have hfr:H s.heap.objs.size=none:=I.hok.fresh (Ai _)
  have lte:e < s.heap.objs.size:=Az h1
  have lti:it < s.heap.objs.size:=by obtain⟨_,q,_⟩:=h4;exact Az q
  have keep2:∀ q o,q∉[e,it]->s.heap.get? q=some o->h''.get? q=some o:=fun q o hq eq=>by
   simp only[Ay,Fx,or_false,not_or] at hq
   exact(sb.2 q hq.1).trans (hk q o hq.1 hq.2 eq)
  have hp2:h''.get? s.heap.objs.size=some {cls:=.type "tuple",data:=.seq [.int (i:Nat) s.toks,u].toArray}:=(sb.2 _ (Fu lte)).trans a3
  have I1:Inv X pins σ (aR H s.heap.objs.size (.tup [.int (i:Nat),xs[i]])) {s with heap:=h'',toks:=s.toks + 1}:=I.laidT (its:=[.int (i:Nat) s.toks,u]) hf keep2 (by show 2<=Ak;decide) (.cons ⟨_,rfl⟩ (.cons ru .nil)) hp2
  refine⟨.ref s.heap.objs.size,_,I1,rfl,⟨s.heap.objs.size,xs[i],Ax hi,hfr,rfl,rfl⟩,⟨⟨u,by rw[Lc];exact e'⟩,a2.extBut sb.extBut hne.symm⟩,fun q hq=>?_⟩
  rw[bG]
  ·exact(hf q hq).1
  ·intro eq
   subst eq
   simp only[Ay,Fx,or_false] at hq
   rcases hq with q | q
   ·exact Fu lte q
   ·exact Fu lti q
 done:=by
  intro X hP hw hK hc i pins s σ H E I hf st hg
  subst hP hw hK
  obtain⟨⟨old,h1⟩,h4⟩:=st
  obtain⟨hqa,hij⟩:=hg
  obtain⟨its,rv,pl,hz⟩:=I.list hqa
  have l1:=rv.length
  refine wpAny_pyNext_enum_end (I.ok.hd hc) h1 h4 pl.isList (by simp;lia) fun h' hk=>⟨rfl,?_⟩
  exact I.turnedT (tk:=s.toks) hf fun q o hq eq=>hk q o (fun z=>hq (by simp[z])) eq
 self:=fun _ _ _ _ _ st h=>by
  obtain⟨⟨old,h1⟩,_⟩:=st
  exact Ku h1 h
def R6(K:Ab)(ta:TA):TI:=fun σ H R=>ta σ H fun vs H1=>∃ a xs,vs=[.ref a]/\bQ K H1 a xs/\R (vJ K a xs) H1
theorem R7{a:Expr}{ta:TA}{p pos:Pos}{es:List Expr}{kx:Nat}{px:Pos}(hg:Gl X "enumerate")(hm:X.mg "enumerate" = none)(ha:PA X [a] ta)(hs:Bg [a] X.env=[(false,eval a X.env)]:=by rfl) :
  PI X (.Tuple es kx px) (.Call (.Name "enumerate" p) [a] [] pos) (R6 X.K ta):=by
 intro pins s σ H R I h
 refine Call_ (kE I hg hm boot_enumerate (Cy (a8 (ha pos pins s σ H _ I h) fun us s1 ⟨vs,H1,I1,r1,q1⟩=>?_) hs rfl))
 obtain⟨a,xs,rfl,hqa,q⟩:=q1
 obtain⟨u,rfl,ru⟩:=vals1 r1
 cases ru
 obtain⟨its,rv1,pl,hz⟩:=I1.list hqa
 refine call_enumerate_list pl.isList fun h' g1 g2 g3 k=>?_
 refine Ku g1 ?_
 refine⟨s1.heap.objs.size + 1,[s1.heap.objs.size + 1,s1.heap.objs.size],_,_,H1,rfl,I1.kept (t':=s1.toks) k,R5 a _ _ xs (EB 1 (by decide)),⟨⟨_,g1⟩,g2⟩,fun q hq=>?_,q⟩
 have hge:s1.heap.objs.size<=q:=by
  simp only[Ay,Fx,or_false] at hq
  rcases hq with e | e
  ·rw[e];exact EC 1
  ·rw[e];exact Ai _
 exact I1.fpOk hge (I1.hok.fresh hge)
end
abbrev zeV:=aG×List aG
end L2
namespace L2
open PySem PySem.Spec PySem.W PyProof.Rows
section
variable {prog:Bu}{w:Cm}{A:Co}{E:Ae->Ag->Prop}{s:Ag}
theorem R8{it d:Addr}{i ep:Nat}{es:Array Ho}{od:Obj}{Q:Option Ae->Ag->Prop}(hit:s.heap.IsKeyIter it d i es.size ep)(hod:s.heap.get? d=some od)(hdd:od.data=.dict es ep)(hi:i < es.size)
  (hQ:∀ h',h'.IsKeyIter it d (i + 1) es.size ep->Ei it s.heap h'->Q (some es[i].key) {s with heap:=h'}):Bh (Bq prog w) A (Ky (.ref it)) Q E s:=by
 have hT:=hit.typeIs
 obtain⟨o,ho,hc,hd⟩:=id hit
 have own:Builtin.Dict_items.ownsTuple "dict_keyiterator" = false:=by decide
 have nn:¬ ((Value.ref d == Value.none)=true):=Ap
 have up:(s.heap.update it (Obj.mapFields (·.setIfInBounds 1 (Km ((i:Int) + 1))))).IsKeyIter it d (i + 1) es.size ep:=
  ⟨_,Gb _ ho (Obj.isFreed_of_fields (Jz hd _)),(Obj.cls_mapFields ..).trans hc,by rw[Jz hd];simp[Km]⟩
 have uT:=up.typeIs (s:={s with heap:=s.heap.update it (Obj.mapFields (·.setIfInBounds 1 (Km ((i:Int) + 1))))})
 unfold Ky
 refine Ac (wpAny_attempt (Gx (name:=Ej "__next__") hT Ef (Fi Ef hT PySem.F.entry_dict_keyiterator_next ?_ (PySem.F.args_dict_keyiterator_next_1 _))))
 refine Ac (Am (Ac (Ac ?_)))
 first | refine Ac (Hb hT (Am ?_)) | refine Ac (Ij hT (Am ?_))
 refine Ac (wpAny_fieldsOf ho hd ?_)
 rw[own,if_neg Ap]
 show Bh _ _ (if (Value.ref d == Value.none)=true then _ else _) _ _ _
 rw[if_neg nn]
 refine Ac (Am (Ac (Hq hod hdd ?_)))
 rw[if_neg (by simp)]
 refine Ac (Am (Ac (wpAny_dictEpoch hod hdd ?_)))
 rw[if_neg (by simp)]
 refine Am ?_
 simp only[show ¬ ((i:Int) < 0) by lia,if_false,Cu,Array.getElem?_eq_getElem hi]
 refine Ac ?_
 first | refine Ac (Hb hT (Am ?_)) | refine Ac (Ij hT (Am ?_))
 refine Ac (wpAny_isOneOf_keyiter hT ?_)
 show Bh _ _ (setField (.ref it) 1 (Km ((i:Int) + 1)) >>= _) _ _ _
 refine Ac (Lz ho hd (by simp) (Ac (Dq (Ac (wpAny_isOneOf_keyiter uT ?_)))))
 show Bh _ _ (pure es[i].key) _ _ _
 exact Am (Am ⟨_,rfl,Am (hQ _ up (El ..))⟩)
theorem R9{it d:Addr}{i ep:Nat}{es:Array Ho}{od:Obj}{Q:Option Ae->Ag->Prop}(hh:A.handled=none)(hit:s.heap.IsKeyIter it d i es.size ep)(hod:s.heap.get? d=some od)(hdd:od.data=.dict es ep)(hi:es.size<=i)
  (hQ:∀ h',Lk it s.heap h'->Q none {s with heap:=h'}):Bh (Bq prog w) A (Ky (.ref it)) Q E s:=by
 have hT:=hit.typeIs
 obtain⟨o,ho,hc,hd⟩:=id hit
 have own:Builtin.Dict_items.ownsTuple "dict_keyiterator" = false:=by decide
 have nn:¬ ((Value.ref d == Value.none)=true):=Ap
 unfold Ky
 refine Ac (wpAny_attempt (Gx (name:=Ej "__next__") hT Ef (Fi Ef hT PySem.F.entry_dict_keyiterator_next ?_ (PySem.F.args_dict_keyiterator_next_1 _))))
 refine Ac (Am (Ac (Ac ?_)))
 first | refine Ac (Hb hT (Am ?_)) | refine Ac (Ij hT (Am ?_))
 refine Ac (wpAny_fieldsOf ho hd ?_)
 rw[own,if_neg Ap]
 show Bh _ _ (if (Value.ref d == Value.none)=true then _ else _) _ _ _
 rw[if_neg nn]
 refine Ac (Am (Ac (Hq hod hdd ?_)))
 rw[if_neg (by simp)]
 refine Ac (Am (Ac (wpAny_dictEpoch hod hdd ?_)))
 rw[if_neg (by simp)]
 refine Am ?_
 simp only[show ¬ ((i:Int) < 0) by lia,if_false,Cu,Array.getElem?_eq_none hi]
 refine Ac ?_
 first | refine Ac (Hb hT (Am ?_)) | refine Ac (Ij hT (Am ?_))
 show Bh _ _ (setField (.ref it) 0 .none >>= _) _ _ _
 refine Ac (Lz ho hd (by simp) ?_)
 show Bh _ _ (newExc (.type "StopIteration") [] >>= _) _ _ _
 refine Ac ?_
 simp only[newExc,newTuple]
 refine Ac (Eg (Ac (m:=Ma _ _) (wpAny_of_eq (a:=Value.none) (by first | rfl | (simp only[Ma];rfl)) (Eg ?_ (by size_fits)))) (by size_fits))
 simp only[raiseNew]
 refine Ac (wpAny_handled ?_)
 rw[show A.in1.handled=none from hh]
 refine Ac (Am (wpAny_throw ?_))
 refine Ac (Ld (T:="StopIteration") (b:=true) ⟨_,Bd _ rfl,rfl⟩ isSubtype_stop ?_)
 exact Am (hQ _ (((El ..).extBut.push _).push _))
def oZ(h:Heap)(a:Addr)(es:Array Ho)(ep:Nat):Prop:=∃ o,h.get? a=some o/\o.ExactDict/\o.data=.dict es ep
theorem oZ.typeIs{d:Addr}{es:Array Ho}{ep:Nat}(h:oZ s.heap d es ep):s.TypeIs (.ref d) "dict":=let ⟨o,ho,hc,_⟩:=h;⟨o,ho,hc.1⟩
theorem ED{d:Addr}{es:Array Ho}{ep:Nat}{Q:Ae->Ag->Prop}(hd:(d == Ft)=false)(hm:oZ s.heap d es ep)
  (hQ:Q (.ref s.heap.objs.size) {s with heap:=s.heap.push {cls:=.type "dict_keyiterator",data:=.fields #[.ref d,.int 0 0,.int es.size 0,.int ep 0]}}):Bh (Bq prog w) A (pyIter (.ref d)) Q E s:=by
 have hT:=hm.typeIs
 obtain⟨o,ho,hc,hdat⟩:=hm
 refine wpAny_pyIter_slot hT PySem.F.slot_dict_iter (Fi PySem.F.slot_dict_iter hT PySem.F.entry_dict_iter ?_ (PySem.F.args_dict_iter_1 _))
 unfold Mg.«dict.__iter__»
 refine Ac ?_
 unfold Builtin.Dict.dictSlotNone
 refine Ac (Jk hT (Am ?_))
 show Bh _ _ (Builtin.Dict.showsAll d >>= _) _ _ _
 unfold Builtin.Dict.showsAll
 rw[if_neg (by rw[hd];exact Ap)]
 refine Ac (Am (Ac (Hq ho hdat (Ac (wpAny_dictEpoch ho hdat ?_)))))
 refine Ac (Eg (Am ⟨_,rfl,"dict_keyiterator",_,⟨_,Bd _ rfl,rfl⟩,Ef.lookup,?_⟩))
 simpa [Km] using hQ
end
end L2
namespace L2
open PySem PySem.Spec PyProof.Rows
section
variable {X:Cx}{a:Expr}{ta:TA}{p p2 pos pos2:Pos}
theorem SA{xs:List V}{its:List Ae}{acc:Array Ae}(r:a5 xs its)(h:ItemsOf (fun i v=>its.toArray[its.toArray.size - 1 - i]? = some v) acc its.toArray.size):a5 xs.reverse acc.toList:=by
 have hl:=r.length
 have ha:acc.size=its.length:=by simpa using h.1
 have ha2:acc.toList.length=acc.size:=Fp
 refine rH (by rw[List.length_reverse];lia) fun j v hv=>?_
 have hv':acc[j]? = some v:=by rw[<-Ga];exact hv
 have hj:j < acc.size:=(Ju.mp hv').1
 have e:=h.2 j v hv'
 have e':its[its.length - 1 - j]? = some v:=by simpa using e
 have hlt:its.length - 1 - j < xs.length:=by lia
 obtain⟨u,hu,ru⟩:=r.get (Ax hlt)
 rw[e'] at hu;cases hu
 refine⟨xs[its.length - 1 - j],?_,ru⟩
 rw[List.getElem?_reverse (by lia),Ax (by lia)]
 congr 2
 lia
theorem SD:Dv "reversed" = some (.type "reversed"):=by decide +kernel
theorem SE:Dv "list" = some (.type "list"):=by decide +kernel
end
end L2
namespace PySem
namespace Zt
open PyProof.Rows L2 PySem.Spec
section
variable {prog:Bu}{w:Cm}{A:Co}{E:Ae->Ag->Prop}{s:Ag}
theorem SF{α:Type}{Q:α->Ag->Prop}(hh:A.handled=none)(hE:∀ h' e,(∀ c o,s.heap.get? c=some o->h'.get? c=some o)->(∃ o,h'.get? e=some o/\o.cls=.type "StopIteration")->E (.ref e) {s with heap:=h'}) :
  Bh (Bq prog w) A (Builtin.SmallTypes.stopIteration:Sem α) Q E s:=by
 unfold Builtin.SmallTypes.stopIteration
 refine Ac (m:=newExc (.type "StopIteration") []) ?_
 simp only[newExc,newTuple]
 refine Ac (Eg (Ac (m:=Ma _ _) (wpAny_of_eq (a:=Value.none) (by first | rfl | (simp only[Ma];rfl)) (Eg ?_ (by size_fits)))) (by size_fits))
 simp only[raiseNew]
 refine Ac (wpAny_handled ?_)
 rw[hh]
 refine Ac (Am (wpAny_throw (hE _ _ (fun c o e=>Aj _ (Aj _ e)) ⟨_,Bd _ rfl,rfl⟩)))
structure SG(prog:Bu)(w:Cm)(i l:Addr)(xs:Array Ae)(St:Nat->Heap->Prop):Prop where
 keep:∀ k h h',St k h->(∀ c,c=i\/c=l->∀ o,h.get? c=some o->h'.get? c=some o)->St k h'
 there:∀ k h,St k h->i < h.objs.size
 item:∀ (A:Co) (E:Ae->Ag->Prop) (s:Ag) (k:Nat) (x:Ae) (Q:Ae->Ag->Prop),St k s.heap->xs[k]? = some x->(∀ h',St (k + 1) h'->Ei i s.heap h'->Q x {s with heap:=h'})->
  Bh (Bq prog w) A (Gr (.ref i)) Q E s
 stop:∀ (A:Co) (E:Ae->Ag->Prop) (s:Ag) (k:Nat) (Q:Ae->Ag->Prop),A.handled=none->St k s.heap->xs[k]? = none->
  (∀ h' e,Lk i s.heap h'->(∃ o,h'.get? e=some o/\o.cls=.type "StopIteration")->E (.ref e) {s with heap:=h'})->Bh (Bq prog w) A (Gr (.ref i)) Q E s
theorem side_tuple(i l:Addr)(hne:l≠i)(xs:Array Ae):SG prog w i l xs (fun k h=>h.IsTupleIter i l k/\h.IsTuple l xs) where
 keep:=fun k h h' x hk=>by
  obtain⟨⟨o,e,r⟩,⟨u,g,q⟩⟩:=x
  exact⟨⟨o,hk i (.inl rfl) o e,r⟩,⟨u,hk l (.inr rfl) u g,q⟩⟩
 there:=fun k h x=>by obtain⟨_,e,_⟩:=x.1;exact Az e
 item:=fun A E s k x Q st hx hQ=>by
  obtain⟨⟨o,ho,hc,hd⟩,⟨u,hu,hcu,n,hdu⟩⟩:=st
  have ty:s.TypeIs (.ref i) "tuple_iterator":=⟨o,ho,hc⟩
  unfold Gr
  refine Ac (Gx (name:=Ej "__next__") ty Hv (Fi Hv ty F.entry_tuple_iterator_next ?_ (F.args_tuple_iterator_next_1 _)))
  show Bh _ _ (field (.ref i) 0 >>= fun q=>_) _ _ _
  refine Ac (Jq ho hd (x:=.ref l) rfl ?_)
  show Bh _ _ (if (Value.ref l == Value.none)=true then _ else _) _ _ s
  rw[if_neg (show ¬ (Value.ref l == Value.none)=true from fun z=>nomatch z)]
  show Bh _ _ (field (.ref i) 1 >>= fun q=>_) _ _ _
  refine Ac (Jq ho hd (x:=.int k 0) rfl ?_)
  show Bh _ _ (seqItems? (.ref l) >>= fun q=>_) _ _ _
  refine Ac (wpAny_seqItems hu hdu ?_)
  simp only[Cu,hx]
  refine Ac (Lz ho hd (by simp) (Am ⟨x,rfl,Am (hQ _ ⟨⟨_,Gb _ ho (Obj.isFreed_of_fields (Jz hd _)),(Obj.cls_mapFields ..).trans hc,?_⟩,⟨u,?_,hcu,n,hdu⟩⟩ (El ..))⟩))
  ·rw[Jz hd];simp[Km]
  ·exact(Gw _ _ (Cg hne)).trans hu
 stop:=fun A E s k Q hh st hx hE=>by
  obtain⟨⟨o,ho,hc,hd⟩,⟨u,hu,hcu,n,hdu⟩⟩:=st
  have ty:s.TypeIs (.ref i) "tuple_iterator":=⟨o,ho,hc⟩
  unfold Gr
  refine Ac (Gx (name:=Ej "__next__") ty Hv (Fi Hv ty F.entry_tuple_iterator_next ?_ (F.args_tuple_iterator_next_1 _)))
  show Bh _ _ (field (.ref i) 0 >>= fun q=>_) _ _ _
  refine Ac (Jq ho hd (x:=.ref l) rfl ?_)
  show Bh _ _ (if (Value.ref l == Value.none)=true then _ else _) _ _ s
  rw[if_neg (show ¬ (Value.ref l == Value.none)=true from fun z=>nomatch z)]
  show Bh _ _ (field (.ref i) 1 >>= fun q=>_) _ _ _
  refine Ac (Jq ho hd (x:=.int k 0) rfl ?_)
  show Bh _ _ (seqItems? (.ref l) >>= fun q=>_) _ _ _
  refine Ac (wpAny_seqItems hu hdu ?_)
  simp only[Cu,hx]
  refine Ac (Jl (Ac (Lz ho hd (by simp) (SF hh fun h' e hk he=>hE h' e (fun c q hc' g=>hk c q ((Gw _ _ (Cg hc')).trans g)) he))))
end
end Zt
end PySem
namespace L2
open PySem PySem.Spec PyProof.Rows
section
variable {X:Cx}
theorem EE:∀ {vs:List Ae} {ks:List Str},vs.length=ks.length->(∀ (j:Nat) v,vs[j]? = some v->∃ x t,ks[j]? = some x/\v=.str x t)->StrsAre vs ks
 | [],[],_,_=>.nil
 | [],_ :: _,e,_=>by simp at e
 | _ :: _,[],e,_=>by simp at e
 | v :: vs,k :: ks,e,h=>by
  obtain⟨x,t,h1,rfl⟩:=h 0 v rfl
  cases (show k=x by simpa using h1)
  exact .cons k t (EE (by simpa using e) fun j v hv=>by simpa using h (j + 1) v (by simpa using hv))
theorem EF:∀ {vs:List Ae} {ss:List Str},StrsAre vs ss->a5 (ss.map V.str) vs
 | _,_,.nil=>.nil
 | _,_,.cons y t r=>.cons ⟨t,rfl⟩ (EF r)
theorem SH(hc:X.calm=true):eD X (.builtin "sorted") (fun xs H Q=>∃ (d:Addr) (kvs:List (aG×V)) (ks:List Str),xs=[.ref d]/\H d=some (.dK kvs)/\kvs.map Dx=ks.map Sum.inr/\ks.length < 64/\
  ∀ ss:List Str,ss.Perm ks->∀ p,H p=none->Q (.ref p) (aR H p (.lst (ss.map V.str)))):=by
 intro pins s σ H xs us Q I r h
 obtain⟨d,kvs,ks,rfl,hd,hks,h64,q⟩:=h
 obtain⟨u,rfl,ru⟩:=vals1 r
 cases ru
 obtain⟨hz,hne,vs,rkv,hD⟩:=(show c9 X.prog X.w H s.heap d (.dK kvs) from I.hok d _ hd)
 obtain⟨ep,hat⟩:=hD.dictAt
 have hl:=rkv.length
 have hkl:kvs.length=ks.length:=by have:=congrArg Cz hks;simpa using this
 refine Calls.call_function_entry kind_sorted plain_sorted entry_sorted (args_sorted1 _) ?_
 unfold Mg.«sorted»
 refine Ac (m:=checkCount "sorted" 1 1 _) (Am (Ac (PySem.W.kdu_collect (A:=X.A.in1) (PySem.W.kdl_dict (knd:=dD X.prog X.w) (kvs:=vs) (ep:=ep) hne) (I.ok.hd hc) hat (by rw[<-hl];exact hz) fun h' tk acc hk hacc=>?_)))
 have hsz:acc.toList.length=ks.length:=by have h1:=hacc.1;have h2:acc.toList.length=acc.size:=Fp;lia
 have hS:StrsAre acc.toList ks:=EE hsz fun j v hv=>by
  obtain⟨k,x,hx,hk'⟩:=hacc.2 j v (by rw[<-Ga];exact hv)
  obtain⟨y,hy⟩:=vH rkv hx
  have e1:(kvs.map Dx)[j]? = some k:=by rw[Au,hy];rfl
  rw[hks,Au] at e1
  obtain⟨z,hz',rfl⟩:=Bk.mp e1
  obtain⟨t,e⟩:=(show RelV (kV (Sum.inr z)) v from vI hk')
  exact⟨z,t,hz',e⟩
 have I1:Inv X pins σ H {s with heap:=h',toks:=tk}:=I.kept (t':=tk) hk
 refine Ac (wpAny_newList ?_ (by rw[hsz];lia))
 have ho:(h'.push (seqObj "list" acc.toList.toArray 0)).get? h'.objs.size=some (seqObj "list" acc.toList.toArray 0):=Bd _ rfl
 refine Ac (Dq (Fi slot_list_sort ⟨_,ho,rfl⟩ entry_list_sort (list_sort_treeK strKind_oneLt ho hS.keysOf (fun v₁ v₂ rest e=>keyKind_strs (by rw[<-e];exact hS)) (by rw[hsz];exact h64) fun st' a1 a2=>⟨_,rfl,?_⟩) (args_list_sort _)))
 obtain⟨ss,h1,h2,h3⟩:=sorted_out_str hS a1 a2
 obtain⟨e,he⟩:=sortedHeap_at (out:=(arrOf st').map (·.2)) ho
 have hlen:ss.length=ks.length:=h2.length_eq
 refine Am ⟨_,rfl,.ref h'.objs.size,_,I1.laid (o:=.lst (ss.map V.str)) (t':=tk) (fun b o eb=>?_) (Ai _) ⟨by rw[Aa];exact Ao (Fv (by lia:ss.length < 64)) (by decide),((arrOf st').map (·.2)).toList,e,EF h1,by rw[Jg];exact he⟩,rfl,q ss h2 _ I1.fresh⟩
 have hlt:b < h'.objs.size:=Az eb
 exact(sortedHeap_old (Bo hlt) (by rw[Ey];exact Nat.lt_succ_of_lt hlt)).trans (Aj _ eb)
end
end L2
namespace L3
open PySem PySem.Spec PyProof.Rows L2
abbrev SV:=L2.St
inductive W where
 | non | bl (b:Bool) | int (i:Int) | str (x:Str) | ty (n:String) | tup (ws:List W) | rl (ws:List W) | sc (ws:List W) | ref (a:Addr)
 | dk (kvs:List (aG×W)) | dt (kvs:List (List aG×W)) | fk (kvs:List (aG×W)) | ft (kvs:List (List aG×W))
structure mI where
 qual:Str
 y:Str
 params:Arguments
 body:Expr
 sc:Hc
inductive MO where
 | lst (ws:List W) | dK (kvs:List (aG×W)) | dT (kvs:List (List aG×W)) | fix (vs:List V) | ins (C dx:Addr) (fs:List (Str×W)) | tb (pos:Pos) (qual:Str) | cl (L:mI) (cy:Addr) (v:V) (b:W)
abbrev Mm:=Addr->Option MO
def lJ(pos:Pos):Option Addr->Array Ae
 | none=>#[]
 | some c=>#[Km pos.line,Km pos.col,.ref c]
def put(M:Mm)(a:Addr)(o:MO):Mm:=fun b=>if b=a then some o else M b
def del(M:Mm)(a:Addr):Mm:=fun b=>if b=a then none else M b
theorem aT{M:Mm}{a:Addr}{o:MO}:put M a o a=some o:=by unfold put;rw[if_pos rfl]
theorem aQ{M:Mm}{a b:Addr}{o:MO}(h:b≠a):put M a o b=M b:=by unfold put;rw[if_neg h]
theorem fJ{M:Mm}{a:Addr}{o u:MO}:put (put M a o) a u=put M a u:=by
 funext b;unfold put;split <;> rfl
theorem kH{M:Mm}{a:Addr}{o:MO}(h:M a=none):del (put M a o) a=M:=by
 funext b;unfold del put;split
 ·rename_i e;rw[e,h]
 ·rfl
theorem mJ{M:Mm}{a:Addr}:del M a a=none:=by unfold del;rw[if_pos rfl]
theorem nG{M:Mm}{a b:Addr}(h:b≠a):del M a b=M b:=by unfold del;rw[if_neg h]
theorem SJ{M:Mm}{a b:Addr}{o u:MO}(h:a≠b):put (put M a o) b u=put (put M b u) a o:=by
 funext c
 unfold put
 by_cases h1:c=b
 ·by_cases h2:c=a
  ·exact absurd (h2.symm.trans h1) h
  ·rw[if_pos h1,if_neg h2,if_pos h1]
 ·by_cases h2:c=a
  ·rw[if_neg h1,if_pos h2,if_pos h2]
  ·rw[if_neg h1,if_neg h2,if_neg h2,if_neg h1]
theorem SM{M:Mm}{a:Addr}{o:MO}(h:M a=some o):put M a o=M:=by
 funext b;unfold put;split
 ·rename_i e;rw[e,h]
 ·rfl
def Sub(M M':Mm):Prop:=∀ a o,M a=some o->M' a=some o
theorem Sub.refl(M:Mm):Sub M M:=fun _ _ h=>h
theorem Sub.trans{M M1 M2:Mm}(a:Sub M M1)(b:Sub M1 M2):Sub M M2:=fun c o h=>b c o (a c o h)
theorem Sub.new{M:Mm}{a:Addr}{o:MO}(h:M a=none):Sub M (put M a o):=fun b u e=>by
 rw[aQ (fun z=>by rw[z,h] at e;cases e)];exact e
theorem Sub.put{M M':Mm}{a:Addr}{o:MO}(h:Sub M M'):Sub (put M a o) (put M' a o):=fun b u e=>by
 unfold L3.put at e ⊢
 split at e
 ·rename_i z;rw[if_pos z];exact e
 ·rename_i z;rw[if_neg z];exact h b u e
theorem Sub.del{M:Mm}{a:Addr}:Sub (del M a) M:=fun b u e=>by
 unfold L3.del at e
 split at e
 ·cases e
 ·exact e
theorem Sub.non{M M':Mm}(h:Sub M M'){a:Addr}(e:M' a=none):M a=none:=by
 cases q:M a with
 | none=>rfl
 | some o=>rw[h a o q] at e;cases e
def kI(K:Ab)(H:Hp)(a:Addr)(xs:List V):Prop:=
 (∃ o,H a=some (.frz o (.lst xs)))\/
  ∃ (o:Obj) (its:Array Ae) (n:Nat),K.lookup a=some o/\o.cls=.type "list"/\o.dict=none/\o.data=.seq its n/\its.size<=Ak/\a5 xs its.toList
theorem kI.sq{K:Ab}{H:Hp}{a:Addr}{xs:List V}(h:kI K H a xs):bQ K H a xs:=by
 rcases h with⟨o,h⟩ | h
 ·exact .inl (.inr ⟨o,h⟩)
 ·exact .inr h
mutual
inductive AV(K:Ab)(H:Hp)(M:Mm):V->W->Prop
 | non:AV K H M .non .non
 | bl (b:Bool):AV K H M (.bl b) (.bl b)
 | int (i:Int):AV K H M (.int i) (.int i)
 | str (x:Str):AV K H M (.str x) (.str x)
 | ty (n:String):AV K H M (.ty n) (.ty n)
 | tup {a:Addr} {xs:List V} {ws:List W}:H a=some (.tup xs)->aL K H M xs ws->AV K H M (.ref a) (.tup ws)
 | sc {a:Addr} {xs:List V} {ws:List W}:kI K H a xs->aL K H M xs ws->AV K H M (.ref a) (.sc ws)
 | rl {a:Addr} {xs:List V} {ws:List W}:H a=some (.lst xs)->M a=none->aL K H M xs ws->AV K H M (.ref a) (.rl ws)
 | ref (a:Addr):AV K H M (.ref a) (.ref a)
 | dk {a:Addr} {ks:List (aG×V)} {kvs:List (aG×W)}:H a=some (.dK ks)->M a=none->ks.map Dx=kvs.map Dx->aL K H M (ks.map Ic) (kvs.map Ic)->AV K H M (.ref a) (.dk kvs)
 | dt {a:Addr} {ks:List (List aG×V)} {kvs:List (List aG×W)}:H a=some (.dT ks)->M a=none->ks.map Dx=kvs.map Dx->aL K H M (ks.map Ic) (kvs.map Ic)->AV K H M (.ref a) (.dt kvs)
 | fk {a:Addr} {o:Obj} {ks:List (aG×V)} {kvs:List (aG×W)}:H a=some (.frz o (.dK ks))->ks.map Dx=kvs.map Dx->aL K H M (ks.map Ic) (kvs.map Ic)->AV K H M (.ref a) (.fk kvs)
 | ft {a:Addr} {o:Obj} {ks:List (List aG×V)} {kvs:List (List aG×W)}:H a=some (.frz o (.dT ks))->ks.map Dx=kvs.map Dx->aL K H M (ks.map Ic) (kvs.map Ic)->AV K H M (.ref a) (.ft kvs)
inductive aL(K:Ab)(H:Hp)(M:Mm):List V->List W->Prop
 | nil:aL K H M [] []
 | cons {v:V} {vs:List V} {w:W} {ws:List W}:AV K H M v w->aL K H M vs ws->aL K H M (v :: vs) (w :: ws)
end
abbrev bV(K:Ab)(H:Hp)(M:Mm)(κ:Type):List (κ×V)->List (κ×W)->Prop:=Fn fun p q=>p.1=q.1/\AV K H M p.2 q.2
theorem pA{K:Ab}{H:Hp}{M:Mm}{κ:Type}:∀ {ks:List (κ×V)} {kvs:List (κ×W)},ks.map Dx=kvs.map Dx->aL K H M (ks.map Ic) (kvs.map Ic)->bV K H M κ ks kvs
 | [],[],_,_=>.nil
 | [],_ :: _,e,_=>by simp at e
 | _ :: _,[],e,_=>by simp at e
 | p :: ps,q :: qs,e,h=>by
  rw[Bc,Bc] at e h
  rw[Dn] at e
  cases h with
  | cons x r=>exact .cons ⟨e.1,x⟩ (pA e.2 r)
theorem bV.keys{K:Ab}{H:Hp}{M:Mm}{κ:Type}{ks:List (κ×V)}{kvs:List (κ×W)}(h:bV K H M κ ks kvs):ks.map Dx=kvs.map Dx:=by
 induction h with
 | nil=>rfl
 | cons r _ ih=>rw[Bc,Bc,ih,r.1]
theorem bV.vals{K:Ab}{H:Hp}{M:Mm}{κ:Type}{ks:List (κ×V)}{kvs:List (κ×W)}(h:bV K H M κ ks kvs):aL K H M (ks.map Ic) (kvs.map Ic):=by
 induction h with
 | nil=>exact .nil
 | cons r _ ih=>exact .cons r.2 ih
def AO(K:Ab)(H:Hp)(M:Mm)(a:Addr):MO->Prop
 | .lst ws=>∃ vs,H a=some (.lst vs)/\aL K H M vs ws
 | .dK kvs=>∃ ks,H a=some (.dK ks)/\bV K H M aG ks kvs
 | .dT kvs=>∃ ks,H a=some (.dT ks)/\bV K H M (List aG) ks kvs
 | .fix vs=>H a=some (.lst vs)
 | .ins C dx fs=>∃ gs,H a=some (.ins C dx gs)/\bV K H M Str gs fs
 | .tb pos qual=>∃ o,H a=some (.ext fun h=>h.get? a=some (Fh (lJ pos o)))/\∀ c,o=some c->H c=some (.ext fun h=>h.CodeRec (.ref c) qual)/\M c=none
 | .cl L cy v b=>∃ c pm ct,H a=some (.ext fun h=>h.get? a=some (Hw "<lambda>" L.qual L.params L.body L.sc [(L.y,cy)] pm c ct))/\(H c=some (.ext fun h=>h.CodeRec (.ref c) L.qual)/\M c=none)/\AV K H M v b
def AM(K:Ab)(H:Hp)(M:Mm):Prop:=∀ a o,M a=some o->AO K H M a o
structure Kp(H:Hp)(M:Mm)(H':Hp)(M':Mm):Prop where
 fr:∀ a o,M a=none->H a=some o->H' a=some o/\M' a=none
 dom:∀ a o,M a=some o->∃ u,H' a=some u
structure Go(H:Hp)(M:Mm)(H':Hp)(M':Mm):Prop where
 ht:∀ b xs,H b=some (.tup xs)->H' b=some (.tup xs)
 hf:∀ b o u,H b=some (.frz o u)->H' b=some (.frz o u)
 hl:∀ b o,M b=none->H b=some o->H' b=some o/\M' b=none
section
variable {K:Ab}{H H' H1 H2:Hp}{M M' M1 M2:Mm}{a:Addr}
theorem AO.has{o:MO}(h:AO K H M a o):∃ u,H a=some u:=by
 cases o with
 | lst ws=>obtain⟨vs,e,_⟩:=h;exact⟨_,e⟩
 | dK kvs=>obtain⟨ks,e,_⟩:=h;exact⟨_,e⟩
 | dT kvs=>obtain⟨ks,e,_⟩:=h;exact⟨_,e⟩
 | fix vs=>exact⟨_,h⟩
 | ins C dx fs=>obtain⟨gs,e,_⟩:=h;exact⟨_,e⟩
 | tb pos qual=>obtain⟨_,e,_⟩:=h;exact⟨_,e⟩
 | cl L cy v b=>obtain⟨_,_,_,e,_⟩:=h;exact⟨_,e⟩
theorem AM.nonM(am:AM K H M)(h:H a=none):M a=none:=by
 cases q:M a with
 | none=>rfl
 | some o=>obtain⟨u,e⟩:=(am a o q).has;rw[h] at e;cases e
theorem AM.noTup(am:AM K H M){xs:List V}(h:H a=some (.tup xs)):M a=none:=by
 cases q:M a with
 | none=>rfl
 | some o=>
  have:=am a o q
  cases o with
  | lst ws=>obtain⟨vs,e,_⟩:=this;rw[h] at e;cases e
  | dK kvs=>obtain⟨ks,e,_⟩:=this;rw[h] at e;cases e
  | dT kvs=>obtain⟨ks,e,_⟩:=this;rw[h] at e;cases e
  | fix vs=>have e:H a=some (.lst vs):=this;rw[h] at e;cases e
  | ins C dx fs=>obtain⟨gs,e,_⟩:=this;rw[h] at e;cases e
  | tb pos qual=>obtain⟨_,e,_⟩:=this;rw[h] at e;cases e
  | cl L cy v b=>obtain⟨_,_,_,e,_⟩:=this;rw[h] at e;cases e
theorem AM.noFrz(am:AM K H M){ob:Obj}{u:HO}(h:H a=some (.frz ob u)):M a=none:=by
 cases q:M a with
 | none=>rfl
 | some o=>
  have:=am a o q
  cases o with
  | lst ws=>obtain⟨vs,e,_⟩:=this;rw[h] at e;cases e
  | dK kvs=>obtain⟨ks,e,_⟩:=this;rw[h] at e;cases e
  | dT kvs=>obtain⟨ks,e,_⟩:=this;rw[h] at e;cases e
  | fix vs=>have e:H a=some (.lst vs):=this;rw[h] at e;cases e
  | ins C dx fs=>obtain⟨gs,e,_⟩:=this;rw[h] at e;cases e
  | tb pos qual=>obtain⟨_,e,_⟩:=this;rw[h] at e;cases e
  | cl L cy v b=>obtain⟨_,_,_,e,_⟩:=this;rw[h] at e;cases e
theorem Kp.refl(am:AM K H M):Kp H M H M:=⟨fun a o h e=>⟨e,h⟩,fun a o h=>(am a o h).has⟩
theorem Kp.trans(x:Kp H M H1 M1)(y:Kp H1 M1 H2 M2):Kp H M H2 M2 where
 fr:=fun a o h e=>by
  obtain⟨e1,n1⟩:=x.fr a o h e
  exact y.fr a o n1 e1
 dom:=fun a o h=>by
  obtain⟨u,e⟩:=x.dom a o h
  cases q:M1 a with
  | none=>exact⟨u,(y.fr a u q e).1⟩
  | some o1=>exact y.dom a o1 q
theorem Kp.sub(x:Kp H M H1 M1)(h:Sub M2 M1):Kp H M H1 M2 where
 fr:=fun a o n e=>⟨(x.fr a o n e).1,h.non (x.fr a o n e).2⟩
 dom:=x.dom
theorem Kp.go(am:AM K H M)(k:Kp H M H' M'):Go H M H' M':=⟨fun b xs e=>(k.fr b _ (am.noTup e) e).1,fun b o u e=>(k.fr b _ (am.noFrz e) e).1,k.fr⟩
theorem Go.sub(h:Sub M' M):Go H M H M':=⟨fun _ _ e=>e,fun _ _ _ e=>e,fun b o n e=>⟨e,h.non n⟩⟩
theorem AV.go(g:Go H M H' M'){v:V}{w:W}(h:AV K H M v w):AV K H' M' v w:=AV.rec (motive_1:=fun v w _=>AV K H' M' v w) (motive_2:=fun vs ws _=>aL K H' M' vs ws) .non .bl .int .str .ty (fun e _ q=>.tup (g.ht _ _ e) q) (fun e _ q=>.sc (e.elim (fun z=>.inl (z.elim fun o q=>⟨o,g.hf _ _ _ q⟩)) .inr) q) (fun e n _ q=>.rl (g.hl _ _ n e).1 (g.hl _ _ n e).2 q) .ref
  (fun e n ke _ q=>.dk (g.hl _ _ n e).1 (g.hl _ _ n e).2 ke q) (fun e n ke _ q=>.dt (g.hl _ _ n e).1 (g.hl _ _ n e).2 ke q) (fun e ke _ q=>.fk (g.hf _ _ _ e) ke q) (fun e ke _ q=>.ft (g.hf _ _ _ e) ke q) .nil (fun _ _ x r=>.cons x r) h
theorem aL.go(g:Go H M H' M'){vs:List V}{ws:List W}(h:aL K H M vs ws):aL K H' M' vs ws:=aL.rec (motive_1:=fun v w _=>AV K H' M' v w) (motive_2:=fun vs ws _=>aL K H' M' vs ws) .non .bl .int .str .ty (fun e _ q=>.tup (g.ht _ _ e) q) (fun e _ q=>.sc (e.elim (fun z=>.inl (z.elim fun o q=>⟨o,g.hf _ _ _ q⟩)) .inr) q) (fun e n _ q=>.rl (g.hl _ _ n e).1 (g.hl _ _ n e).2 q) .ref
  (fun e n ke _ q=>.dk (g.hl _ _ n e).1 (g.hl _ _ n e).2 ke q) (fun e n ke _ q=>.dt (g.hl _ _ n e).1 (g.hl _ _ n e).2 ke q) (fun e ke _ q=>.fk (g.hf _ _ _ e) ke q) (fun e ke _ q=>.ft (g.hf _ _ _ e) ke q) .nil (fun _ _ x r=>.cons x r) h
theorem bV.go{κ:Type}{ks:List (κ×V)}{kvs:List (κ×W)}(g:Go H M H' M')(h:bV K H M κ ks kvs):bV K H' M' κ ks kvs:=Paired.mapP h fun p q z=>⟨z.1,z.2.go g⟩
theorem AO.go{o:MO}(g:Go H M H' M')(e:H' a=H a)(h:AO K H M a o):AO K H' M' a o:=by
 cases o with
 | lst ws=>obtain⟨vs,e1,r⟩:=h;exact⟨vs,by rw[e];exact e1,r.go g⟩
 | dK kvs=>obtain⟨vs,e1,r⟩:=h;exact⟨vs,by rw[e];exact e1,r.go g⟩
 | dT kvs=>obtain⟨vs,e1,r⟩:=h;exact⟨vs,by rw[e];exact e1,r.go g⟩
 | fix vs=>exact e.trans h
 | ins C dx fs=>obtain⟨gs,e1,r⟩:=h;exact⟨gs,by rw[e];exact e1,r.go g⟩
 | tb pos qual=>obtain⟨o,e1,z⟩:=h;exact⟨o,by rw[e];exact e1,fun c hc=>g.hl _ _ (z c hc).2 (z c hc).1⟩
 | cl L cy v b=>obtain⟨c,pm,ct,e1,z,q⟩:=h;exact⟨c,pm,ct,by rw[e];exact e1,g.hl _ _ z.2 z.1,q.go g⟩
theorem AM.sub(am:AM K H M')(h:Sub M M'):AM K H M:=fun a o e=>(am a o (h a o e)).go (Go.sub h) rfl
theorem AV.sub(h:Sub M' M){v:V}{w:W}(x:AV K H M v w):AV K H M' v w:=x.go (Go.sub h)
theorem aL.sub(h:Sub M' M){v:List V}{w:List W}(x:aL K H M v w):aL K H M' v w:=x.go (Go.sub h)
theorem AV.kp(am:AM K H M)(k:Kp H M H' M'){v:V}{w:W}(h:AV K H M v w):AV K H' M' v w:=h.go (k.go am)
theorem aL.kp(am:AM K H M)(k:Kp H M H' M'){vs:List V}{ws:List W}(h:aL K H M vs ws):aL K H' M' vs ws:=h.go (k.go am)
theorem aL.length:∀ {vs:List V} {ws:List W},aL K H M vs ws->vs.length=ws.length
 | _,_,.nil=>rfl
 | _,_,.cons _ r=>by simp[aL.length r]
theorem aL.append:∀ {vs us:List V} {ws zs:List W},aL K H M vs ws->aL K H M us zs->aL K H M (vs ++ us) (ws ++ zs)
 | _,_,_,_,.nil,s=>s
 | _,_,_,_,.cons x r,s=>.cons x (aL.append r s)
theorem aL.getW:∀ {vs:List V} {ws:List W} {i:Nat} {w:W},aL K H M vs ws->ws[i]? = some w->∃ v,vs[i]? = some v/\AV K H M v w
 | _,_,_,_,.nil,e=>by simp at e
 | _,_,0,_,.cons x _,e=>by simp at e;subst e;exact⟨_,rfl,x⟩
 | _,_,i + 1,w,.cons _ r,e=>by
  obtain⟨v,h1,h2⟩:=aL.getW (i:=i) (w:=w) r (by simpa using e)
  exact⟨v,by simpa using h1,h2⟩
theorem aL.getV:∀ {vs:List V} {ws:List W} {i:Nat} {v:V},aL K H M vs ws->vs[i]? = some v->∃ w,ws[i]? = some w/\AV K H M v w
 | _,_,_,_,.nil,e=>by simp at e
 | _,_,0,_,.cons x _,e=>by simp at e;subst e;exact⟨_,rfl,x⟩
 | _,_,i + 1,v,.cons _ r,e=>by
  obtain⟨w,h1,h2⟩:=aL.getV (i:=i) (v:=v) r (by simpa using e)
  exact⟨w,by simpa using h1,h2⟩
theorem aL.set{v:V}{w:W}(x:AV K H M v w):∀ {vs:List V} {ws:List W} (i:Nat),aL K H M vs ws->aL K H M (vs.set i v) (ws.set i w)
 | _,_,_,.nil=>.nil
 | _,_,0,.cons _ t=>.cons x t
 | _,_,i + 1,.cons q t=>.cons q (aL.set x i t)
theorem aL.take:∀ {vs:List V} {ws:List W} (n:Nat),aL K H M vs ws->aL K H M (vs.take n) (ws.take n)
 | _,_,0,_=>by simp;exact .nil
 | _,_,_ + 1,.nil=>.nil
 | _,_,n + 1,.cons x t=>.cons x (aL.take n t)
theorem aL.drop:∀ {vs:List V} {ws:List W} (n:Nat),aL K H M vs ws->aL K H M (vs.drop n) (ws.drop n)
 | _,_,0,h=>h
 | _,_,_ + 1,.nil=>.nil
 | _,_,n + 1,.cons _ t=>aL.drop n t
theorem aL.reverse{vs:List V}{ws:List W}(h:aL K H M vs ws):aL K H M vs.reverse ws.reverse:=by
 induction vs generalizing ws with
 | nil=>cases h;exact .nil
 | cons v vs ih=>
  cases h with
  | cons x r=>rw[List.reverse_cons,List.reverse_cons];exact(ih r).append (.cons x .nil)
theorem aL.dropLast{vs:List V}{ws:List W}(h:aL K H M vs ws):aL K H M vs.dropLast ws.dropLast:=by
 rw[List.dropLast_eq_take,List.dropLast_eq_take,h.length];exact h.take _
theorem aL.flatRep{vs:List V}{ws:List W}(h:aL K H M vs ws):∀ n:Nat,aL K H M (Bw n vs).flatten (Bw n ws).flatten
 | 0=>.nil
 | n + 1=>by
  rw[Fq,Fq,Ex,Ex]
  exact h.append (aL.flatRep h n)
theorem aL.int(is:List Int):aL K H M (is.map V.int) (is.map W.int):=by
 induction is with
 | nil=>exact .nil
 | cons i r ih=>exact .cons (.int i) ih
theorem EG{p:Addr}{u:HO}(hp:H p=none)(hs:∀ b,b≠p->M b=none->M' b=none):Go H M (aR H p u) M':=
 ⟨fun b xs e=>by rw[bG (fH e hp)];exact e,fun b o x e=>by rw[bG (fH e hp)];exact e,fun b o n e=>⟨by rw[bG (fH e hp)];exact e,hs b (fH e hp) n⟩⟩
theorem EH{p:Addr}{o:MO}{u:HO}(hp:H p=none):Go H M (aR H p u) (put M p o):=EG hp fun b ne n=>by rw[aQ ne];exact n
theorem go_same{p:Addr}{u:HO}(hp:H p=none):Go H M (aR H p u) M:=EG hp fun b ne n=>n
theorem AM.laid{p:Addr}{o:MO}{u:HO}(am:AM K H M)(hp:H p=none)(h:AO K (aR H p u) (put M p o) p o):AM K (aR H p u) (put M p o)/\Kp H M (aR H p u) (put M p o):=by
 refine⟨fun a x e=>?_,fun a x h e=>⟨?_,?_⟩,fun a x h=>?_⟩
 ·by_cases ha:a=p
  ·subst ha;rw[aT] at e;cases e;exact h
  ·rw[aQ ha] at e
   exact(am a x e).go (EH hp) (bG ha)
 ·rw[bG (fH e hp)];exact e
 ·rw[aQ (fH e hp)];exact h
 ·obtain⟨y,e⟩:=(am a x h).has
  exact⟨y,by rw[bG (fH e hp)];exact e⟩
theorem EI{p:Addr}{o u:MO}:Go H (put M p o) H (put M p u):=⟨fun _ _ e=>e,fun _ _ _ e=>e,fun b x n e=>⟨e,by
 have ne:b≠p:=fun z=>by rw[z,aT] at n;cases n
 rw[aQ ne] at n ⊢;exact n⟩⟩
theorem AM.tup{p:Addr}{u:HO}(am:AM K H M)(hp:H p=none):AM K (aR H p u) M/\Kp H M (aR H p u) M:=by
 refine⟨fun a x e=>?_,fun a x h e=>⟨?_,h⟩,fun a x h=>?_⟩
 ·have ne:a≠p:=fun z=>by rw[z,am.nonM hp] at e;cases e
  exact(am a x e).go (go_same hp) (bG ne)
 ·rw[bG (fH e hp)];exact e
 ·obtain⟨y,e⟩:=(am a x h).has
  exact⟨y,by rw[bG (fH e hp)];exact e⟩
theorem nH{l:Addr}{o0 o:MO}{u:HO}(am:AM K H M)(hl:M l=some o0):Go H M (aR H l u) (put M l o):=
 ⟨fun b xs e=>by rw[bG (fun z=>by rw[<-z,am.noTup e] at hl;cases hl)];exact e,fun b ob x e=>by rw[bG (fun z=>by rw[<-z,am.noFrz e] at hl;cases hl)];exact e,
   fun b x n e=>by
  have ne:b≠l:=fun z=>by rw[<-z,n] at hl;cases hl
  rw[bG ne,aQ ne];exact⟨e,n⟩⟩
theorem AM.write{l:Addr}{o0 o:MO}{u:HO}(am:AM K H M)(hl:M l=some o0)(h:AO K (aR H l u) (put M l o) l o):AM K (aR H l u) (put M l o)/\Kp H M (aR H l u) (put M l o):=by
 refine⟨fun a x e=>?_,fun a x h e=>?_,fun a x h=>?_⟩
 ·by_cases ha:a=l
  ·subst ha;rw[aT] at e;cases e;exact h
  ·rw[aQ ha] at e
   exact(am a x e).go (nH am hl) (bG ha)
 ·have:a≠l:=fun z=>by rw[z,hl] at h;cases h
  rw[bG this,aQ this];exact⟨e,h⟩
 ·by_cases ha:a=l
  ·subst ha;exact⟨u,cZ⟩
  ·obtain⟨y,e⟩:=(am a x h).has
   exact⟨y,by rw[bG ha];exact e⟩
theorem AM.lst(am:AM K H M){ws:List W}(h:M a=some (.lst ws)):∃ vs,H a=some (.lst vs)/\aL K H M vs ws:=am a _ h
theorem aL.newT{p:Addr}{u:HO}{vs:List V}{ws:List W}(hp:H p=none)(h:aL K H M vs ws):aL K (aR H p u) M vs ws:=h.go (go_same hp)
theorem aL.newL{p:Addr}{u:HO}{o:MO}{vs:List V}{ws:List W}(hp:H p=none)(h:aL K H M vs ws):aL K (aR H p u) (put M p o) vs ws:=h.go (EH hp)
theorem aL.wr{l:Addr}{o0 o:MO}{u:HO}{vs:List V}{ws:List W}(am:AM K H M)(hl:M l=some o0)(h:aL K H M vs ws):aL K (aR H l u) (put M l o) vs ws:=h.go (nH am hl)
theorem AV.wr{l:Addr}{o0 o:MO}{u:HO}{v:V}{w:W}(am:AM K H M)(hl:M l=some o0)(h:AV K H M v w):AV K (aR H l u) (put M l o) v w:=h.go (nH am hl)
end
abbrev S3:=List (Option W)
abbrev K3:=W->Mm->Prop
abbrev aY:=S3->Mm->K3->Prop
abbrev dQ:=S3->Mm->(Bool->Mm->Prop)->Prop
abbrev dE:=S3->Mm->(List W->Mm->Prop)->Prop
abbrev R3:=W->W->Mm->K3->Prop
structure D3 where
 nx:S3->Mm->Prop
 rt:K3
 bk:S3->Mm->Prop:=fun _ _=>False
 ct:S3->Mm->Prop:=fun _ _=>False
abbrev aI:=D3->S3->Mm->Prop
def AS(K:Ab)(H:Hp)(M:Mm):SV->S3->Prop:=Fn fun ov ow=>∀ w,ow=some w->∃ v,ov=some v/\AV K H M v w
section
variable {K:Ab}{H H':Hp}{M M':Mm}
theorem AS.kp(am:AM K H M)(k:Kp H M H' M'){σ:SV}{τ:S3}(h:AS K H M σ τ):AS K H' M' σ τ:=
 Paired.mapP h fun ov ow z w e=>by obtain⟨v,e1,r⟩:=z w e;exact⟨v,e1,r.kp am k⟩
theorem AS.sub{M':Mm}(g:Sub M' M){σ:SV}{τ:S3}(h:AS K H M σ τ):AS K H M' σ τ:=
 Paired.mapP h fun ov ow z w e=>by obtain⟨v,e1,r⟩:=z w e;exact⟨v,e1,r.sub g⟩
theorem AS.get{w:W}:∀ {σ:SV} {τ:S3} {i:Nat},AS K H M σ τ->τ[i]? = some (some w)->∃ v,σ[i]? = some (some v)/\AV K H M v w
 | _,_,_,.nil,e=>by simp at e
 | _,_,0,.cons r _,e=>by
  simp at e
  obtain⟨v,h1,h2⟩:=r w e
  exact⟨v,by rw[h1];rfl,h2⟩
 | _,_,i + 1,.cons _ t,e=>by
  obtain⟨v,h1,h2⟩:=AS.get (i:=i) t (by simpa using e)
  exact⟨v,by simpa using h1,h2⟩
theorem AS.set{v:V}{w:W}(r:AV K H M v w):∀ {σ:SV} {τ:S3} (i:Nat),AS K H M σ τ->AS K H M (σ.set i (some v)) (τ.set i (some w))
 | _,_,_,.nil=>.nil
 | _,_,0,.cons _ t=>.cons (fun x e=>⟨v,rfl,by cases e;exact r⟩) t
 | _,_,i + 1,.cons q t=>.cons q (AS.set r i t)
theorem AS.nones:∀ n:Nat,AS K H M (Bw n none) (Bw n none)
 | 0=>.nil
 | n + 1=>.cons (fun _ e=>nomatch e) (AS.nones n)
theorem AS.start{vs:List V}{ws:List W}(h:aL K H M vs ws)(n:Nat):AS K H M (vs.map some ++ Bw n none) (ws.map some ++ Bw n none):=by
 induction vs generalizing ws with
 | nil=>cases h;exact AS.nones n
 | cons v vs ih=>
  cases h with
  | cons x r=>exact .cons (fun w e=>⟨v,rfl,by cases e;exact x⟩) (ih r)
end
def Up(K:Ab)(H:Hp)(M:Mm)(R:K3)(Q:VK):Prop:=∀ v H' w M',Kp H M H' M'->AM K H' M'->AV K H' M' v w->R w M'->Q v H'
def up(K:Ab)(t:aY):TE:=fun σ H Q=>∃ τ M R,AS K H M σ τ/\AM K H M/\t τ M R/\Up K H M R Q
def jV(K:Ab)(t:dQ):TT:=fun σ H Q=>∃ (τ:S3) (M:Mm) (R:Bool->Mm->Prop),AS K H M σ τ/\AM K H M/\t τ M R/\∀ b H' M',Kp H M H' M'->AM K H' M'->R b M'->Q b H'
def nJ(K:Ab)(t:dE):TA:=fun σ H Q=>∃ (τ:S3) (M:Mm) (R:List W->Mm->Prop),AS K H M σ τ/\AM K H M/\t τ M R/\∀ vs H' ws M',Kp H M H' M'->AM K H' M'->aL K H' M' vs ws->R ws M'->Q vs H'
def h9(K:Ab)(H:Hp)(M:Mm)(R:S3->Mm->Prop)(Q:SV->Hp->Prop):Prop:=∀ σ' H' τ' M',Kp H M H' M'->AM K H' M'->AS K H' M' σ' τ'->R τ' M'->Q σ' H'
structure pB(K:Ab)(H:Hp)(M:Mm)(D:D3)(E:kD):Prop where
 nx:h9 K H M D.nx E.nx
 rt:Up K H M D.rt E.rt
 bk:h9 K H M D.bk E.bk
 ct:h9 K H M D.ct E.ct
def pC(K:Ab)(t:aI):TS:=fun E σ H=>∃ τ M D,AS K H M σ τ/\AM K H M/\t D τ M/\pB K H M D E
section
variable {K:Ab}{H H1:Hp}{M M1:Mm}
theorem Up.kp{R:K3}{Q:VK}(h:Up K H M R Q)(k:Kp H M H1 M1):Up K H1 M1 R Q:=fun v H' w M' k' am av r=>h v H' w M' (k.trans k') am av r
theorem h9.kp{R:S3->Mm->Prop}{Q:SV->Hp->Prop}(h:h9 K H M R Q)(k:Kp H M H1 M1):h9 K H1 M1 R Q:=fun v H' w M' k' am av r=>h v H' w M' (k.trans k') am av r
theorem pB.kp{D:D3}{E:kD}(h:pB K H M D E)(k:Kp H M H1 M1):pB K H1 M1 D E:=⟨h.nx.kp k,h.rt.kp k,h.bk.kp k,h.ct.kp k⟩
theorem Up.at{R:K3}{Q:VK}(h:Up K H M R Q)(am:AM K H M){v:V}{w:W}(av:AV K H M v w)(r:R w M):Q v H:=h v H w M (Kp.refl am) am av r
end
def frz:W->Mm->K3->Prop
 | .ref p,M,R=>(∃ ws,M p=some (.lst ws)/\R (.rl ws) (del M p))\/(∃ kvs,M p=some (.dK kvs)/\R (.dk kvs) (del M p))\/(∃ kvs,M p=some (.dT kvs)/\R (.dt kvs) (del M p))\/R (.ref p) M
 | w,M,R=>R w M
theorem Up.frz{K:Ab}{H:Hp}{M:Mm}{R:K3}{Q:VK}(h:Up K H M R Q):Up K H M (fun w M'=>frz w M' R) Q:=fun v H' w M' k am av r=>by
 have av':=av
 cases av <;> first | exact h _ _ _ _ k am av' r | skip
 case ref p=>
  rcases r with⟨ws,e,r⟩ | ⟨kvs,e,r⟩ | ⟨kvs,e,r⟩ | r
  ·obtain⟨vs,f,q⟩:=am.lst e
   exact h _ _ _ _ (k.sub Sub.del) (am.sub Sub.del) (.rl f mJ (q.sub Sub.del)) r
  ·obtain⟨ks,f,q⟩:=am _ _ e
   exact h _ _ _ _ (k.sub Sub.del) (am.sub Sub.del) (.dk f mJ q.keys (q.vals.sub Sub.del)) r
  ·obtain⟨ks,f,q⟩:=am _ _ e
   exact h _ _ _ _ (k.sub Sub.del) (am.sub Sub.del) (.dt f mJ q.keys (q.vals.sub Sub.del)) r
  ·exact h _ _ _ _ k am (.ref p) r
theorem SN{M:Mm}{p:Addr}{ws:List W}{R:K3}(hp:M p=none)(r:R (.rl ws) M):frz (.ref p) (put M p (.lst ws)) R:=.inl ⟨ws,aT,by rw[kH hp];exact r⟩
theorem SO{M:Mm}{p:Addr}{kvs:List (aG×W)}{R:K3}(hp:M p=none)(r:R (.dk kvs) M):frz (.ref p) (put M p (.dK kvs)) R:=.inr (.inl ⟨kvs,aT,by rw[kH hp];exact r⟩)
theorem SQ{M:Mm}{p:Addr}{kvs:List (List aG×W)}{R:K3}(hp:M p=none)(r:R (.dt kvs) M):frz (.ref p) (put M p (.dT kvs)) R:=.inr (.inr (.inl ⟨kvs,aT,by rw[kH hp];exact r⟩))
def aZ(ws:List W)(M:Mm)(R:K3):Prop:=∀ p,M p=none->R (.ref p) (put M p (.lst ws))
def SU(kvs:List (aG×W))(M:Mm)(R:K3):Prop:=∀ p,M p=none->R (.ref p) (put M p (.dK kvs))
def iN(kvs:List (List aG×W))(M:Mm)(R:K3):Prop:=∀ p,M p=none->R (.ref p) (put M p (.dT kvs))
theorem aZ.frz{M:Mm}{ws:List W}{R:K3}(r:R (.rl ws) M):aZ ws M fun w M'=>L3.frz w M' R:=fun p hp=>SN hp r
theorem iN.frz{M:Mm}{kvs:List (List aG×W)}{R:K3}(r:R (.dt kvs) M):iN kvs M fun w M'=>L3.frz w M' R:=fun p hp=>SQ hp r
def cM(t:aY):aY:=fun τ M R=>t τ M fun w M'=>frz w M' R
def SW(K:Ab)(H:Hp)(M:Mm)(v:V):W->Prop
 | .non=>v=.non
 | .bl b=>v=.bl b
 | .int i=>v=.int i
 | .str x=>v=.str x
 | .ty n=>v=.ty n
 | .tup ws=>∃ a xs,v=.ref a/\H a=some (.tup xs)/\aL K H M xs ws
 | .sc ws=>∃ a xs,v=.ref a/\kI K H a xs/\aL K H M xs ws
 | .rl ws=>∃ a xs,v=.ref a/\H a=some (.lst xs)/\M a=none/\aL K H M xs ws
 | .ref a=>v=.ref a
 | .dk kvs=>∃ a ks,v=.ref a/\H a=some (.dK ks)/\M a=none/\bV K H M aG ks kvs
 | .dt kvs=>∃ a ks,v=.ref a/\H a=some (.dT ks)/\M a=none/\bV K H M (List aG) ks kvs
 | .fk kvs=>∃ a ks,v=.ref a/\(∃ o,H a=some (.frz o (.dK ks)))/\bV K H M aG ks kvs
 | .ft kvs=>∃ a ks,v=.ref a/\(∃ o,H a=some (.frz o (.dT ks)))/\bV K H M (List aG) ks kvs
section
variable {K:Ab}{H:Hp}{M:Mm}{v:V}{vs:List V}{w:W}{ws:List W}{C:Prop}
theorem AV.inv(h:AV K H M v w):SW K H M v w:=by
 cases h
 case non | bl | int | str | ty | ref=>rfl
 case tup | sc=>rename_i e q;exact⟨_,_,rfl,e,q⟩
 case rl=>rename_i e n q;exact⟨_,_,rfl,e,n,q⟩
 case dk | dt=>rename_i e n z q;exact⟨_,_,rfl,e,n,pA z q⟩
 case fk | ft=>rename_i e z q;exact⟨_,_,rfl,⟨_,e⟩,pA z q⟩
theorem AV.tupE(h:AV K H M v (.tup ws))(c:∀ a xs,v=.ref a->H a=some (.tup xs)->aL K H M xs ws->C):C:=
 let ⟨a,xs,e,f,q⟩:=h.inv;c a xs e f q
theorem AV.scE(h:AV K H M v (.sc ws))(c:∀ a xs,v=.ref a->kI K H a xs->aL K H M xs ws->C):C:=
 let ⟨a,xs,e,f,q⟩:=h.inv;c a xs e f q
theorem AV.rlE(h:AV K H M v (.rl ws))(c:∀ a xs,v=.ref a->H a=some (.lst xs)->aL K H M xs ws->C):C:=
 let ⟨a,xs,e,f,_,q⟩:=h.inv;c a xs e f q
theorem aL.nil_(h:aL K H M vs []):vs=[]:=by cases h;rfl
theorem aL.one(h:aL K H M vs [w]):∃ v,vs=[v]/\AV K H M v w:=by
 cases h with
 | cons x r=>rw[r.nil_];exact⟨_,rfl,x⟩
theorem aL.oneE(h:aL K H M vs [w])(c:∀ v,vs=[v]->AV K H M v w->C):C:=h.one.elim fun v h=>c v h.1 h.2
theorem aL.two{z:W}(h:aL K H M vs [w,z]):∃ v u,vs=[v,u]/\AV K H M v w/\AV K H M u z:=by
 cases h with
 | cons x r=>obtain⟨u,rfl,y⟩:=r.one;exact⟨_,_,rfl,x,y⟩
theorem AM.lstE{a:Addr}(am:AM K H M)(e:M a=some (.lst ws))(c:∀ xs,H a=some (.lst xs)->aL K H M xs ws->C):C:=(am.lst e).elim fun v h=>c v h.1 h.2
theorem iA{x y:V}(e:vs=[x])(f:x=y):vs=[y]:=by rw[e,f]
end
theorem up.el{K:Ab}{H:Hp}{σ:SV}{C:Prop}{t:aY}{Q:VK}(h:up K t σ H Q)(c:∀ τ M R,AS K H M σ τ->AM K H M->t τ M R->Up K H M R Q->C):C:=by obtain⟨τ,M,R,a,b,h,k⟩:=h;exact c τ M R a b h k
theorem jV.el{K:Ab}{H:Hp}{σ:SV}{C:Prop}{t:dQ}{Q:Bool->Hp->Prop}(h:jV K t σ H Q)(c:∀ τ M R,AS K H M σ τ->AM K H M->t τ M R->(∀ b H' M',Kp H M H' M'->AM K H' M'->R b M'->Q b H')->C):C:=by obtain⟨τ,M,R,a,b,h,k⟩:=h;exact c τ M R a b h k
theorem nJ.el{K:Ab}{H:Hp}{σ:SV}{C:Prop}{t:dE}{Q:List V->Hp->Prop}(h:nJ K t σ H Q)(c:∀ τ M R,AS K H M σ τ->AM K H M->t τ M R->(∀ vs H' ws M',Kp H M H' M'->AM K H' M'->aL K H' M' vs ws->R ws M'->Q vs H')->C):C:=by obtain⟨τ,M,R,a,b,h,k⟩:=h;exact c τ M R a b h k
theorem pC.el{K:Ab}{H:Hp}{σ:SV}{C:Prop}{t:aI}{E:kD}(h:pC K t E σ H)(c:∀ τ M D,AS K H M σ τ->AM K H M->t D τ M->pB K H M D E->C):C:=by obtain⟨τ,M,D,a,b,h,k⟩:=h;exact c τ M D a b h k
end L3
namespace L2
section
variable {X:Cx}
theorem PE.weak{e:Kr}{t t':TE}(h:PE X e t)(k:∀ σ H Q,t' σ H Q->t σ H Q):PE X e t':=fun pins s σ H Q I q=>h pins s σ H Q I (k σ H Q q)
theorem PT.weak{e:Kr}{t t':TT}(h:PT X e t)(k:∀ σ H Q,t' σ H Q->t σ H Q):PT X e t':=fun pins s σ H Q I q=>h pins s σ H Q I (k σ H Q q)
theorem PW.weak{e:Kr}{t t':TT}(h:PW X e t)(k:∀ σ H Q,t' σ H Q->t σ H Q):PW X e t':=fun wh pins s σ H Q I q=>h wh pins s σ H Q I (k σ H Q q)
theorem PA.weak{es:List Kr}{t t':TA}(h:PA X es t)(k:∀ σ H Q,t' σ H Q->t σ H Q):PA X es t':=fun pos pins s σ H Q I q=>h pos pins s σ H Q I (k σ H Q q)
theorem PS.weak{st:PySem.Stmt}{t t':TS}(h:PS X st t)(k:∀ D σ H,t' D σ H->t D σ H):PS X st t':=fun pins s σ H D I q=>h pins s σ H D I (k D σ H q)
theorem f7.weak{st:List PySem.Stmt}{t t':TS}(h:f7 X st t)(k:∀ D σ H,t' D σ H->t D σ H):f7 X st t':=fun pins s σ H D I q=>h pins s σ H D I (k D σ H q)
theorem PO.weak{e:Option Kr}{t t':TO}(h:PO X e t)(k:∀ σ H Q,t' σ H Q->t σ H Q):PO X e t':=fun pins s σ H Q I q=>h pins s σ H Q I (k σ H Q q)
theorem iM.weak{es:List Kr}{t t':TT}(h:iM X es t)(k:∀ σ H Q,t' σ H Q->t σ H Q):iM X es t':=fun pins s σ H Q I q=>h pins s σ H Q I (k σ H Q q)
end
end L2
namespace L3
open PySem PySem.Spec PyProof.Rows L2
abbrev E3(X:Cx)(e:Expr)(t:aY):Prop:=PE X e (up X.K t)
abbrev T3(X:Cx)(e:Expr)(t:dQ):Prop:=PT X e (jV X.K t)
abbrev W3(X:Cx)(e:Expr)(t:dQ):Prop:=PW X e (jV X.K t)
abbrev A3(X:Cx)(es:List Expr)(t:dE):Prop:=PA X es (nJ X.K t)
def cX(K:Ab)(r:R3):R2:=fun x y H Q=>∃ wx wy M R,AM K H M/\AV K H M x wx/\AV K H M y wy/\r wx wy M R/\Up K H M R Q
def EJ(K:Ab)(r:W->Mm->K3->Prop):V->Hp->VK->Prop:=fun x H Q=>∃ wx M R,AM K H M/\AV K H M x wx/\r wx M R/\Up K H M R Q
def iB(K:Ab)(r:List W->Mm->K3->Prop):List V->Hp->VK->Prop:=fun xs H Q=>∃ ws M R,AM K H M/\aL K H M xs ws/\r ws M R/\Up K H M R Q
def jW(K:Ab)(r:W->List W->Mm->K3->Prop):V->List V->Hp->VK->Prop:=fun x xs H Q=>∃ wx ws M R,AM K H M/\AV K H M x wx/\aL K H M xs ws/\r wx ws M R/\Up K H M R Q
section
variable {X:Cx}{a b c:Expr}{ta tb tc:aY}{pos:Pos}
def aA(i:Nat):aY:=fun τ M R=>∃ w,τ[i]? = some (some w)/\R w M
def vC(w:W):aY:=fun _ M R=>R w M
theorem v(i:Nat){x:Str}{pos:Pos}(hN:X.N[i]? = some x:=by rfl)(hv:oP X.env.scope x:=by first | exact Or.inl rfl | exact Or.inr (Or.inl rfl) | exact Or.inr (Or.inr rfl))(hd:(x == ("__debug__" : Str))=false:=by decide)
  (hcd:(x == ("__classdict__" : Str))=false:=by decide):E3 X (.Name x pos) (aA i):=(uL hN hv hd hcd).weak fun σ H Q ⟨τ,M,R,as,am,⟨w,e,r⟩,k⟩=>by
 obtain⟨v,e1,av⟩:=as.get e
 exact⟨v,e1,k.at am av r⟩
theorem aK{i j pos}:E3 X (.Constant (.int i) j pos) (vC (.int i)):=L0.weak fun σ H Q z0=>z0.el fun τ M R as am r k=>k.at am (.int i) r
theorem kJ{b j pos}:E3 X (.Constant (.bool b) j pos) (vC (.bl b)):=L1.weak fun σ H Q z0=>z0.el fun τ M R as am r k=>k.at am (.bl b) r
theorem mK{j pos}:E3 X (.Constant .none j pos) (vC .non):=L4.weak fun σ H Q z0=>z0.el fun τ M R as am r k=>k.at am .non r
theorem cG{x j pos}:E3 X (.Constant (.str x) j pos) (vC (.str x)):=L5.weak fun σ H Q z0=>z0.el fun τ M R as am r k=>k.at am (.str x) r
theorem rJ{x:Str}{y:V}{w:W}{u:Ae}{pos:Pos}(hg:Gl X x)(hm:X.mg x=some u)(r:RelV y u)(hw:∀ H M,AV X.K H M y w)(hd:(x == ("__debug__" : Str))=false:=by decide):E3 X (.Name x pos) (vC w):=
 (L6 hg hm r hd).weak fun σ H Q z0=>z0.el fun τ M R as am r k=>k.at am (hw H M) r
theorem c7(ha:E3 X a ta):E3 X a (cM ta):=ha.weak fun σ H Q z0=>z0.el fun τ M R as am h k=>⟨τ,M,_,as,am,h,k.frz⟩
def aE(r:R3)(ta tb:aY):aY:=fun τ M R=>ta τ M fun x M1=>tb τ M1 fun y M2=>r x y M2 R
theorem rK{K:Ab}{r:R3}{σ:SV}{H:Hp}{Q:VK}(h:up K (aE r ta tb) σ H Q):oT (cX K r) (up K ta) (up K tb) σ H Q:=by
 obtain⟨τ,M,R,as,am,h,k⟩:=h
 refine⟨τ,M,_,as,am,h,fun x H1 wx M1 k1 am1 ax h1=>⟨τ,M1,_,as.kp am k1,am1,h1,fun y H2 wy M2 k2 am2 ay h2=>?_⟩⟩
 exact⟨wx,wy,M2,R,am2,ax.kp am1 k2,ay,h2,(k.kp k1).kp k2⟩
theorem a9{op:Operator}{r:R3}(ho:bD X (Fe op) (cX X.K r))(ha:E3 X a ta)(hb:E3 X b tb):E3 X (.BinOp a op b pos) (aE r ta tb):=(NX ho ha hb).weak fun _ _ _ h=>rK h
theorem SX{op:CmpOp}{r:R3}(ho:bD X (Ci op) (cX X.K r))(ha:E3 X a ta)(hb:E3 X b tb)(hm:Hj op b=false):E3 X (.Compare a [op] [b] pos) (aE r ta tb):=(OH ho ha hb hm).weak fun _ _ _ h=>rK h
def bU(t:aY):dQ:=fun τ M Q=>t τ M fun w M'=>∃ k,w=.bl k/\Q k M'
theorem AV.bl_inv{K:Ab}{H:Hp}{M:Mm}{v:V}{k:Bool}(h:AV K H M v (.bl k)):v=.bl k:=by cases h;rfl
theorem SY{op:CmpOp}{r:R3}(ho:bD X (Ci op) (cX X.K r))(ha:E3 X a ta)(hb:E3 X b tb)(hm:Hj op b=false):T3 X (.Compare a [op] [b] pos) (bU (aE r ta tb)):=
 (OJ ho ha hb hm).weak fun σ H Q z0=>z0.el fun τ M R as am h k=>rK ⟨τ,M,_,as,am,h,fun v H' w M' k' am' av ⟨c,e,r⟩=>by
  subst e
  exact⟨c,av.bl_inv,k c H' M' k' am' r⟩⟩
def jI(r:W->Mm->K3->Prop)(ta:aY):aY:=fun τ M R=>ta τ M fun x M1=>r x M1 R
theorem jX{op:UnaryOp}{r:W->Mm->K3->Prop}(ho:oS X (unaryOp op) (EJ X.K r))(ha:E3 X a ta):E3 X (.UnaryOp op a pos) (jI r ta):=
 (NY ho ha).weak fun σ H Q z0=>z0.el fun τ M R as am h k=>⟨τ,M,_,as,am,h,fun x H1 wx M1 k1 am1 ax h1=>⟨wx,M1,R,am1,ax,h1,k.kp k1⟩⟩
def S4:W->Mm->(Bool->Mm->Prop)->Prop
 | .non,M,Q=>Q false M
 | .bl b,M,Q=>Q b M
 | .int i,M,Q=>Q (i != 0) M
 | .str y,M,Q=>y.length<=Ak/\Q ((y.length:Int) != 0) M
 | .tup ws,M,Q=>Q (!ws.isEmpty) M
 | .rl ws,M,Q=>Q (!ws.isEmpty) M
 | .sc ws,M,Q=>Q (!ws.isEmpty) M
 | .dk kvs,M,Q=>Q (!kvs.isEmpty) M
 | .ref p,M,Q=>(∃ ws,M p=some (.lst ws)/\Q (!ws.isEmpty) M)\/∃ kvs,M p=some (.dK kvs)/\Q (!kvs.isEmpty) M
 | _,_,_=>False
def rL(t:aY):dQ:=fun τ M Q=>t τ M fun w M'=>S4 w M' Q
theorem aL.empty{K:Ab}{H:Hp}{M:Mm}{vs:List V}{ws:List W}(h:aL K H M vs ws):(!ws.isEmpty) = !vs.isEmpty:=by cases h <;> rfl
theorem vK(ha:E3 X a ta)(he:∀ whole,isTrue a X.env whole=(do let v <-whole;Mc a.pos;Il [v] (truthy v)):=by intro _;rfl):T3 X a (rL ta):=
 (OM ha he).weak fun σ H Q z0=>z0.el fun τ M R as am h k=>⟨τ,M,_,as,am,h,fun v H' w M' k' am' av r=>by
  cases av with
  | non=>exact⟨false,rfl,k _ _ _ k' am' r⟩
  | bl b=>exact⟨b,rfl,k _ _ _ k' am' r⟩
  | int i=>exact⟨_,rfl,k _ _ _ k' am' r⟩
  | str y=>exact⟨_,⟨r.1,rfl⟩,k _ _ _ k' am' r.2⟩
  | ty n=>exact(show False from r).elim
  | tup e q=>exact⟨_,.inr (.inl ⟨_,cD.of e,q.empty⟩),k _ _ _ k' am' r⟩
  | rl e n q=>exact⟨_,.inl ⟨_,bQ.of e,q.empty⟩,k _ _ _ k' am' r⟩
  | sc e q=>exact⟨_,.inl ⟨_,e.sq,q.empty⟩,k _ _ _ k' am' r⟩
  | @dk a ks kvs e n ke q=>exact⟨!kvs.isEmpty,.inr (.inr ⟨_,e,by have:=pA ke q;cases this <;> rfl⟩),k _ _ _ k' am' r⟩
  | dt e n ke q=>exact(show False from r).elim
  | fk e ke q=>exact(show False from r).elim
  | ft e ke q=>exact(show False from r).elim
  | ref p=>
   rcases r with⟨ws,e,r⟩ | ⟨kvs,e,r⟩
   ·obtain⟨vs,e1,q⟩:=am'.lst e
    exact⟨_,.inl ⟨_,bQ.of e1,q.empty⟩,k _ _ _ k' am' r⟩
   ·obtain⟨ks,e1,q⟩:=am' _ _ e
    exact⟨!kvs.isEmpty,.inr (.inr ⟨_,e1,by cases q <;> rfl⟩),k _ _ _ k' am' r⟩⟩
def rM(t u:dQ):dQ:=fun τ M Q=>t τ M fun c M1=>if c=true then u τ M1 Q else Q false M1
def rN(t u:dQ):dQ:=fun τ M Q=>t τ M fun c M1=>if c=true then Q true M1 else u τ M1 Q
def vL(t:dQ):dQ:=fun τ M Q=>t τ M fun c M1=>Q (!c) M1
variable {tA tB':dQ}{rest:List Expr}
theorem vM(ha:T3 X a tA):W3 X (.BoolOp .And [a] pos) tA:=MA ha
theorem vN(ha:T3 X a tA):W3 X (.BoolOp .Or [a] pos) tA:=MB ha
theorem vO(ha:T3 X a tA)(hb:W3 X (.BoolOp .And (b :: rest) pos) tB'):W3 X (.BoolOp .And (a :: b :: rest) pos) (rM tA tB'):=
 (MC ha hb).weak fun σ H Q z0=>z0.el fun τ M R as am h k=>⟨τ,M,_,as,am,h,fun c H1 M1 k1 am1 h1=>by
  cases c with
  | true=>exact⟨τ,M1,R,as.kp am k1,am1,h1,fun b H' M' k' am' r=>k b H' M' (k1.trans k') am' r⟩
  | false=>exact k false H1 M1 k1 am1 h1⟩
theorem vP(ha:T3 X a tA)(hb:W3 X (.BoolOp .Or (b :: rest) pos) tB'):W3 X (.BoolOp .Or (a :: b :: rest) pos) (rN tA tB'):=
 (MD ha hb).weak fun σ H Q z0=>z0.el fun τ M R as am h k=>⟨τ,M,_,as,am,h,fun c H1 M1 k1 am1 h1=>by
  cases c with
  | true=>exact k true H1 M1 k1 am1 h1
  | false=>exact⟨τ,M1,R,as.kp am k1,am1,h1,fun b H' M' k' am' r=>k b H' M' (k1.trans k') am' r⟩⟩
theorem EK(ha:T3 X a tA):T3 X (.UnaryOp .Not a pos) (vL tA):=
 (ME ha).weak fun σ H Q z0=>z0.el fun τ M R as am h k=>⟨τ,M,_,as,am,h,fun c H1 M1 k1 am1 h1=>k (!c) H1 M1 k1 am1 h1⟩
def EL(ta tb:aY):aY:=fun τ M R=>ta τ M fun x M1=>∃ c,x=.bl c/\if c=true then tb τ M1 R else R (.bl false) M1
theorem S5{op}(h:E3 X a ta):E3 X (.BoolOp op [a] pos) ta:=MG h
theorem v_and(ha:E3 X a ta)(hb:E3 X (.BoolOp .And (b :: rest) pos) tb):E3 X (.BoolOp .And (a :: b :: rest) pos) (EL ta tb):=
 (MH ha hb).weak fun σ H Q z0=>z0.el fun τ M R as am h k=>⟨τ,M,_,as,am,h,fun x H1 wx M1 k1 am1 ax ⟨c,e,h1⟩=>by
  subst e
  refine⟨c,ax.bl_inv,?_⟩
  cases c with
  | true=>exact⟨τ,M1,R,as.kp am k1,am1,h1,k.kp k1⟩
  | false=>exact(k.kp k1).at am1 (.bl false) h1⟩
def rO(t:dQ)(ta tb:aY):aY:=fun τ M R=>t τ M fun c M1=>if c=true then ta τ M1 R else tb τ M1 R
theorem vQ{c:Expr}(hc:T3 X c tA)(ha:E3 X a ta)(hb:E3 X b tb):E3 X (.IfExp c a b pos) (rO tA ta tb):=
 (MJ hc ha hb).weak fun σ H Q z0=>z0.el fun τ M R as am h k=>⟨τ,M,_,as,am,h,fun c H1 M1 k1 am1 h1=>by
  cases c with
  | true=>exact⟨τ,M1,R,as.kp am k1,am1,h1,k.kp k1⟩
  | false=>exact⟨τ,M1,R,as.kp am k1,am1,h1,k.kp k1⟩⟩
def aD:dE:=fun _ M R=>R [] M
def aB(ta:aY)(tr:dE):dE:=fun τ M R=>ta τ M fun x M1=>tr τ M1 fun xs M2=>R (x :: xs) M2
variable {e:Expr}{es:List Expr}{te:aY}{t:dE}
theorem aF:A3 X [] aD:=O3.weak fun σ H Q z0=>z0.el fun τ M R as am h k=>k [] H [] M (Kp.refl am) am .nil h
theorem aC(ha:E3 X e te)(hr:A3 X es t)(hs:Bg (e :: es) X.env=(false,eval e X.env) :: Bg es X.env:=by rfl):A3 X (e :: es) (aB te t):=
 (O4 ha hr hs).weak fun σ H Q z0=>z0.el fun τ M R as am h k=>⟨τ,M,_,as,am,h,fun x H1 wx M1 k1 am1 ax h1=>⟨τ,M1,_,as.kp am k1,am1,h1,fun xs H2 ws M2 k2 am2 axs h2=>
  k (x :: xs) H2 (wx :: ws) M2 (k1.trans k2) am2 (.cons (ax.kp am1 k2) axs) h2⟩⟩
def bK(t:dE):aY:=fun τ M R=>t τ M fun ws M1=>ws.length<=Ak/\R (.tup ws) M1
def iC(t:dE):aY:=fun τ M R=>t τ M fun ws M1=>ws.length<=Ak/\aZ ws M1 R
theorem laidT{K:Ab}{H:Hp}{M:Mm}{R:K3}{Q:VK}{p:Addr}{xs:List V}{ws:List W}(am:AM K H M)(k:Up K H M R Q)(hp:H p=none)(ax:aL K H M xs ws)(r:R (.tup ws) M):Q (.ref p) (aR H p (.tup xs)):=by
 obtain⟨am2,k2⟩:=am.tup (u:=.tup xs) hp
 exact k _ _ _ _ k2 am2 (.tup cZ (ax.newT hp)) r
theorem iD{K:Ab}{H:Hp}{M:Mm}{R:K3}{Q:VK}{p:Addr}{xs:List V}{ws:List W}(am:AM K H M)(k:Up K H M R Q)(hp:H p=none)(ax:aL K H M xs ws)(r:∀ p,M p=none->R (.ref p) (put M p (.lst ws))):Q (.ref p) (aR H p (.lst xs)):=by
 obtain⟨am2,k2⟩:=am.laid (o:=.lst ws) (u:=.lst xs) hp ⟨xs,cZ,ax.newL hp⟩
 exact k _ _ _ _ k2 am2 (.ref p) (r p (am.nonM hp))
theorem pD{K:Ab}{H:Hp}{M:Mm}{R:K3}{Q:VK}{l:Addr}{xs:List V}{ws ws0:List W}{y:V}{w:W}(am:AM K H M)(k:Up K H M R Q)(hl:M l=some (.lst ws0))(ax:aL K H M xs ws)(ay:AV K H M y w)(r:R w (put M l (.lst ws))):Q y (aR H l (.lst xs)):=by
 obtain⟨am2,k2⟩:=am.write (o:=.lst ws) (u:=.lst xs) hl ⟨xs,cZ,ax.wr am hl⟩
 exact k _ _ _ _ k2 am2 (ay.wr am hl) r
theorem bR{x1}(h:A3 X es t):E3 X (.Tuple es x1 pos) (bK t):=
 (O7 h).weak fun σ H Q z0=>z0.el fun τ M R as am h k=>⟨τ,M,_,as,am,h,fun xs H1 ws M1 k1 am1 axs ⟨hl,r⟩=>⟨by rw[axs.length];exact hl,fun p hp=>laidT am1 (k.kp k1) hp axs r⟩⟩
theorem iY(h:A3 X es t):E3 X (.List es pos) (iC t):=
 (C6 h).weak fun σ H Q z0=>z0.el fun τ M R as am h k=>⟨τ,M,_,as,am,h,fun xs H1 ws M1 k1 am1 axs ⟨hl,r⟩=>⟨by rw[axs.length];exact hl,fun p hp=>iD am1 (k.kp k1) hp axs r⟩⟩
def bY(r:List W->Mm->K3->Prop)(t:dE):aY:=fun τ M R=>t τ M fun ws M1=>r ws M1 R
variable {x:Str}{p:Pos}{id T:String}{r:List W->Mm->K3->Prop}
theorem EM{K:Ab}{σ:SV}{H:Hp}{Q:VK}(h:up K (bY r t) σ H Q):uW (iB K r) (nJ K t) σ H Q:=by
 obtain⟨τ,M,R,as,am,h,k⟩:=h
 exact⟨τ,M,_,as,am,h,fun xs H1 ws M1 k1 am1 axs h1=>⟨ws,M1,R,am1,axs,h1,k.kp k1⟩⟩
theorem dZ(hc:eD X (.builtin id) (iB X.K r))(hg:Gl X x)(hm:X.mg x=none)(hv:Dv x=some (.builtin id))(ha:A3 X (e :: es) t)(hn:x≠"__name__":=by decide)(hdb:(x == ("__debug__" : Str))=false:=by decide)
  (hs:Bg (e :: es) X.env=(false,eval e X.env) :: Bg es X.env:=by rfl) (hpl:(Gf pos (Bg es X.env)).any (·.1)=false:=by rfl):E3 X (.Call (.Name x p) (e :: es) [] pos) (bY r t):=(PH hc hg hm hv ha hn hdb hs hpl).weak fun _ _ _ h=>EM h
theorem iE(hc:eD X (.type T) (iB X.K r))(hg:Gl X x)(hm:X.mg x=none)(hv:Dv x=some (.type T))(ha:A3 X (e :: es) t)(hn:x≠"__name__":=by decide)(hdb:(x == ("__debug__" : Str))=false:=by decide)
  (hs:Bg (e :: es) X.env=(false,eval e X.env) :: Bg es X.env:=by rfl) (hpl:(Gf pos (Bg es X.env)).any (·.1)=false:=by rfl):E3 X (.Call (.Name x p) (e :: es) [] pos) (bY r t):=(PJ hc hg hm hv ha hn hdb hs hpl).weak fun _ _ _ h=>EM h
abbrev bH:=List W->Mm->K3->Prop
def fV(K:Ab)(sp:bH):Sp:=fun vs H Q _=>∃ ws M R,AM K H M/\aL K H M vs ws/\sp ws M R/\Up K H M R Q
variable {k:Nat}{f:Addr}{fd:Bi}{ps:List Str}{sp:bH}
def bJ(sp:bH)(t:dE):aY:=fun τ M R=>t τ M fun ws M1=>sp ws M1 R
theorem EN{K:Ab}{σ:SV}{H:Hp}{Q:VK}(h:up K (bJ sp t) σ H Q):C7 (fV K sp) [] E0 (nJ K t) σ H Q:=by
 obtain⟨τ,M,R,as,am,h,k⟩:=h
 exact⟨τ,M,_,as,am,h,fun xs H1 ws M1 k1 am1 axs h1=>⟨ws,M1,R,am1,by rw[Ct];exact axs,h1,k.kp k1⟩⟩
theorem S6(F:eV X.prog X.w X.K X.mg X.base e9 k f fd ps (fV X.K sp))(hr:cF k X.A)(hg:Gl X x)(hm:X.mg x=some (.ref f))(hk:Eb X.K (.ref f)=true)(hb:Binds X.K fd ps [])
  (ha:A3 X (e :: es) t) (hdb:(x == ("__debug__" : Str))=false:=by decide) (he:Bg (e :: es) X.env=(false,eval e X.env) :: Bg es X.env:=by rfl) (hpl:(Gf pos (Bg es X.env)).any (·.1)=false:=by rfl) :
  E3 X (.Call (.Name x p) (e :: es) [] pos) (bJ sp t):=(O8 F hr hg hm hk hb .nil lI ha hdb he hpl).weak fun _ _ _ h=>EN h
def kK(T:String):W->Mm->Prop
 | .str _,_=>T = "str"
 | .int _,_=>T = "int"
 | .rl _,_=>T = "list"
 | .sc _,_=>T = "list"
 | .dk _,_=>T = "dict"
 | .dt _,_=>T = "dict"
 | .fk _,_=>T = "dict"
 | .ft _,_=>T = "dict"
 | .ref p,M=>(T = "list"/\∃ ws,M p=some (.lst ws))\/(T = "dict"/\((∃ kvs,M p=some (.dK kvs))\/∃ kvs,M p=some (.dT kvs)))
 | _,_=>False
theorem EO{K:Ab}{H:Hp}{M:Mm}{v:V}{w:W}(am:AM K H M)(av:AV K H M v w)(h:kK T w M):rA K T v H:=by
 cases av with
 | str y=>exact h
 | int i=>exact h
 | rl e n q=>exact .inl ⟨h,_,bQ.of e⟩
 | sc e q=>exact .inl ⟨h,_,e.sq⟩
 | dk e n ke q=>exact .inr (.inr (.inl ⟨h,.inl ⟨_,.inl e⟩⟩))
 | dt e n ke q=>exact .inr (.inr (.inl ⟨h,.inr ⟨_,.inl e⟩⟩))
 | ref p=>
  rcases h with⟨e,ws,h⟩ | ⟨e,h⟩
  ·obtain⟨vs,e1,_⟩:=am.lst h
   exact .inl ⟨e,vs,bQ.of e1⟩
  ·refine .inr (.inr (.inl ⟨e,?_⟩))
   rcases h with⟨kvs,h⟩ | ⟨kvs,h⟩
   ·obtain⟨ks,e1,_⟩:=am _ _ h;exact .inl ⟨ks,.inl e1⟩
   ·obtain⟨ks,e1,_⟩:=am _ _ h;exact .inr ⟨ks,.inl e1⟩
 | non=>exact h.elim
 | bl b=>exact h.elim
 | ty n=>exact h.elim
 | tup e q=>exact h.elim
 | fk e ke q=>exact .inr (.inr (.inl ⟨h,.inl ⟨_,.inr ⟨_,e⟩⟩⟩))
 | ft e ke q=>exact .inr (.inr (.inl ⟨h,.inr ⟨_,.inr ⟨_,e⟩⟩⟩))
variable {o:Expr}{to:aY}{name:Str}{apos cpos:Pos}{rm:W->List W->Mm->K3->Prop}
def rP(T:String)(r:W->List W->Mm->K3->Prop)(to:aY):aY:=fun τ M R=>to τ M fun x M1=>kK T x M1/\r x [] M1 R
def cQ(T:String)(r:W->List W->Mm->K3->Prop)(to:aY)(t:dE):aY:=fun τ M R=>to τ M fun x M1=>kK T x M1/\t τ M1 fun xs M2=>r x xs M2 R
theorem vR(pa:PlainAttrs T)(slot:Slot T name id)(hty:typeOf (.builtin id)=pure (.type "method_descriptor"))(hm:iX X id (jW X.K rm))(ho:E3 X o to)
  (hbase:Ik o name X.env (eval o X.env)=eval o X.env:=by rfl) (hline:(apos.endLine == cpos.line)=true:=by rfl):E3 X (.Call (.Attribute o name apos) [] [] cpos) (rP T rm to):=
 (QT pa slot hty hm ho hbase hline).weak fun σ H Q z0=>z0.el fun τ M R as am h k=>⟨τ,M,_,as,am,h,fun x H1 wx M1 k1 am1 ax ⟨ty,h1⟩=>⟨EO am1 ax ty,wx,[],M1,R,am1,ax,.nil,h1,k.kp k1⟩⟩
theorem eE(pa:PlainAttrs T)(slot:Slot T name id)(hty:typeOf (.builtin id)=pure (.type "method_descriptor"))(hm:iX X id (jW X.K rm))(ho:E3 X o to)(ha:A3 X (e :: es) t)
  (hbase:Ik o name X.env (eval o X.env)=eval o X.env:=by rfl)
  (hfew:((Gf cpos (Bg (e :: es) X.env)).all (fun x=>!x.1) && (backToKw cpos (Kw [] X.env)).all (fun x=>x.1.isSome)
   && decide ((e :: es).length + ([]:List Keyword).length + (if ([]:List Keyword).isEmpty then 0 else 1) < 30))=true:=by rfl)
  (hline:(apos.endLine == cpos.line)=true:=by rfl) (hs:Bg (e :: es) X.env=(false,eval e X.env) :: Bg es X.env:=by rfl) (hplain:(Gf cpos (Bg es X.env)).any (·.1)=false:=by rfl) :
  E3 X (.Call (.Attribute o name apos) (e :: es) [] cpos) (cQ T rm to t):=
 (QU pa slot hty hm ho ha hbase hfew hline hs hplain).weak fun σ H Q z0=>z0.el fun τ M R as am h k=>⟨τ,M,_,as,am,h,fun x H1 wx M1 k1 am1 ax ⟨ty,h1⟩=>⟨EO am1 ax ty,τ,M1,_,as.kp am k1,am1,h1,fun xs H2 ws M2 k2 am2 axs h2=>
  ⟨wx,ws,M2,R,am2,ax.kp am1 k2,axs,h2,(k.kp k1).kp k2⟩⟩⟩
end
section
variable {X:Cx}
theorem jY{f:Ae->Ae->Sem Ae}{r:R2}{r3:R3}(h0:bD X f r)(h:∀ x y H Q M R,AM X.K H M->Up X.K H M R Q->∀ wx wy,r3 wx wy M R->AV X.K H M x wx->AV X.K H M y wy->r x y H Q):bD X f (cX X.K r3):=
 fun pins s σ H x y v u Q I rx ry ⟨wx,wy,M,R,am,ax,ay,h1,k⟩=>h0 pins s σ H x y v u Q I rx ry (h x y H Q M R am k wx wy h1 ax ay)
theorem S7{r:R2}{r3:R3}(h0:iW X r)(h:∀ x y H Q M R,AM X.K H M->Up X.K H M R Q->∀ wx wy,r3 wx wy M R->AV X.K H M x wx->AV X.K H M y wy->r x y H Q):iW X (cX X.K r3):=
 fun value slice pins s σ H x y v u Q I rx ry ⟨wx,wy,M,R,am,ax,ay,h1,k⟩=>h0 value slice pins s σ H x y v u Q I rx ry (h x y H Q M R am k wx wy h1 ax ay)
theorem vS{f:Ae}{r:List V->Hp->VK->Prop}{r3:List W->Mm->K3->Prop}(h0:eD X f r)(h:∀ xs H Q M R,AM X.K H M->Up X.K H M R Q->∀ ws,r3 ws M R->aL X.K H M xs ws->r xs H Q):eD X f (iB X.K r3):=
 fun pins s σ H xs us Q I rs ⟨ws,M,R,am,ax,h1,k⟩=>h0 pins s σ H xs us Q I rs (h xs H Q M R am k ws h1 ax)
def vT:R3
 | .int i,.int j,M,R=>R (.int (i + j)) M
 | .tup xs,.tup ys,M,R=>xs≠[]/\xs.length + ys.length<=Ak/\R (.tup (xs ++ ys)) M
 | .ref a,.ref b,M,R=>∃ xs ys,M a=some (.lst xs)/\M b=some (.lst ys)/\xs.length + ys.length<=Ak/\aZ (xs ++ ys) M R
 | .rl xs,.ref b,M,R=>∃ ys,M b=some (.lst ys)/\xs.length + ys.length<=Ak/\aZ (xs ++ ys) M R
 | .ref a,.rl ys,M,R=>∃ xs,M a=some (.lst xs)/\xs.length + ys.length<=Ak/\aZ (xs ++ ys) M R
 | .rl xs,.rl ys,M,R=>xs.length + ys.length<=Ak/\aZ (xs ++ ys) M R
 | _,_,_,_=>False
def kL(M:Mm):W->List W->Prop
 | .ref a,ws=>M a=some (.lst ws)
 | .rl ws,zs=>ws=zs
 | _,_=>False
theorem lK{K:Ab}{H:Hp}{M:Mm}{v:V}{w:W}{ws:List W}(am:AM K H M)(h:AV K H M v w)(e:kL M w ws):∃ a xs,v=.ref a/\H a=some (.lst xs)/\aL K H M xs ws:=by
 cases w <;> first | exact(show False from e).elim | skip
 case ref a=>exact am.lstE e fun xs f q=>⟨_,_,h.inv,f,q⟩
 case rl zs=>exact h.rlE fun a xs e1 f q=>⟨_,_,e1,f,by rw[<-show zs=ws from e];exact q⟩
theorem S8{P:W->W->Prop}{M:Mm}{R:K3}(c1:∀ i j,R (.int (i + j)) M->P (.int i) (.int j))(c2:∀ xs ys,xs≠[]/\xs.length + ys.length<=Ak/\R (.tup (xs ++ ys)) M->P (.tup xs) (.tup ys))
  (c3:∀ x y xs ys,kL M x xs->kL M y ys->xs.length + ys.length<=Ak->aZ (xs ++ ys) M R->P x y):∀ x y,vT x y M R->P x y:=by
 intro x y h
 cases x <;> first | exact(show False from h).elim | (cases y <;> first | exact(show False from h).elim | skip)
 case int.int=>exact c1 _ _ h
 case tup.tup=>exact c2 _ _ h
 case ref.ref=>obtain⟨xs,ys,e,f,l,r⟩:=h;exact c3 _ _ _ _ e f l r
 case rl.ref=>obtain⟨ys,f,l,r⟩:=h;exact c3 _ _ _ _ rfl f l r
 case ref.rl=>obtain⟨xs,e,l,r⟩:=h;exact c3 _ _ _ _ e rfl l r
 case rl.rl=>exact c3 _ _ _ _ rfl rfl h.1 h.2
theorem ER:bD X (Fe .Add) (cX X.K vT):=jY (NZ.or (P4.or QY)) fun x y H Q M R am k=>S8
 (fun i j h ax ay=>.inl ⟨i,j,ax.inv,ay.inv,k.at am (.int _) h⟩)
 (fun xs ys h ax ay=>ax.tupE fun a us e1 f1 q1=>ay.tupE fun b vs e2 f2 q2=>.inr (.inl ⟨a,b,us,vs,e1,e2,cD.of f1,cD.of f2,
  fun z=>h.1 (Gp.mp (by rw[<-q1.length,z];rfl)),by rw[q1.length,q2.length];exact h.2.1,
  fun z=>k.at am (by rw[<-e1];exact ax) (by rw[<-Ct xs,<-Gp.mp (show ys.length=0 by rw[<-q2.length,z];rfl)];exact h.2.2),
  fun _ p hp=>laidT am k hp (q1.append q2) h.2.2⟩))
 (fun wx wy xs ys h1 h2 l r ax ay=>.inr (.inr (by
  obtain⟨a,us,e1,f1,q1⟩:=lK am ax h1
  obtain⟨b,vs,e2,f2,q2⟩:=lK am ay h2
  exact⟨a,b,us,vs,e1,e2,f1,f2,by rw[q1.length,q2.length];exact l,fun p hp=>iD am k hp (q1.append q2) r⟩)))
def pE(C:Int->Int->Prop)(g:Int->Int->W):R3
 | .int i,.int j,M,R=>C i j/\R (g i j) M
 | _,_,_,_=>False
theorem S9{C:Int->Int->Prop}{g:Int->Int->W}{P:W->W->Prop}{M:Mm}{R:K3}(c:∀ i j,C i j/\R (g i j) M->P (.int i) (.int j))(x y:W)(h:pE C g x y M R):P x y:=by
 cases x <;> first | exact(show False from h).elim | (cases y <;> first | exact(show False from h).elim | exact c _ _ h)
theorem vU{f:Ae->Ae->Sem Ae}{C:Int->Int->Prop}{g:Int->Int->V}{g':Int->Int->W}(h0:bD X f (rI C g))(hg:∀ H M i j,AV X.K H M (g i j) (g' i j)):bD X f (cX X.K (pE C g')):=
 jY h0 fun x y H Q M R am k=>S9 fun i j h ax ay=>⟨i,j,ax.inv,ay.inv,h.1,k.at am (hg H M i j) h.2⟩
def nK(g:Int->Int->W):R3
 | .int i,.int j,M,R=>R (g i j) M
 | _,_,_,_=>False
theorem TB{g:Int->Int->W}{P:W->W->Prop}{M:Mm}{R:K3}(c:∀ i j,R (g i j) M->P (.int i) (.int j))(x y:W)(h:nK g x y M R):P x y:=by
 cases x <;> first | exact(show False from h).elim | (cases y <;> first | exact(show False from h).elim | exact c _ _ h)
theorem rQ{f:Ae->Ae->Sem Ae}{g:Int->Int->V}{g':Int->Int->W}(h0:bD X f (k9 g))(hg:∀ H M i j,AV X.K H M (g i j) (g' i j)):bD X f (cX X.K (nK g')):=
 jY h0 fun x y H Q M R am k=>TB fun i j h ax ay=>⟨i,j,ax.inv,ay.inv,k.at am (hg H M i j) h⟩
abbrev mL:R3:=nK fun i j=>.int (i - j)
theorem nL:bD X (Fe .Sub) (cX X.K mL):=rQ N0 fun _ _ _ _=>.int _
abbrev fR:R3:=pE D5 fun i j=>.int (i / j)
theorem g6:bD X (Fe .FloorDiv) (cX X.K fR):=vU RZ fun _ _ _ _=>.int _
abbrev d3:R3:=pE (fun _ j=>0 < j) fun i j=>.int (i % j)
theorem eZ:bD X (Fe .Mod) (cX X.K d3):=vU N3 fun _ _ _ _=>.int _
abbrev vV:R3:=pE CU fun i j=>.int (i ^ j.toNat)
theorem ES:bD X (Fe .Pow) (cX X.K vV):=vU N4 fun _ _ _ _=>.int _
def ET:R3
 | .int i,.int j,M,R=>(nD i j\/rG i j)/\R (.int (i * j)) M
 | .ref a,.int n,M,R=>∃ xs,M a=some (.lst xs)/\-(2 ^ 63)<=n/\n < 2 ^ 63/\xs.length * n.toNat<=Ak/\aZ (Bw n.toNat xs).flatten M R
 | .rl xs,.int n,M,R=>-(2 ^ 63)<=n/\n < 2 ^ 63/\xs.length * n.toNat<=Ak/\aZ (Bw n.toNat xs).flatten M R
 | _,_,_,_=>False
theorem TC{P:W->W->Prop}{M:Mm}{R:K3}(c1:∀ i j,(nD i j\/rG i j)/\R (.int (i * j)) M->P (.int i) (.int j))
  (c3:∀ x n xs,kL M x xs->-(2 ^ 63)<=n/\n < 2 ^ 63/\xs.length * n.toNat<=Ak/\aZ (Bw n.toNat xs).flatten M R->P x (.int n)):∀ x y,ET x y M R->P x y:=by
 intro x y h
 cases x <;> first | exact(show False from h).elim | (cases y <;> first | exact(show False from h).elim | skip)
 case int.int=>exact c1 _ _ h
 case ref.int=>obtain⟨xs,e,h⟩:=h;exact c3 _ _ _ e h
 case rl.int=>exact c3 _ _ _ rfl h
theorem TF:bD X (Fe .Mult) (cX X.K ET):=jY (N2.or (RY.or Q2)) fun x y H Q M R am k=>TC
 (fun i j h ax ay=>h.1.elim (fun z=>.inl ⟨i,j,ax.inv,ay.inv,z,k.at am (.int _) h.2⟩) fun z=>.inr (.inl ⟨i,j,ax.inv,ay.inv,z,k.at am (.int _) h.2⟩))
 (fun wx n xs h1 h ax ay=>.inr (.inr (by
  obtain⟨a,us,e1,f1,q1⟩:=lK am ax h1
  exact⟨a,n,us,e1,ay.inv,f1,h.1,h.2.1,by rw[q1.length];exact h.2.2.1,fun p hp=>iD am k hp (q1.flatRep _) h.2.2.2⟩)))
def jJ:W->Mm->K3->Prop
 | .int i,M,R=>R (.int (-i)) M
 | _,_,_=>False
theorem jZ:oS X (unaryOp .USub) (EJ X.K jJ):=by
 rintro pins s σ H x v Q I rx ⟨wx,M,R,am,ax,h,k⟩
 cases wx <;> first | exact(show False from h).elim | skip
 case int i=>exact N6 pins s σ H _ v Q I rx ⟨i,ax.inv,k.at am (.int _) h⟩
def lL:R3:=nK fun i j=>.bl (decide (i < j))
theorem nM:bD X (Ci .Lt) (cX X.K lL):=rQ OA fun _ _ _ _=>.bl _
abbrev vW:R3:=nK fun i j=>.bl (decide (j < i))
theorem EU:bD X (Ci .Gt) (cX X.K vW):=rQ OB fun _ _ _ _=>.bl _
abbrev EV:R3:=nK fun i j=>.bl (decide (j<=i))
theorem TH:bD X (Ci .GtE) (cX X.K EV):=rQ OC fun _ _ _ _=>.bl _
def isNon:W->Bool
 | .non=>true
 | _=>false
def lM(neg:Bool):R3
 | x,.non,M,R=>R (.bl (if neg then !isNon x else isNon x)) M
 | _,_,_,_=>False
theorem AV.isNon{K:Ab}{H:Hp}{M:Mm}{v:V}{w:W}(h:AV K H M v w):decide (v=.non)=L3.isNon w:=by cases h <;> rfl
theorem EW{n:Bool}{P:W->W->Prop}{M:Mm}{R:K3}(c:∀ x,R (.bl (if n then !isNon x else isNon x)) M->P x .non)(x y:W)(h:lM n x y M R):P x y:=by
 cases y <;> first | exact(show False from h).elim | exact c _ h
theorem TJ:bD X (Ci .Is) (cX X.K (lM false)):=jY OE fun x y H Q M R am k=>EW fun w h ax ay=>⟨ay.inv,by rw[ax.isNon];exact k.at am (.bl _) h⟩
theorem rR:bD X (Ci .IsNot) (cX X.K (lM true)):=jY OF fun x y H Q M R am k=>EW fun w h ax ay=>⟨ay.inv,by rw[ax.isNon];exact k.at am (.bl _) h⟩
mutual
inductive Snap(M:Mm):W->Ko->Prop
 | non:Snap M .non .none
 | bl (b:Bool):Snap M (.bl b) (.bool b)
 | int (i:Int):Snap M (.int i) (.int i)
 | str (x:Str):Snap M (.str x) (.str x)
 | tup {ws:List W} {ds:List Ko}:iO M ws ds->Snap M (.tup ws) (.tuple ds)
 | rl {ws:List W} {ds:List Ko}:iO M ws ds->Snap M (.rl ws) (.list ds)
 | ref {a:Addr} {ws:List W} {ds:List Ko}:M a=some (.lst ws)->iO M ws ds->Snap M (.ref a) (.list ds)
inductive iO(M:Mm):List W->List Ko->Prop
 | nil:iO M [] []
 | cons {w:W} {ws:List W} {d:Ko} {ds:List Ko}:Snap M w d->iO M ws ds->iO M (w :: ws) (d :: ds)
end
section
variable {pins:List (Addr×Obj)}{σ:SV}{H:Hp}{s:Ag}{M:Mm}
theorem iO.reads(I:Inv X pins σ H s)(am:AM X.K H M){ws:List W}{ds:List Ko}(h:iO M ws ds):∀ {vs:List V} {us:List Ae},aL X.K H M vs ws->a5 vs us->∃ as,ReadsAll s.heap us ds as:=
 iO.rec (motive_1:=fun w d _=>∀ {v:V} {u:Ae},AV X.K H M v w->RelV v u->∃ as,Reads s.heap u d as) (motive_2:=fun ws ds _=>∀ {vs:List V} {us:List Ae},aL X.K H M vs ws->a5 vs us->∃ as,ReadsAll s.heap us ds as)
  (fun av r=>by rw[show _=_ from av.inv] at r;rw[show _=_ from r];exact⟨_,.none⟩)
  (fun b _ _ av r=>by rw[show _=_ from av.inv] at r;rw[show _=_ from r];exact⟨_,.bool b⟩)
  (fun i _ _ av r=>by rw[show _=_ from av.inv] at r;exact r.elim fun t r=>by rw[r];exact⟨_,.int i t⟩)
  (fun x _ _ av r=>by rw[show _=_ from av.inv] at r;exact r.elim fun t r=>by rw[r];exact⟨_,.str x t⟩)
  (fun _ ih _ _ av r=>av.tupE fun a xs e f q=>by
   rw[e] at r;rw[show _=_ from r]
   obtain⟨its,rv,⟨o,e1,e2,n,e3⟩,_⟩:=I.tuple (cD.of f)
   exact(ih q rv).elim fun as z=>⟨_,.tuple e1 e2 e3 (by simpa using z)⟩)
  (fun _ ih _ _ av r=>av.rlE fun a xs e f q=>by
   rw[e] at r;rw[show _=_ from r]
   obtain⟨its,rv,pl,_⟩:=I.list (bQ.of f)
   obtain⟨o,e1,e2,n,e3⟩:=pl.isList
   exact(ih q rv).elim fun as z=>⟨_,.list e1 e2 e3 (by simpa using z)⟩)
  (fun e0 _ ih _ _ av r=>am.lstE e0 fun vs f q=>by
   rw[show _=_ from av.inv] at r;rw[show _=_ from r]
   obtain⟨its,rv,pl,_⟩:=I.list (bQ.of f)
   obtain⟨o,e1,e2,n,e3⟩:=pl.isList
   exact(ih q rv).elim fun as z=>⟨_,.list e1 e2 e3 (by simpa using z)⟩)
  (fun av r=>by cases av;cases r;exact⟨_,.nil⟩)
  (fun _ _ ih1 ih2 _ _ av r=>by
   cases av with
   | cons a b=>
    cases r with
    | cons r1 r2=>exact(ih1 a r1).elim fun x q1=>(ih2 b r2).elim fun y q2=>⟨_,.cons q1 q2⟩) h
theorem Snap.reads(I:Inv X pins σ H s)(am:AM X.K H M){w:W}{d:Ko}{v:V}{u:Ae}(h:Snap M w d)(av:AV X.K H M v w)(r:RelV v u):∃ as,Reads s.heap u d as:=
 (iO.reads I am (.cons h .nil) (.cons av .nil) (.cons r .nil)).elim fun _ z=>by
  cases z with
  | cons q _=>exact⟨_,q⟩
end
def pF(neg:Bool):R3:=fun x y M R=>∃ da db,Snap M x da/\Snap M y db/\EA da/\EA db/\R (.bl (if neg then !PyData.eqv da db else Ib da db)) M
def rEq(neg:Bool):R3
 | .int i,.int j,M,R=>R (.bl (if neg then !decide (i=j) else decide (i=j))) M
 | .str i,.str j,M,R=>R (.bl (if neg then !decide (i=j) else decide (i=j))) M
 | .bl i,.bl j,M,R=>R (.bl (if neg then !decide (i=j) else decide (i=j))) M
 | x,y,M,R=>pF neg x y M R
theorem EX{i j:Int}:decide (V.int i=V.int j)=decide (i=j):=by rw[Dr];simp
theorem EY{i j:Str}:decide (V.str i=V.str j)=decide (i=j):=by rw[Dr];simp
theorem EZ{i j:Bool}:decide (V.bl i=V.bl j)=decide (i=j):=by rw[Dr];simp
theorem E2{n:Bool}{P:W->W->Prop}{M:Mm}{R:K3}(c1:∀ i j,R (.bl (if n then !decide (i=j) else decide (i=j))) M->P (.int i) (.int j))(c2:∀ i j,R (.bl (if n then !decide (i=j) else decide (i=j))) M->P (.str i) (.str j))
  (c3:∀ i j,R (.bl (if n then !decide (i=j) else decide (i=j))) M->P (.bl i) (.bl j)) (c4:∀ x y,pF n x y M R->P x y) (x y:W) (h:rEq n x y M R):P x y:=by
 cases x <;> first | exact c4 _ _ h | (cases y <;> first | exact c1 _ _ h | exact c2 _ _ h | exact c3 _ _ h | exact c4 _ _ h)
theorem sV{i j:V}{x y:V}(e:x=i)(f:y=j)(h:qX i j=true):qX x y=true:=by rw[e,f];exact h
theorem dV{i j:V}{x y:V}{b:Bool}{Q:Bool->Prop}(e:x=i)(f:y=j)(h:decide (i=j)=b)(q:Q b):Q (decide (x=y)):=by rw[e,f,h];exact q
theorem TL(hu:X.A.units + 64 < Ff):bD X (Ci .Eq) (cX X.K (pF false)):=by
 rintro pins s σ H x y v u Q I rx ry ⟨wx,wy,M,R,am,ax,ay,⟨da,db,ha,hb,fa,fb,q⟩,k⟩
 obtain⟨as,ra⟩:=ha.reads I am ax rx
 obtain⟨bs,rb⟩:=hb.reads I am ay ry
 exact SeqAt.compareEq_reads ra rb fa.1 fb.1 (Ka (Lx (Ao (Gh _ _) (Ao fa.2 (by decide))) _) hu) ⟨.bl _,H,I,rfl,k.at am (.bl _) q⟩
theorem TM(hu:X.A.units + 64 < Ff):bD X (Ci .NotEq) (cX X.K (pF true)):=by
 rintro pins s σ H x y v u Q I rx ry ⟨wx,wy,M,R,am,ax,ay,⟨da,db,ha,hb,fa,fb,q⟩,k⟩
 obtain⟨as,ra⟩:=ha.reads I am ax rx
 obtain⟨bs,rb⟩:=hb.reads I am ay ry
 exact SeqAt.compareNe_reads ra rb fa.1 fb.1 (Ka (Lx (Ao (Gh _ _) (Ao fa.2 (by decide))) _) hu) ⟨.bl _,H,I,rfl,k.at am (.bl _) q⟩
theorem iF(hu:X.A.units + 64 < Ff):bD X (Ci .Eq) (cX X.K (rEq false)):=jY (N8.or (TL hu)) fun x y H Q M R am k=>E2
 (fun i j h ax ay=>.inl ⟨sV ax.inv ay.inv rfl,dV (Q:=fun b=>Q (.bl b) H) ax.inv ay.inv EX (k.at am (.bl _) h)⟩)
 (fun i j h ax ay=>.inl ⟨sV ax.inv ay.inv rfl,dV (Q:=fun b=>Q (.bl b) H) ax.inv ay.inv EY (k.at am (.bl _) h)⟩)
 (fun i j h ax ay=>.inl ⟨sV ax.inv ay.inv rfl,dV (Q:=fun b=>Q (.bl b) H) ax.inv ay.inv EZ (k.at am (.bl _) h)⟩)
 (fun wx wy h ax ay=>.inr ⟨wx,wy,M,R,am,ax,ay,h,k⟩)
theorem mM(hu:X.A.units + 64 < Ff):bD X (Ci .NotEq) (cX X.K (rEq true)):=jY (N9.or (TM hu)) fun x y H Q M R am k=>E2
 (fun i j h ax ay=>.inl ⟨sV ax.inv ay.inv rfl,dV (Q:=fun b=>Q (.bl !b) H) ax.inv ay.inv EX (k.at am (.bl _) h)⟩)
 (fun i j h ax ay=>.inl ⟨sV ax.inv ay.inv rfl,dV (Q:=fun b=>Q (.bl !b) H) ax.inv ay.inv EY (k.at am (.bl _) h)⟩)
 (fun i j h ax ay=>.inl ⟨sV ax.inv ay.inv rfl,dV (Q:=fun b=>Q (.bl !b) H) ax.inv ay.inv EZ (k.at am (.bl _) h)⟩)
 (fun wx wy h ax ay=>.inr ⟨wx,wy,M,R,am,ax,ay,h,k⟩)
def wK:aG->W
 | .inl i=>.int i
 | .inr x=>.str x
def bA{κ:Type}[DecidableEq κ](kvs:List (κ×W))(k:κ):Option W:=(kvs.find? fun kv=>decide (kv.1=k)).map (·.2)
def cE{κ:Type}[DecidableEq κ](kvs:List (κ×W))(k:κ)(v:W):List (κ×W):=
 if (kvs.any fun kv=>decide (kv.1=k))=true then kvs.map (fun kv=>if kv.1=k then(kv.1,v) else kv) else kvs ++ [(k,v)]
theorem AV.key{K:Ab}{H:Hp}{M:Mm}{v:V}{k:aG}(h:AV K H M v (wK k)):v=kV k:=by
 cases k <;> exact h.inv
theorem aL.keys{K:Ab}{H:Hp}{M:Mm}:∀ {vs:List V} {k:List aG},aL K H M vs (k.map wK)->vs=k.map kV
 | _,[],h=>by cases h;rfl
 | _,a :: r,h=>by
  cases h with
  | cons x y=>rw[x.key,aL.keys y];rfl
section
variable {κ:Type}[DecidableEq κ]{K:Ab}{H:Hp}{M:Mm}
theorem rS{ks:List (κ×V)}{kvs:List (κ×W)}(h:bV K H M κ ks kvs)(k:κ):(bA kvs k=none/\gA ks k=none)\/∃ v w,bA kvs k=some w/\gA ks k=some v/\AV K H M v w:=by
 induction h with
 | nil=>exact .inl ⟨rfl,rfl⟩
 | @cons p q ps qs r t ih=>
  by_cases e:p.1=k
  ·refine .inr ⟨p.2,q.2,?_,?_,r.2⟩
   ·unfold bA;rw[Fc,decide_eq_true (by rw[<-r.1];exact e)];rfl
   ·exact rC e
  ·have e2:¬ q.1=k:=by rw[<-r.1];exact e
   have l:bA (q :: qs) k=bA qs k:=by unfold bA;rw[Fc,decide_eq_false e2]
   rw[l,rD e]
   exact ih
theorem TN{ks:List (κ×V)}{kvs:List (κ×W)}(h:bV K H M κ ks kvs)(k:κ):(ks.any fun kv=>decide (kv.1=k))=(kvs.any fun kv=>decide (kv.1=k)):=by
 induction h with
 | nil=>rfl
 | cons r t ih=>rw[Fw,Fw,ih,r.1]
theorem TQ{ks:List (κ×V)}{kvs:List (κ×W)}{v:V}{w:W}{k:κ}(av:AV K H M v w)(h:bV K H M κ ks kvs):bV K H M κ (ks.map (fun kv=>if kv.1=k then(kv.1,v) else kv)) (kvs.map (fun kv=>if kv.1=k then(kv.1,w) else kv)):=by
 induction h with
 | nil=>exact .nil
 | @cons p q ps qs r t ih=>
  rw[Bc,Bc]
  refine .cons ?_ ih
  by_cases e:p.1=k
  ·rw[if_pos e,if_pos (by rw[<-r.1];exact e)];exact⟨r.1,av⟩
  ·rw[if_neg e,if_neg (by rw[<-r.1];exact e)];exact r
theorem TR{ks:List (κ×V)}{kvs:List (κ×W)}{v:V}{w:W}{k:κ}(av:AV K H M v w)(h:bV K H M κ ks kvs):bV K H M κ (ks ++ [(k,v)]) (kvs ++ [(k,w)]):=by
 induction h with
 | nil=>exact .cons ⟨rfl,av⟩ .nil
 | cons r t ih=>exact .cons r ih
theorem rT{ks:List (κ×V)}{kvs:List (κ×W)}{v:V}{w:W}(h:bV K H M κ ks kvs)(k:κ)(av:AV K H M v w):bV K H M κ (eY ks k v) (cE kvs k w):=by
 unfold eY cE
 rw[TN h k]
 split
 ·exact TQ av h
 ·exact TR av h
end
def fA(M:Mm):W->W->Option W->Prop
 | .ref a,y,o=>(∃ kvs k,M a=some (.dK kvs)/\y=wK k/\o=bA kvs k)\/∃ kvs k,M a=some (.dT kvs)/\y=.tup (k.map wK)/\o=bA kvs k
 | .dk kvs,y,o=>∃ k,y=wK k/\o=bA kvs k
 | .dt kvs,y,o=>∃ k,y=.tup (k.map wK)/\o=bA kvs k
 | .fk kvs,y,o=>∃ k,y=wK k/\o=bA kvs k
 | .ft kvs,y,o=>∃ k,y=.tup (k.map wK)/\o=bA kvs k
 | _,_,_=>False
theorem vX{K:Ab}{H:Hp}{M:Mm}{a:Addr}{y:V}{k:aG}{ks:List (aG×V)}{kvs:List (aG×W)}(e1:Rd H a (.dK ks))(q:bV K H M aG ks kvs)(ay:AV K H M y (wK k)):(bA kvs k=none/\gZ H a y none)\/∃ v w,bA kvs k=some w/\gZ H a y (some v)/\AV K H M v w:=by
 rw[ay.key]
 rcases rS q k with⟨l1,l2⟩ | ⟨v,w,l1,l2,av⟩
 ·exact .inl ⟨l1,by rw[<-l2];exact .inl ⟨_,_,e1,rfl,rfl⟩⟩
 ·exact .inr ⟨v,w,l1,by rw[<-l2];exact .inl ⟨_,_,e1,rfl,rfl⟩,av⟩
theorem vY{K:Ab}{H:Hp}{M:Mm}{a:Addr}{y:V}{k:List aG}{ks:List (List aG×V)}{kvs:List (List aG×W)}(e1:Rd H a (.dT ks))(q:bV K H M (List aG) ks kvs)(ay:AV K H M y (.tup (k.map wK))):(bA kvs k=none/\gZ H a y none)\/∃ v w,bA kvs k=some w/\gZ H a y (some v)/\AV K H M v w:=
 ay.tupE fun b xs e eb qb=>by
  rw[qb.keys] at eb
  rcases rS q k with⟨l1,l2⟩ | ⟨v,w,l1,l2,av⟩
  ·exact .inl ⟨l1,by rw[<-l2];exact .inr ⟨_,_,_,e1,e,eb,rfl⟩⟩
  ·exact .inr ⟨v,w,l1,by rw[<-l2];exact .inr ⟨_,_,_,e1,e,eb,rfl⟩,av⟩
theorem rV{K:Ab}{H:Hp}{M:Mm}{x y:V}{wx wy:W}{o:Option W}(am:AM K H M)(ax:AV K H M x wx)(ay:AV K H M y wy)(h:fA M wx wy o):∃ a,x=.ref a/\((o=none/\gZ H a y none)\/∃ v w,o=some w/\gZ H a y (some v)/\AV K H M v w):=by
 cases wx <;> first | exact(show False from h).elim | skip
 case ref a=>
  rcases h with⟨kvs,k,e,rfl,rfl⟩ | ⟨kvs,k,e,rfl,rfl⟩
  ·obtain⟨ks,e1,q⟩:=am _ _ e
   exact⟨a,ax.inv,vX (.inl e1) q ay⟩
  ·obtain⟨ks,e1,q⟩:=am _ _ e
   exact⟨a,ax.inv,vY (.inl e1) q ay⟩
 all_goals
  obtain⟨k,rfl,rfl⟩:=h
  have ax:=ax.inv
 case dk=>obtain⟨a,ks,e,f,_,q⟩:=ax;exact⟨a,e,vX (.inl f) q ay⟩
 case dt=>obtain⟨a,ks,e,f,_,q⟩:=ax;exact⟨a,e,vY (.inl f) q ay⟩
 case fk=>obtain⟨a,ks,e,f,q⟩:=ax;exact⟨a,e,vX (.inr f) q ay⟩
 case ft=>obtain⟨a,ks,e,f,q⟩:=ax;exact⟨a,e,vY (.inr f) q ay⟩
def aW:R3
 | .tup ws,.int i,M,R=>∃ w,cC ws i=some w/\R w M
 | .rl ws,.int i,M,R=>∃ w,cC ws i=some w/\R w M
 | .sc ws,.int i,M,R=>∃ w,cC ws i=some w/\R w M
 | .dk kvs,y,M,R=>∃ w,fA M (.dk kvs) y (some w)/\R w M
 | .dt kvs,y,M,R=>∃ w,fA M (.dt kvs) y (some w)/\R w M
 | .fk kvs,y,M,R=>∃ w,fA M (.fk kvs) y (some w)/\R w M
 | .ft kvs,y,M,R=>∃ w,fA M (.ft kvs) y (some w)/\R w M
 | .str z,.int i,M,R=>z.length<=Ak/\∃ c,cC z.cps.toList i=some c/\R (.str ⟨#[c]⟩) M
 | .ref a,.int i,M,R=>(∃ ws w,M a=some (.lst ws)/\cC ws i=some w/\R w M)\/∃ w,fA M (.ref a) (.int i) (some w)/\R w M
 | .ref a,y,M,R=>∃ w,fA M (.ref a) y (some w)/\R w M
 | _,_,_,_=>False
theorem vZ{K:Ab}{H:Hp}{M:Mm}{vs:List V}{ws:List W}{i:Int}{w:W}(q:aL K H M vs ws)(h:cC ws i=some w):∃ v,cC vs i=some v/\AV K H M v w:=by
 unfold cC at h ⊢
 rw[q.length]
 cases e:gX ws.length i with
 | none=>rw[e] at h;cases h
 | some j=>
  rw[e] at h
  exact q.getW (i:=j) h
theorem TU(hu:X.A.units + 1 < Ff):iW X (fun x y H Q=>∃ a v,x=.ref a/\gZ H a y (some v)/\Q v H):=by
 intro value slice pins s σ H x y v u Q I rx ry h hs
 obtain⟨a,z,rfl,g,q⟩:=h
 cases rx
 exact tail_any (RB I g) PySem.F.slot_dict_getitem.lookup (Q5 hu I g ry fun w' s3 I3 rw'=>⟨z,H,I3,rw',q⟩) hs
theorem TV{P:W->W->Prop}{M:Mm}{R:K3}(c1:∀ ws i w,cC ws i=some w->R w M->P (.tup ws) (.int i))(c2:∀ ws i w,cC ws i=some w->R w M->P (.sc ws) (.int i))
  (c3:∀ x ws i w,kL M x ws->cC ws i=some w->R w M->P x (.int i)) (c4:∀ z i,z.length<=Ak/\(∃ c,cC z.cps.toList i=some c/\R (.str ⟨#[c]⟩) M)->P (.str z) (.int i))
  (c5:∀ x y w,fA M x y (some w)->R w M->P x y) (x y:W) (h:aW x y M R):P x y:=by
 cases x
 case non | bl | int | ty=>exact(show False from h).elim
 case dk | dt | fk | ft=>exact h.elim fun w h=>c5 _ _ _ h.1 h.2
 all_goals cases y <;> first | exact(show False from h).elim | skip
 case tup.int=>obtain⟨w,e,r⟩:=h;exact c1 _ _ _ e r
 case sc.int=>obtain⟨w,e,r⟩:=h;exact c2 _ _ _ e r
 case rl.int=>obtain⟨w,e,r⟩:=h;exact c3 _ _ _ _ rfl e r
 case str.int=>exact c4 _ _ h
 case ref.int=>exact h.elim (fun⟨ws,w,e,e2,r⟩=>c3 _ _ _ _ e e2 r) fun⟨w,e,r⟩=>c5 _ _ _ e r
 all_goals obtain⟨w,e,r⟩:=h;exact c5 _ _ _ e r
theorem TX(hu:X.A.units + 1 < Ff):iW X (cX X.K aW):=S7 (P9.or (QA.or (QB.or (TU hu)))) fun x y H Q M R am k=>TV
 (fun ws i w h r ax ay=>ax.tupE fun a xs e f q=>let ⟨z,e3,av⟩:=vZ q h;.inr (.inl ⟨a,xs,i,z,e,ay.inv,cD.of f,e3,k.at am av r⟩))
 (fun ws i w h r ax ay=>ax.scE fun a xs e f q=>let ⟨z,e3,av⟩:=vZ q h;.inl ⟨a,xs,i,z,e,ay.inv,f.sq,e3,k.at am av r⟩)
 (fun wx ws i w h1 h r ax ay=>let ⟨a,xs,e,f,q⟩:=lK am ax h1;let ⟨z,e3,av⟩:=vZ q h;.inl ⟨a,xs,i,z,e,ay.inv,bQ.of f,e3,k.at am av r⟩)
 (fun z i h ax ay=>let ⟨c,e,r⟩:=h.2;.inr (.inr (.inl ⟨z,i,c,ax.inv,ay.inv,h.1,e,k.at am (.str _) r⟩)))
 (fun wx wy w g r ax ay=>.inr (.inr (.inr (by
  obtain⟨a,e,g⟩:=rV am ax ay g
  rcases g with⟨z,_⟩ | ⟨z,w',e',g',av⟩
  ·cases z
  ·exact⟨a,z,e,g',k.at am av (by rw[<-Cj e'];exact r)⟩))))
variable {a b:Expr}{ta tb:aY}{pos:Pos}
theorem aX(hu:X.A.units + 1 < Ff)(ha:E3 X a ta)(hb:E3 X b tb)(hs:DM b:=by exact fun _ _=>rfl):E3 X (.Subscript a b pos) (aE aW ta tb):=(P5 (TX hu) ha hb hs).weak fun _ _ _ h=>rK h
def eF(ws:List W)(lo hi:Option Int):List W:=(ws.drop (HT.sIx ws.length 0 lo)).take (HT.sIx ws.length ws.length hi - HT.sIx ws.length 0 lo)
def E4:W->Option Int->Option Int->Mm->K3->Prop
 | .rl ws,lo,hi,M,R=>aZ (eF ws lo hi) M R
 | .sc ws,lo,hi,M,R=>aZ (eF ws lo hi) M R
 | .ref a,lo,hi,M,R=>∃ ws,M a=some (.lst ws)/\aZ (eF ws lo hi) M R
 | .tup ws,lo,hi,M,R=>¬ (HT.sIx ws.length 0 lo=0/\HT.sIx ws.length ws.length hi=ws.length)/\R (.tup (eF ws lo hi)) M
 | _,_,_,_,_=>False
theorem rW{K:Ab}{H:Hp}{M:Mm}{vs:List V}{ws:List W}{lo hi:Option Int}(q:aL K H M vs ws):aL K H M (lD vs lo hi) (eF ws lo hi):=by
 unfold lD eF
 rw[q.length]
 exact(q.drop _).take _
def TY(K:Ab)(r:W->Option Int->Option Int->Mm->K3->Prop):V->Option Int->Option Int->Hp->VK->Prop:=fun x lo hi H Q=>∃ wx M R,AM K H M/\AV K H M x wx/\r wx lo hi M R/\Up K H M R Q
theorem TZ:qZ X (TY X.K E4):=by
 rintro pins s σ H x v vl vu lo hi sl Q I rx hs pl pu ⟨wx,M,R,am,ax,h,k⟩
 cases wx <;> first | exact(show False from h).elim | skip
 case tup ws=>exact ax.tupE fun a xs e f q=>P1 pins s σ H _ v vl vu lo hi sl Q I rx hs pl pu ⟨a,xs,e,cD.of f,by rw[q.length];exact h.1,fun p hp=>laidT am k hp (rW q) h.2⟩
 case sc ws=>exact ax.scE fun a xs e f q=>uY pins s σ H _ v vl vu lo hi sl Q I rx hs pl pu ⟨a,xs,e,f.sq,fun p hp=>iD am k hp (rW q) h⟩
 case rl ws=>exact ax.rlE fun a xs e f q=>uY pins s σ H _ v vl vu lo hi sl Q I rx hs pl pu ⟨a,xs,e,bQ.of f,fun p hp=>iD am k hp (rW q) h⟩
 case ref a=>
  obtain⟨ws,e,r⟩:=h
  exact am.lstE e fun vs f q=>uY pins s σ H _ v vl vu lo hi sl Q I rx hs pl pu ⟨a,vs,ax.inv,bQ.of f,fun p hp=>iD am k hp (rW q) r⟩
abbrev nN:=S3->Mm->(Option Int->Mm->Prop)->Prop
def nO(K:Ab)(t:nN):TO:=fun σ H Q=>∃ (τ:S3) (M:Mm) (R:Option Int->Mm->Prop),AS K H M σ τ/\AM K H M/\t τ M R/\∀ o H' M',Kp H M H' M'->AM K H' M'->R o M'->Q o H'
theorem nO.el{K:Ab}{H:Hp}{σ:SV}{C:Prop}{t:nN}{Q:Option Int->Hp->Prop}(h:nO K t σ H Q)(c:∀ τ M R,AS K H M σ τ->AM K H M->t τ M R->(∀ o H' M',Kp H M H' M'->AM K H' M'->R o M'->Q o H')->C):C:=by obtain⟨τ,M,R,a,b,h,k⟩:=h;exact c τ M R a b h k
def iP:nN:=fun _ M Q=>Q none M
def gF(t:aY):nN:=fun τ M Q=>t τ M fun x M1=>∃ i,x=.int i/\Q (some i) M1
theorem kM:PO X none (nO X.K iP):=PV.weak fun σ H Q z0=>z0.el fun τ M R as am h k=>k none H M (Kp.refl am) am h
theorem g7(h:E3 X a ta):PO X (some a) (nO X.K (gF ta)):=(PX h).weak fun σ H Q z0=>z0.el fun τ M R as am h k=>⟨τ,M,_,as,am,h,fun x H1 wx M1 k1 am1 ax ⟨i,e,h1⟩=>by
 subst e;exact⟨i,ax.inv,k _ _ _ k1 am1 h1⟩⟩
def fL:W->Bool
 | .non=>true
 | .bl _=>true
 | .int _=>true
 | .str _=>true
 | _=>false
def v5:W->W->Bool
 | .non,.non=>true
 | .bl a,.bl b=>a == b
 | .bl a,.int b=>(if a then 1 else 0) == b
 | .int a,.bl b=>a == (if b then 1 else 0)
 | .int a,.int b=>a == b
 | .str a,.str b=>a == b
 | _,_=>false
def inW(x:W)(ws:List W):Bool:=ws.any fun y=>v5 y x
theorem AV.flat{K:Ab}{H:Hp}{M:Mm}{v:V}{w:W}(h:AV K H M v w)(f:fL w=true):jS v=true:=by cases h <;> first | rfl | exact f
def v7:W->V
 | .non=>.non
 | .bl b=>.bl b
 | .int i=>.int i
 | .str x=>.str x
 | _=>.non
theorem AV.flv{K:Ab}{H:Hp}{M:Mm}{v:V}{w:W}(h:AV K H M v w)(f:fL w=true):v=v7 w:=by
 cases w <;> first | exact h.inv | exact absurd f Ap
theorem T1:∀ {w z:W},fL w=true->fL z=true->jT (v7 w) (v7 z)=v5 w z:=by
 intro w z f g
 cases w <;> first | exact absurd f Ap | (cases z <;> first | rfl | exact absurd g Ap)
theorem AV.eq{K:Ab}{H:Hp}{M:Mm}{v u:V}{w z:W}(h:AV K H M v w)(h2:AV K H M u z)(f:fL w=true)(f2:fL z=true):jT v u=v5 w z:=by
 rw[h.flv f,h2.flv f2];exact T1 f f2
theorem aL.inn{K:Ab}{H:Hp}{M:Mm}{u:V}{z:W}(hz:AV K H M u z)(fz:fL z=true):∀ {vs:List V} {ws:List W},aL K H M vs ws->ws.all fL=true->vs.all jS=true/\inV u vs=inW z ws
 | _,_,.nil,_=>⟨rfl,rfl⟩
 | _,_,.cons x r,f=>by
  rw[Ly,Cr] at f
  obtain⟨h1,h2⟩:=aL.inn hz fz r f.2
  refine⟨by rw[Ly,x.flat f.1,h1];rfl,?_⟩
  unfold inV inW at h2 ⊢
  rw[Fw,Fw,h2,x.eq hz f.1 fz]
def occ(i j:Str):Bool:=!(Jt j i 0 j.length 1).isEmpty
def rIn(neg:Bool):R3
 | .str i,.str j,M,R=>R (.bl (if neg then !occ i j else occ i j)) M
 | x,.tup ws,M,R=>fL x=true/\ws.all fL=true/\R (.bl (if neg then !inW x ws else inW x ws)) M
 | x,.rl ws,M,R=>fL x=true/\ws.all fL=true/\R (.bl (if neg then !inW x ws else inW x ws)) M
 | x,.ref a,M,R=>(∃ ws,M a=some (.lst ws)/\fL x=true/\ws.all fL=true/\R (.bl (if neg then !inW x ws else inW x ws)) M)\/∃ o,fA M (.ref a) x o/\R (.bl (if neg then !o.isSome else o.isSome)) M
 | x,.dk kvs,M,R=>∃ o,fA M (.dk kvs) x o/\R (.bl (if neg then !o.isSome else o.isSome)) M
 | x,.dt kvs,M,R=>∃ o,fA M (.dt kvs) x o/\R (.bl (if neg then !o.isSome else o.isSome)) M
 | x,.fk kvs,M,R=>∃ o,fA M (.fk kvs) x o/\R (.bl (if neg then !o.isSome else o.isSome)) M
 | x,.ft kvs,M,R=>∃ o,fA M (.ft kvs) x o/\R (.bl (if neg then !o.isSome else o.isSome)) M
 | _,_,_,_=>False
def E5(M:Mm):W->List W->Prop
 | .tup ws,zs=>ws=zs
 | x,ws=>kL M x ws
theorem E6{K:Ab}{H:Hp}{M:Mm}{v:V}{w:W}{ws:List W}(am:AM K H M)(h:AV K H M v w)(e:E5 M w ws):∃ a xs,v=.ref a/\(bQ K H a xs\/cD K H a xs)/\aL K H M xs ws:=by
 cases w
 case tup zs=>exact h.tupE fun a xs e1 f q=>⟨_,_,e1,.inr (cD.of f),by rw[<-show zs=ws from e];exact q⟩
 case ref | rl=>obtain⟨a,xs,e1,f,q⟩:=lK am h e;exact⟨a,xs,e1,.inl (bQ.of f),q⟩
 all_goals exact(show False from e).elim
theorem E7{n:Bool}{P:W->W->Prop}{M:Mm}{R:K3}(c1:∀ i j,R (.bl (if n then !occ i j else occ i j)) M->P (.str i) (.str j))
  (c2:∀ x y ws,E5 M y ws->fL x=true/\ws.all fL=true/\R (.bl (if n then !inW x ws else inW x ws)) M->P x y)
  (c3:∀ x y o,fA M y x o->R (.bl (if n then !o.isSome else o.isSome)) M->P x y) (x y:W) (h:rIn n x y M R):P x y:=by
 cases y
 case non | bl | int | ty | sc=>exfalso;cases x <;> exact h
 case str=>cases x <;> first | exact(show False from h).elim | exact c1 _ _ h
 case tup=>exact c2 _ _ _ rfl (by cases x <;> exact h)
 case rl=>exact c2 _ _ _ rfl (by cases x <;> exact h)
 case ref a=>
  have h:(∃ ws,M a=some (.lst ws)/\fL x=true/\ws.all fL=true/\R (.bl (if n then !inW x ws else inW x ws)) M)\/∃ o,fA M (.ref a) x o/\R (.bl (if n then !o.isSome else o.isSome)) M:=by cases x <;> exact h
  exact h.elim (fun⟨ws,e,h⟩=>c2 _ _ _ e h) fun⟨o,g,r⟩=>c3 _ _ _ g r
 case dk kvs=>have h:∃ o,fA M (.dk kvs) x o/\R (.bl (if n then !o.isSome else o.isSome)) M:=(by cases x <;> exact h);exact h.elim fun o h=>c3 _ _ _ h.1 h.2
 case dt kvs=>have h:∃ o,fA M (.dt kvs) x o/\R (.bl (if n then !o.isSome else o.isSome)) M:=(by cases x <;> exact h);exact h.elim fun o h=>c3 _ _ _ h.1 h.2
 case fk kvs=>have h:∃ o,fA M (.fk kvs) x o/\R (.bl (if n then !o.isSome else o.isSome)) M:=(by cases x <;> exact h);exact h.elim fun o h=>c3 _ _ _ h.1 h.2
 case ft kvs=>have h:∃ o,fA M (.ft kvs) x o/\R (.bl (if n then !o.isSome else o.isSome)) M:=(by cases x <;> exact h);exact h.elim fun o h=>c3 _ _ _ h.1 h.2
def E8(n:Bool):R2:=fun x y H Q=>∃ a o,y=.ref a/\gZ H a x o/\Q (.bl (if n then !o.isSome else o.isSome)) H
theorem T2(hu:X.A.units + 1 < Ff):bD X (Ci .In) (E8 false):=by
 rintro pins s σ H x y v u Q I rx ry ⟨a,o,rfl,g,q⟩
 cases ry
 exact Q6 hu I g rx fun s3 I3=>⟨.bl _,H,I3,rfl,q⟩
theorem T4(hu:X.A.units + 1 < Ff):bD X (Ci .NotIn) (E8 true):=by
 rintro pins s σ H x y v u Q I rx ry ⟨a,o,rfl,g,q⟩
 cases ry
 exact Q7 hu I g rx fun s3 I3=>⟨.bl _,H,I3,rfl,q⟩
theorem E9{K:Ab}{H:Hp}{M:Mm}{x y:V}{wx wy:W}{o:Option W}(am:AM K H M)(ax:AV K H M x wx)(ay:AV K H M y wy)(h:fA M wx wy o):∃ a o',x=.ref a/\gZ H a y o'/\o'.isSome=o.isSome:=by
 obtain⟨a,e,⟨rfl,g⟩ | ⟨v,w,rfl,g,_⟩⟩:=rV am ax ay h
 ·exact⟨a,_,e,g,rfl⟩
 ·exact⟨a,_,e,g,rfl⟩
theorem kN(hu:X.A.units + 1 < Ff):bD X (Ci .In) (cX X.K (rIn false)):=jY (OD.or (QJ.or (T2 hu))) fun x y H Q M R am k=>E7
 (fun i j h ax ay=>.inl ⟨i,j,ax.inv,ay.inv,k.at am (.bl _) h⟩)
 (fun wx wy ws e h ax ay=>let ⟨a,xs,e1,f,q⟩:=E6 am ay e;.inr (.inl ⟨a,xs,e1,f,ax.flat h.1,(aL.inn ax h.1 q h.2.1).1,by rw[(aL.inn ax h.1 q h.2.1).2];exact k.at am (.bl _) h.2.2⟩))
 (fun wx wy o g r ax ay=>let ⟨a,o',e,g,z⟩:=E9 am ay ax g;.inr (.inr ⟨a,o',e,g,by rw[z];exact k.at am (.bl _) r⟩))
theorem pG(hu:X.A.units + 1 < Ff):bD X (Ci .NotIn) (cX X.K (rIn true)):=jY (OG.or (QK.or (T4 hu))) fun x y H Q M R am k=>E7
 (fun i j h ax ay=>.inl ⟨i,j,ax.inv,ay.inv,k.at am (.bl _) h⟩)
 (fun wx wy ws e h ax ay=>let ⟨a,xs,e1,f,q⟩:=E6 am ay e;.inr (.inl ⟨a,xs,e1,f,ax.flat h.1,(aL.inn ax h.1 q h.2.1).1,by rw[(aL.inn ax h.1 q h.2.1).2];exact k.at am (.bl _) h.2.2⟩))
 (fun wx wy o g r ax ay=>let ⟨a,o',e,g,z⟩:=E9 am ay ax g;.inr (.inr ⟨a,o',e,g,by rw[z];exact k.at am (.bl _) r⟩))
def dA:List W->Mm->K3->Prop
 | [.tup ws],M,R=>R (.int ws.length) M
 | [.rl ws],M,R=>R (.int ws.length) M
 | [.sc ws],M,R=>R (.int ws.length) M
 | [.dk kvs],M,R=>R (.int kvs.length) M
 | [.str z],M,R=>z.length<=Ak/\R (.int z.length) M
 | [.ref a],M,R=>(∃ ws,M a=some (.lst ws)/\R (.int ws.length) M)\/∃ kvs,M a=some (.dK kvs)/\R (.int kvs.length) M
 | _,_,_=>False
theorem T5{P:List W->Prop}{M:Mm}{R:K3}(c1:∀ ws,R (.int ws.length) M->P [.tup ws])(c2:∀ ws,R (.int ws.length) M->P [.sc ws])(c3:∀ x ws,kL M x ws->R (.int ws.length) M->P [x])
  (c4:∀ z,z.length<=Ak/\R (.int z.length) M->P [.str z]) (c5:∀ kvs,R (.int kvs.length) M->P [.dk kvs]) (c6:∀ a kvs,M a=some (.dK kvs)->R (.int kvs.length) M->P [.ref a]) (l:List W) (h:dA l M R):P l:=by
 match l,h with
 | [.tup _],h=>exact c1 _ h
 | [.rl _],h=>exact c3 _ _ rfl h
 | [.sc _],h=>exact c2 _ h
 | [.dk _],h=>exact c5 _ h
 | [.str _],h=>exact c4 _ h
 | [.ref _],h=>exact h.elim (fun⟨ws,e,r⟩=>c3 _ _ e r) fun⟨ws,e,r⟩=>c6 _ _ e r
theorem d7:eD X (.builtin "len") (iB X.K dA):=vS (QL.or (QN.or RM)) fun xs H Q M R am k=>T5
 (fun ws h ax=>ax.oneE fun v e1 av=>av.tupE fun a us e f q=>.inl ⟨_,_,iA e1 e,.inr (cD.of f),by rw[q.length];exact k.at am (.int _) h⟩)
 (fun ws h ax=>ax.oneE fun v e1 av=>av.scE fun a us e f q=>.inl ⟨_,_,iA e1 e,.inl f.sq,by rw[q.length];exact k.at am (.int _) h⟩)
 (fun x ws e0 h ax=>ax.oneE fun v e1 av=>let ⟨a,us,e,f,q⟩:=lK am av e0;.inl ⟨_,_,iA e1 e,.inl (bQ.of f),by rw[q.length];exact k.at am (.int _) h⟩)
 (fun z h ax=>ax.oneE fun v e1 av=>.inr (.inl ⟨z,iA e1 av.inv,h.1,k.at am (.int _) h.2⟩))
 (fun kvs h ax=>ax.oneE fun v e1 av=>let ⟨a,ks,e,f,_,q⟩:=av.inv;.inr (.inr ⟨a,ks,iA e1 e,f,by rw[Dw q];exact k.at am (.int _) h⟩))
 (fun a kvs e0 h ax=>ax.oneE fun v e1 av=>let ⟨ks,f,q⟩:=am _ _ e0;.inr (.inr ⟨a,ks,iA e1 av.inv,f,by rw[Dw q];exact k.at am (.int _) h⟩))
def v8:List W->Mm->K3->Prop
 | [.tup ws],M,R=>aZ ws M R
 | [.rl ws],M,R=>aZ ws M R
 | [.sc ws],M,R=>aZ ws M R
 | [.dk kvs],M,R=>aZ (kvs.map fun kv=>wK kv.1) M R
 | [.ref a],M,R=>(∃ ws,M a=some (.lst ws)/\aZ ws M R)\/∃ kvs,M a=some (.dK kvs)/\aZ (kvs.map fun kv=>wK kv.1) M R
 | _,_,_=>False
theorem FA{K:Ab}{H:Hp}{M:Mm}{ks:List (aG×V)}{kvs:List (aG×W)}(h:bV K H M aG ks kvs):aL K H M (ks.map fun kv=>kV kv.1) (kvs.map fun kv=>wK kv.1):=by
 induction h with
 | nil=>exact .nil
 | @cons p q ps qs r t ih=>
  refine .cons ?_ ih
  show AV K H M (kV p.1) (wK q.1)
  rw[r.1]
  cases q.1 with
  | inl i=>exact .int i
  | inr x=>exact .str x
theorem T6{P:List W->Prop}{M:Mm}{R:K3}(c1:∀ ws,aZ ws M R->P [.tup ws])(c2:∀ ws,aZ ws M R->P [.sc ws])(c3:∀ x ws,kL M x ws->aZ ws M R->P [x])
  (c5:∀ kvs:List (aG×W),aZ (kvs.map fun kv=>wK kv.1) M R->P [.dk kvs]) (c6:∀ a kvs,M a=some (.dK kvs)->aZ (kvs.map fun kv=>wK kv.1) M R->P [.ref a]) (l:List W) (h:v8 l M R):P l:=by
 match l,h with
 | [.tup _],h=>exact c1 _ h
 | [.rl _],h=>exact c3 _ _ rfl h
 | [.sc _],h=>exact c2 _ h
 | [.dk _],h=>exact c5 _ h
 | [.ref _],h=>exact h.elim (fun⟨ws,e,r⟩=>c3 _ _ e r) fun⟨ws,e,r⟩=>c6 _ _ e r
theorem FC(hc:X.calm=true):eD X (.type "list") (iB X.K v8):=vS (QO.or (R4 hc)) fun xs H Q M R am k=>T6
 (fun ws h ax=>ax.oneE fun v e1 av=>av.tupE fun a us e f q=>.inl ⟨_,_,iA e1 e,.inr (cD.of f),fun p hp=>iD am k hp q h⟩)
 (fun ws h ax=>ax.oneE fun v e1 av=>av.scE fun a us e f q=>.inl ⟨_,_,iA e1 e,.inl f.sq,fun p hp=>iD am k hp q h⟩)
 (fun x ws e0 h ax=>ax.oneE fun v e1 av=>let ⟨a,us,e,f,q⟩:=lK am av e0;.inl ⟨_,_,iA e1 e,.inl (bQ.of f),fun p hp=>iD am k hp q h⟩)
 (fun kvs h ax=>ax.oneE fun v e1 av=>let ⟨a,ks,e,f,_,q⟩:=av.inv;.inr ⟨a,ks,iA e1 e,f,fun p hp=>iD am k hp (FA q) h⟩)
 (fun a kvs e0 h ax=>ax.oneE fun v e1 av=>let ⟨ks,f,q⟩:=am _ _ e0;.inr ⟨a,ks,iA e1 av.inv,f,fun p hp=>iD am k hp (FA q) h⟩)
def rX:List W->Mm->K3->Prop
 | [.tup ws],M,R=>R (.tup ws) M
 | [.rl ws],M,R=>R (.tup ws) M
 | [.ref a],M,R=>∃ ws,M a=some (.lst ws)/\R (.tup ws) M
 | _,_,_=>False
theorem T7{P:List W->Prop}{M:Mm}{R:K3}(c1:∀ ws,R (.tup ws) M->P [.tup ws])(c3:∀ x ws,kL M x ws->R (.tup ws) M->P [x])(l:List W)(h:rX l M R):P l:=by
 match l,h with
 | [.tup _],h=>exact c1 _ h
 | [.rl _],h=>exact c3 _ _ rfl h
 | [.ref _],h=>exact h.elim fun ws h=>c3 _ _ h.1 h.2
theorem FD:eD X (.type "tuple") (iB X.K rX):=vS QP fun xs H Q M R am k=>T7
 (fun ws h ax=>ax.oneE fun v e1 av=>av.tupE fun a us e f q=>⟨_,_,iA e1 e,.inr ⟨cD.of f,k.at am (by rw[<-e];exact av) h⟩⟩)
 (fun x ws e0 h ax=>ax.oneE fun v e1 av=>let ⟨a,us,e,f,q⟩:=lK am av e0;⟨_,_,iA e1 e,.inl ⟨bQ.of f,fun p hp=>laidT am k hp q h⟩⟩)
def d8:W->List W->Mm->K3->Prop
 | .ref l,[y],M,R=>∃ ws,M l=some (.lst ws)/\ws.length < Ak/\R .non (put M l (.lst (ws ++ [y])))
 | _,_,_,_=>False
theorem gB:iX X "list.append" (jW X.K d8):=by
 rintro pins s σ H x xs v us Q I rx rs ⟨wx,ws,M,R,am,ax,axs,h,k⟩
 match wx,ws,h with
 | .ref l,[y],h=>
  obtain⟨z,rfl,az⟩:=axs.one
  cases ax
  obtain⟨ws,e,hl,r⟩:=h
  obtain⟨vs,f,q⟩:=am.lst e
  exact DQ pins s σ H _ _ v us Q I rx rs ⟨l,vs,z,rfl,rfl,f,by rw[q.length];exact hl,pD am k e (q.append (.cons az .nil)) .non r⟩
def FE:W->List W->Mm->K3->Prop
 | .ref l,[.ref b],M,R=>∃ ws zs,M l=some (.lst ws)/\M b=some (.lst zs)/\ws.length + zs.length<=Ak/\R .non (put M l (.lst (ws ++ zs)))
 | .ref l,[.rl zs],M,R=>∃ ws,M l=some (.lst ws)/\ws.length + zs.length<=Ak/\R .non (put M l (.lst (ws ++ zs)))
 | _,_,_,_=>False
theorem T8:iX X "list.extend" (jW X.K FE):=by
 rintro pins s σ H x xs v us Q I rx rs ⟨wx,ws,M,R,am,ax,axs,h,k⟩
 match wx,ws,h with
 | .ref l,[.ref b],h=>
  obtain⟨z,rfl,az⟩:=axs.one
  cases ax
  cases az
  obtain⟨ws,zs,e,e2,hl,r⟩:=h
  obtain⟨vs,f,q⟩:=am.lst e
  obtain⟨vz,f2,q2⟩:=am.lst e2
  exact DR pins s σ H _ _ v us Q I rx rs ⟨l,b,vs,vz,rfl,rfl,f,f2,by rw[q.length,q2.length];exact hl,pD am k e (q.append q2) .non r⟩
 | .ref l,[.rl zs],h=>
  obtain⟨z,rfl,az⟩:=axs.one
  cases ax
  cases az with
  | rl f2 _ q2=>
   obtain⟨ws,e,hl,r⟩:=h
   obtain⟨vs,f,q⟩:=am.lst e
   exact DR pins s σ H _ _ v us Q I rx rs ⟨l,_,vs,_,rfl,rfl,f,f2,by rw[q.length,q2.length];exact hl,pD am k e (q.append q2) .non r⟩
def rPop:W->List W->Mm->K3->Prop
 | .ref l,[],M,R=>∃ ws w,M l=some (.lst (ws ++ [w]))/\R w (put M l (.lst ws))
 | _,_,_,_=>False
theorem v9:iX X "list.pop" (jW X.K rPop):=by
 rintro pins s σ H x xs v us Q I rx rs ⟨wx,ws,M,R,am,ax,axs,h,k⟩
 match wx,ws,h with
 | .ref l,[],h=>
  cases axs
  cases ax
  obtain⟨ws,w,e,r⟩:=h
  obtain⟨vs,f,q⟩:=am.lst e
  have hl:=q.length
  rw[Af,Bl] at hl
  obtain⟨z,hz,az⟩:=q.getW (i:=ws.length) (w:=w) (by simp)
  refine QW pins s σ H _ _ v us Q I rx rs ⟨l,vs,z,rfl,rfl,f,by rw[hl];exact hz,pD am k e ?_ az r⟩
  have:=q.dropLast
  rw[List.dropLast_concat] at this
  exact this
def wA:aY:=fun _ M R=>SU [] M R
def lN:aY:=fun _ M R=>iN [] M R
theorem FF:E3 X (.Dict [] [] pos) wA:=RF.weak fun σ H Q ⟨τ,M,R,as,am,h,k⟩ p hp=>by
 obtain⟨am2,k2⟩:=am.laid (o:=.dK []) (u:=.dK []) hp ⟨[],cZ,.nil⟩
 exact k _ _ _ _ k2 am2 (.ref p) (h p (am.nonM hp))
theorem lO:E3 X (.Dict [] [] pos) lN:=RG.weak fun σ H Q ⟨τ,M,R,as,am,h,k⟩ p hp=>by
 obtain⟨am2,k2⟩:=am.laid (o:=.dT []) (u:=.dT []) hp ⟨[],cZ,.nil⟩
 exact k _ _ _ _ k2 am2 (.ref p) (h p (am.nonM hp))
end
abbrev P3(X:Cx)(st:Stmt)(t:aI):Prop:=PS X st (pC X.K t)
abbrev jK(X:Cx)(st:List Stmt)(t:aI):Prop:=f7 X st (pC X.K t)
abbrev e6:=W->S3->Mm->(S3->Mm->Prop)->Prop
abbrev lP:=List W->S3->Mm->(S3->Mm->Prop)->Prop
def g8(K:Ab)(g:e6):TG:=fun v σ H Q=>∃ w τ M R,AV K H M v w/\AS K H M σ τ/\AM K H M/\g w τ M R/\h9 K H M R Q
def nQ(K:Ab)(g:lP):jF:=fun vs σ H Q=>∃ ws τ M R,aL K H M vs ws/\AS K H M σ τ/\AM K H M/\g ws τ M R/\h9 K H M R Q
theorem g8.el{K:Ab}{H:Hp}{σ:SV}{C:Prop}{t:e6}{v:V}{Q:SV->Hp->Prop}(h:g8 K t v σ H Q)(c:∀ w τ M R,AV K H M v w->AS K H M σ τ->AM K H M->t w τ M R->h9 K H M R Q->C):C:=by obtain⟨w,τ,M,R,a,b,d,h,k⟩:=h;exact c w τ M R a b d h k
theorem nQ.el{K:Ab}{H:Hp}{σ:SV}{C:Prop}{t:lP}{v:List V}{Q:SV->Hp->Prop}(h:nQ K t v σ H Q)(c:∀ w τ M R,aL K H M v w->AS K H M σ τ->AM K H M->t w τ M R->h9 K H M R Q->C):C:=by obtain⟨w,τ,M,R,a,b,d,h,k⟩:=h;exact c w τ M R a b d h k
section
variable {X:Cx}{pos:Pos}
theorem _root_.L2.PG.weak{e:Expr}{t t':TG}(h:PG X e t)(k:∀ v σ H Q,t' v σ H Q->t v σ H Q):PG X e t':=fun pins s σ H v u Q I r q=>h pins s σ H v u Q I r (k v σ H Q q)
theorem _root_.L2.iV.weak{e:List Expr}{t t':jF}(h:iV X e t)(k:∀ v σ H Q,t' v σ H Q->t v σ H Q):iV X e t':=fun pins s σ H v u Q I r q=>h pins s σ H v u Q I r (k v σ H Q q)
theorem h9.at{K:Ab}{H:Hp}{M:Mm}{R:S3->Mm->Prop}{Q:SV->Hp->Prop}(h:h9 K H M R Q)(am:AM K H M){σ:SV}{τ:S3}(as:AS K H M σ τ)(r:R τ M):Q σ H:=h σ H τ M (Kp.refl am) am as r
def bW(i:Nat):e6:=fun w τ M R=>R (τ.set i (some w)) M
theorem FG{i:Nat}{x:Str}(hN:X.N.Nodup)(hi:X.N[i]? = some x)(hx:Loc X.env.scope x)(hf:X.fn x=true\/X.env.scope.names.lookup x=some .local:=by first | exact .inl rfl | exact .inr rfl | assumption):PG X (.Name x pos) (g8 X.K (bW i)):=
 (M8 hN hi hx hf).weak fun v σ H Q z0=>z0.el fun w τ M R av as am h k=>k.at am (as.set av i) h
def kO:lP:=fun ws τ M R=>ws=[]/\R τ M
def gC(t:e6)(u:lP):lP:=fun ws τ M R=>match ws with
 | w :: r=>t w τ M fun τ' M'=>u r τ' M' R
 | []=>False
theorem lQ:iV X [] (nQ X.K kO):=NB.weak fun vs σ H Q z=>z.el fun ws τ M R av as am h k=>⟨aL.nil_ (by rw[<-h.1];exact av),k.at am as h.2⟩
theorem gH{e:Expr}{es:List Expr}{t:e6}{u:lP}(h1:PG X e (g8 X.K t))(h2:iV X es (nQ X.K u))
  (hs:(Gg (e :: es) X.env).map (·.2)=Kz e X.env :: (Gg es X.env).map (·.2):=by rfl):iV X (e :: es) (nQ X.K (gC t u)):=
 (NC h1 h2 hs).weak fun vs σ H Q z0=>z0.el fun ws τ M R av as am h k=>by
  cases av with
  | nil=>exact(show False from h).elim
  | cons x r=>exact⟨_,_,rfl,_,τ,M,_,x,as,am,h,fun σ' H' τ' M' k' am' as' h'=>⟨_,τ',M',R,r.kp am k',as',am',h',k.kp k'⟩⟩
def kP(n:Nat)(g:lP):e6:=fun w τ M R=>match w with
 | .tup ws=>ws.length=n/\g ws τ M R
 | .rl ws=>ws.length=n/\g ws τ M R
 | .ref a=>∃ ws,M a=some (.lst ws)/\ws.length=n/\g ws τ M R
 | _=>False
theorem lR{es:List Expr}{k:Nat}{t:lP}{n:Nat}(hc:X.calm=true)(h:iV X es (nQ X.K t))
  (hn:(Gg es X.env).length=n:=by rfl) (hst:(Gg es X.env).findIdx? (·.1)=none:=by rfl):PG X (.Tuple es k pos) (g8 X.K (kP n t)):=by
 rintro pins s σ H v u Q I r ⟨w,τ,M,R,av,as,am,hw,kk⟩
 cases w <;> first | exact(show False from hw).elim | skip
 case tup ws=>exact av.tupE fun a xs e f q=>NF hc h hn hst pins s σ H _ u Q I r ⟨a,xs,e,cD.of f,by rw[q.length];exact hw.1,_,τ,M,R,q,as,am,hw.2,kk⟩
 case rl ws=>exact av.rlE fun a xs e f q=>D8 hc h hn hst pins s σ H _ u Q I r ⟨a,xs,e,bQ.of f,by rw[q.length];exact hw.1,_,τ,M,R,q,as,am,hw.2,kk⟩
 case ref a=>exact hw.elim fun ws hw=>am.lstE hw.1 fun xs f q=>D8 hc h hn hst pins s σ H _ u Q I r ⟨a,xs,av.inv,bQ.of f,by rw[q.length];exact hw.2.1,_,τ,M,R,q,as,am,hw.2.2,kk⟩
def iZ(te:aY)(g:e6):aI:=fun D τ M=>te τ M fun x M1=>g x τ M1 D.nx
theorem T9{K:Ab}{te:aY}{g:e6}{D:kD}{σ:SV}{H:Hp}(h:pC K (iZ te g) D σ H):qT (up K te) (g8 K g) D σ H:=by
 obtain⟨τ,M,D',as,am,h,k⟩:=h
 exact⟨τ,M,_,as,am,h,fun x H1 wx M1 k1 am1 ax h1=>⟨wx,τ,M1,D'.nx,ax,as.kp am k1,am1,h1,k.nx.kp k1⟩⟩
theorem j0{tg e:Expr}{te:aY}{g:e6}(he:E3 X e te)(hg:PG X tg (g8 X.K g))(hs:swapsWithSole [tg] e pos.line X.env=pure false:=by rfl)(hw:swappedStores [tg] e X.env=pure none:=by rfl)
  (h1:(Gg [tg] X.env).map (·.2)=[Kz tg X.env]:=by rfl):P3 X (.Assign [tg] e pos) (iZ te g):=(NI he hg hs hw h1).weak fun _ _ _ h=>T9 h
def bB(i:Nat)(te:aY):aI:=fun D τ M=>te τ M fun x M1=>D.nx (τ.set i (some x)) M1
theorem UA{i:Nat}{x:Str}{e:Expr}{te:aY}{pos':Pos}(hN:X.N.Nodup)(hi:X.N[i]? = some x)(hx:Loc X.env.scope x)(he:E3 X e te)(hs:Ir e (some (.Name x pos')) pos.line X.env=pure false:=by rfl)(hf:X.fn x=true\/X.env.scope.names.lookup x=some .local:=by first | exact .inl rfl | exact .inr rfl | assumption) :
  P3 X (.Assign [.Name x pos'] e pos) (bB i te):=(NJ hN hi hx he hs hf).weak fun D σ H z0=>z0.el fun τ M D' as am h k=>⟨τ,M,_,as,am,h,fun y H1 wy M1 k1 am1 ay h1=>k.nx _ _ _ _ k1 am1 ((as.kp am k1).set ay i) h1⟩
def rY(o i v:W)(M:Mm)(Q:Mm->Prop):Prop:=match o with
 | .ref a=>(∃ ws k j,i=.int k/\M a=some (.lst ws)/\gX ws.length k=some j/\Q (put M a (.lst (ws.set j v))))\/
   (∃ kvs k,i=wK k/\M a=some (.dK kvs)/\kvs.length < Ak/\Q (put M a (.dK (cE kvs k v))))\/
   ∃ kvs k,i=.tup (k.map wK)/\M a=some (.dT kvs)/\kvs.length < Ak/\Q (put M a (.dT (cE kvs k v)))
 | _=>False
def UB(K:Ab):qR:=fun o i v H Q=>∃ wo wi wv M R,AV K H M o wo/\AV K H M i wi/\AV K H M v wv/\AM K H M/\rY wo wi wv M R/\∀ H' M',Kp H M H' M'->AM K H' M'->R M'->Q H'
theorem set_dict(hu:X.A.units + 1 < Ff):qS X (fun o i v H Q=>∃ a H',o=.ref a/\lH H a i v H'/\Q H'):=by
 intro pins s σ H o i v ov iv u Q I ro ri rv h
 obtain⟨a,H',rfl,d,q⟩:=h
 cases ro
 exact Q9 hu I d ri rv fun s4 I4=>⟨H',I4,q⟩
theorem FH{κ:Type}[DecidableEq κ]{K:Ab}{H:Hp}{M:Mm}{ks:List (κ×V)}{kvs:List (κ×W)}{n:κ}{v:V}{wv:W}{a:Addr}{o:MO}{u:HO}(am:AM K H M)(e:M a=some o)(q:bV K H M κ ks kvs)(av:AV K H M v wv){o':MO}:bV K (aR H a u) (put M a o') κ (eY ks n v) (cE kvs n wv):=Paired.mapP (rT q n av) fun p q z=>⟨z.1,z.2.wr am e⟩
theorem UC(hu:X.A.units + 1 < Ff):qS X (UB X.K):=by
 rintro pins s σ H o i v ov iv u Q I ro ri rv ⟨wo,wi,wv,M,R,ao,ai,av,am,h,k⟩
 cases wo <;> first | exact(show False from h).elim | skip
 rename_i a
 rcases h with⟨ws,n,j,ei,e,hj,r⟩ | ⟨kvs,n,ei,e,hl,r⟩ | ⟨kvs,n,ei,e,hl,r⟩
 ·rw[ei] at ai
  obtain⟨vs,f,q⟩:=am.lst e
  obtain⟨am2,k2⟩:=am.write (o:=.lst (ws.set j wv)) (u:=.lst (vs.set j v)) e ⟨_,cZ,(aL.set av j q).wr am e⟩
  exact QE pins s σ H _ _ v ov iv u Q I ro ri rv ⟨a,vs,n,j,ao.inv,ai.inv,f,by rw[q.length];exact hj,k _ _ k2 am2 r⟩
 ·rw[ei] at ai
  obtain⟨ks,f,q⟩:=am _ _ e
  obtain⟨am2,k2⟩:=am.write (o:=.dK (cE kvs n wv)) (u:=.dK (eY ks n v)) e ⟨_,cZ,FH am e q av⟩
  exact set_dict hu pins s σ H _ _ v ov iv u Q I ro ri rv ⟨a,_,ao.inv,by rw[ai.key];exact lH.k f (by rw[Dw q];exact hl),k _ _ k2 am2 r⟩
 ·rw[ei] at ai
  obtain⟨ks,f,q⟩:=am _ _ e
  obtain⟨am2,k2⟩:=am.write (o:=.dT (cE kvs n wv)) (u:=.dT (eY ks n v)) e ⟨_,cZ,FH am e q av⟩
  exact ai.tupE fun b xs eb fb qb=>set_dict hu pins s σ H _ _ v ov iv u Q I ro ri rv ⟨a,_,ao.inv,by rw[eb];exact lH.t f (by rw[<-qb.keys];exact fb) (by rw[Dw q];exact hl),k _ _ k2 am2 r⟩
def j3(to ti:aY):e6:=fun w τ M R=>to τ M fun o M1=>ti τ M1 fun i M2=>rY o i w M2 fun M3=>R τ M3
theorem w_sub{o i:Expr}{to ti:aY}(hu:X.A.units + 1 < Ff)(ho:E3 X o to)(hi:E3 X i ti)
  (ha:∀ v,Kz (.Subscript o i pos) X.env v=(do
   let ov <-Il [v] (eval o X.env)
   let iv <-Il [v,ov] (eval i X.env)
   Mc pos
   Il [v,ov,iv] (setItem ov iv v)
   release [v,ov,iv] []):=by intro _;rfl):PG X (.Subscript o i pos) (g8 X.K (j3 to ti)):=
 (NH ho hi (UC hu) ha).weak fun v σ H Q z0=>z0.el fun w τ M R av as am h k=>⟨τ,M,_,as,am,h,fun o H1 wo M1 k1 am1 ao h1=>⟨τ,M1,_,as.kp am k1,am1,h1,fun i H2 wi M2 k2 am2 ai h2=>
  ⟨wo,wi,w,M2,_,ao.kp am1 k2,ai,(av.kp am k1).kp am1 k2,am2,h2,fun H' M' k' am' r=>k _ _ _ _ ((k1.trans k2).trans k') am' (((as.kp am k1).kp am1 k2).kp am2 k') r⟩⟩⟩
def eN:aI:=fun D τ M=>D.nx τ M
def aN(t u:aI):aI:=fun D τ M=>t {D with nx:=u D} τ M
variable {st:Stmt}{rest:List Stmt}{t u:aI}{e:Expr}{te:aY}
theorem e7:jK X [] eN:=MN.weak fun D σ H z0=>z0.el fun τ M D' as am h k=>k.nx.at am as h
theorem aO(h1:P3 X st t)(h2:jK X rest u):jK X (st :: rest) (aN t u):=(MP h1 h2).weak fun D σ H z0=>z0.el fun τ M D' as am h k=>
 ⟨τ,M,_,as,am,h,⟨fun σ' H' τ' M' k' am' as' h'=>⟨τ',M',D',as',am',h',k.kp k'⟩,k.rt,k.bk,k.ct⟩⟩
theorem aS(h1:P3 X st t):jK X [st] t:=MQ h1
def cR(te:aY):aI:=fun D τ M=>te τ M fun _ M1=>D.nx τ M1
theorem dR(he:E3 X e te)(hs:Ir e none pos.line X.env=pure false:=by rfl):P3 X (.Expr e pos) (cR te):=(MS he hs).weak fun D σ H z0=>z0.el fun τ M D' as am h k=>
 ⟨τ,M,_,as,am,h,fun v H' w M' k' am' av r=>k.nx _ _ _ _ k' am' (as.kp am k') r⟩
def bS(te:aY):aI:=fun D τ M=>te τ M D.rt
theorem bT(he:E3 X e te):P3 X (.Return (some e) pos) (bS te):=(MU he).weak fun D σ H z0=>z0.el fun τ M D' as am h k=>⟨τ,M,_,as,am,h,k.rt⟩
def wB:aI:=fun D _ M=>D.rt .non M
theorem FI:P3 X (.Return none pos) wB:=MX.weak fun D σ H z0=>z0.el fun τ M D' as am h k=>k.rt.at am .non h
def cN(c:dQ)(t u:aI):aI:=fun D τ M=>c τ M fun b M1=>if b=true then t D τ M1 else u D τ M1
theorem dB{c:Expr}{a b:List Stmt}{tc:dQ}(hc:T3 X c tc)(ha:jK X a t)(hb:jK X b u):P3 X (.If c a b pos) (cN tc t u):=(MZ hc ha hb).weak fun D σ H z0=>z0.el fun τ M D' as am h k=>
 ⟨τ,M,_,as,am,h,fun b H1 M1 k1 am1 h1=>by
  cases b with
  | true=>exact⟨τ,M1,D',as.kp am k1,am1,h1,k.kp k1⟩
  | false=>exact⟨τ,M1,D',as.kp am k1,am1,h1,k.kp k1⟩⟩
def pH(c:dQ)(tb:aI):aI:=fun D τ M=>∃ Pv:Nat->S3->Mm->Prop,(∃ m,Pv m τ M)/\∀ m τ M,Pv m τ M->
 c τ M fun b M1=>if b=true then tb {D with nx:=fun τ' M'=>∃ m' M'',m' < m/\Sub M'' M'/\Pv m' τ' M'',ct:=fun τ' M'=>∃ m' M'',m' < m/\Sub M'' M'/\Pv m' τ' M'',bk:=D.nx} τ M1 else D.nx τ M1
theorem wC{c:Expr}{body:List Stmt}{tc:dQ}{tb:aI}(hp:PassesOwn (Bq X.prog X.w) X.A X.env X.xe)(hc:T3 X c tc)(hb:jK X body tb):P3 X (.While c body [] pos) (pH tc tb):=
 (NL hp hc hb).weak fun D σ H ⟨τ,M,D',as,am,⟨Pv,⟨m,h0⟩,h⟩,k⟩=>by
  refine⟨fun m σ' H'=>∃ τ' M',Kp H M H' M'/\AM X.K H' M'/\AS X.K H' M' σ' τ'/\Pv m τ' M',⟨m,τ,M,Kp.refl am,am,as,h0⟩,?_⟩
  rintro m σ1 H1 ⟨τ1,M1,k1,am1,as1,p1⟩
  refine⟨τ1,M1,_,as1,am1,h m τ1 M1 p1,fun b H2 M2 k2 am2 h2=>?_⟩
  cases b with
  | false=>exact k.nx _ _ _ _ (k1.trans k2) am2 (as1.kp am1 k2) h2
  | true=>
   have h2:tb {D' with nx:=fun τ' M'=>∃ m' M'',m' < m/\Sub M'' M'/\Pv m' τ' M'',ct:=fun τ' M'=>∃ m' M'',m' < m/\Sub M'' M'/\Pv m' τ' M'',bk:=D'.nx} τ1 M2:=h2
   refine⟨fun σ' H'=>∃ m' τ' M',m' < m/\Kp H M H' M'/\AM X.K H' M'/\AS X.K H' M' σ' τ'/\Pv m' τ' M',fun σ' H' ⟨m',τ',M',q1,q2,q3,q4,q5⟩=>⟨m',q1,τ',M',q2,q3,q4,q5⟩,τ1,M2,_,as1.kp am1 k2,am2,h2,?_⟩
   have again:h9 X.K H2 M2 (fun τ' M'=>∃ m' M'',m' < m/\Sub M'' M'/\Pv m' τ' M'') (fun σ' H'=>∃ m' τ' M',m' < m/\Kp H M H' M'/\AM X.K H' M'/\AS X.K H' M' σ' τ'/\Pv m' τ' M'):=
    fun σ' H' τ' M' k' am' as' ⟨m',M'',q1,q2,q3⟩=>⟨m',τ',M'',q1,((k1.trans k2).trans k').sub q2,am'.sub q2,as'.sub q2,q3⟩
   exact⟨again,(k.rt.kp k1).kp k2,(k.nx.kp k1).kp k2,again⟩
abbrev iQ:=S3->Mm->(List W->(Mm->Prop)->Mm->Prop)->Prop
structure i0(K:Ab)(H0:Hp)(M0:Mm)(J:It)(ws:List W)(keep:Mm->Prop):Prop where
 go:∀ i H M,Kp H0 M0 H M->AM K H M->keep M->i < ws.length->J.go i H
 stop:∀ H M,Kp H0 M0 H M->AM K H M->keep M->J.stop ws.length H
 yld:∀ i H M x H',Kp H0 M0 H M->AM K H M->keep M->i < ws.length->J.yld i H x H'->∃ w,ws[i]? = some w/\Kp H M H' M/\AM K H' M/\AV K H' M x w
def iG(K:Ab)(wi:iQ):TI:=fun σ H R'=>∃ (τ:S3) (M:Mm) (R:List W->(Mm->Prop)->Mm->Prop),AS K H M σ τ/\AM K H M/\wi τ M R/\∀ J H' ws keep M',Kp H M H' M'->AM K H' M'->i0 K H' M' J ws keep->R ws keep M'->R' J H'
theorem iG.el{K:Ab}{H:Hp}{σ:SV}{C:Prop}{t:iQ}{Q:It->Hp->Prop}(h:iG K t σ H Q)(c:∀ τ M R,AS K H M σ τ->AM K H M->t τ M R->(∀ J H' ws keep M',Kp H M H' M'->AM K H' M'->i0 K H' M' J ws keep->R ws keep M'->Q J H')->C):C:=by obtain⟨τ,M,R,a,b,h,k⟩:=h;exact c τ M R a b h k
theorem _root_.L2.PI.weak{tg iter:Expr}{t t':TI}(h:PI X tg iter t)(k:∀ σ H R,t' σ H R->t σ H R):PI X tg iter t':=fun pins s σ H R I q=>h pins s σ H R I (k σ H R q)
def rZ(ws:List W)(keep:Mm->Prop)(g:e6)(tb:aI)(D:D3)(τ:S3)(M:Mm):Prop:=
 ∃ Pv:Nat->S3->Mm->Prop,Pv 0 τ M/\(∀ i τ M,i<=ws.length->Pv i τ M->keep M)/\
  (∀ i w τ M,ws[i]? = some w->Pv i τ M->g w τ M fun τ2 M2=>tb {D with nx:=fun τ' M'=>∃ M'',Sub M'' M'/\Pv (i + 1) τ' M'',ct:=fun τ' M'=>∃ M'',Sub M'' M'/\Pv (i + 1) τ' M'',bk:=D.nx} τ2 M2)/\
  ∀ τ M,Pv ws.length τ M->D.nx τ M
def fS(wi:iQ)(g:e6)(tb:aI):aI:=fun D τ M=>wi τ M fun ws keep M1=>rZ ws keep g tb D τ M1
theorem fN{tg iter:Expr}{body:List Stmt}{wi:iQ}{g:e6}{tb:aI}{pos:Pos}(hp:PassesOwn (Bq X.prog X.w) X.A X.env X.xe)(hc:X.calm=true)(hi:PI X tg iter (iG X.K wi))(hg:PG X tg (g8 X.K g))(hb:jK X body tb)
  (hs:∀ x,Gk iter X.env x=pure x:=by intro _;rfl):P3 X (.For tg iter body [] pos) (fS wi g tb):=
 (NU hp hc hi hg hb hs).weak fun D σ H z0=>z0.el fun τ M D' as am h k=>by
  refine⟨τ,M,_,as,am,h,fun J H1 ws keep M1 k1 am1 it ⟨Pv,h0,hk,hs,hd⟩=>?_⟩
  refine⟨fun i m σ' H'=>m=ws.length - i/\i<=ws.length/\∃ τ' M',Kp H1 M1 H' M'/\AM X.K H' M'/\AS X.K H' M' σ' τ'/\Pv i τ' M',⟨_,rfl,Cd _,τ,M1,Kp.refl am1,am1,as.kp am k1,h0⟩,?_⟩
  rintro i m σ2 H2 ⟨rfl,hi,τ2,M2,k2,am2,as2,p2⟩
  by_cases hlt:i < ws.length
  ·refine .inr ⟨it.go i H2 M2 k2 am2 (hk i τ2 M2 hi p2) hlt,fun σ' H'=>∃ τ' M',Kp H1 M1 H' M'/\AM X.K H' M'/\AS X.K H' M' σ' τ'/\Pv (i + 1) τ' M',fun σ' H' q=>⟨ws.length - (i + 1),by lia,rfl,hlt,q⟩,fun x H3 y=>?_⟩
   obtain⟨w,hw,k3,am3,ax⟩:=it.yld i H2 M2 x H3 k2 am2 (hk i τ2 M2 hi p2) hlt y
   refine⟨w,τ2,M2,_,ax,as2.kp am2 k3,am3,hs i w τ2 M2 hw p2,fun σ4 H4 τ4 M4 k4 am4 as4 h4=>⟨τ4,M4,_,as4,am4,h4,?_⟩⟩
   have kk:=((k2.trans k3).trans k4)
   have again:h9 X.K H4 M4 (fun τ' M'=>∃ M'',Sub M'' M'/\Pv (i + 1) τ' M'') (fun σ' H'=>∃ τ' M',Kp H1 M1 H' M'/\AM X.K H' M'/\AS X.K H' M' σ' τ'/\Pv (i + 1) τ' M'):=
    fun σ' H' τ' M' k' am' as' ⟨M'',q2,q3⟩=>⟨τ',M'',(kk.trans k').sub q2,am'.sub q2,as'.sub q2,q3⟩
   exact⟨again,k.rt.kp (k1.trans kk),k.nx.kp (k1.trans kk),again⟩
  ·have e:i=ws.length:=by lia
   subst e
   exact .inl ⟨it.stop H2 M2 k2 am2 (hk _ τ2 M2 hi p2),k.nx _ _ _ _ (k1.trans k2) am2 as2 (hd τ2 M2 p2)⟩
theorem nR{ws:List W}{keep:Mm->Prop}{g:e6}{tb:aI}{D:D3}{τ:S3}{M:Mm}(Pv:Nat->S3->Mm->Prop)(h0:Pv 0 τ M)(hk:∀ i τ M,i<=ws.length->Pv i τ M->keep M)
  (hs:∀ i w τ M,ws[i]? = some w->Pv i τ M->g w τ M fun τ2 M2=>tb {D with nx:=fun τ' M'=>∃ M'',Sub M'' M'/\Pv (i + 1) τ' M'',ct:=fun τ' M'=>∃ M'',Sub M'' M'/\Pv (i + 1) τ' M'',bk:=D.nx} τ2 M2)
  (hd:∀ τ M,Pv ws.length τ M->D.nx τ M):rZ ws keep g tb D τ M:=⟨Pv,h0,hk,hs,hd⟩
variable {tg l a b:Expr}{tl ta tb':aY}
theorem UD{K:Ab}{H0:Hp}{M0:Mm}{p:Addr}{ws:List W}:i0 K H0 M0 (nC K p) ws fun M=>M p=some (.lst ws) where
 go:=fun i H M _ am e hi=>by
  obtain⟨vs,f,q⟩:=am.lst e
  exact⟨vs,vs[i]'(by rw[q.length];exact hi),bQ.of f,by simp⟩
 stop:=fun H M _ am e=>by
  obtain⟨vs,f,q⟩:=am.lst e
  exact⟨vs,bQ.of f,by rw[q.length];exact Ai _⟩
 yld:=fun i H M x H' _ am e hi y=>by
  obtain⟨rfl,y⟩:=y
  obtain⟨vs,f,q⟩:=am.lst e
  obtain⟨w,hw,av⟩:=q.getV (y vs (bQ.of f))
  exact⟨w,hw,Kp.refl am,am,av⟩
theorem FJ{K:Ab}{H0:Hp}{M0:Mm}{p:Addr}{vs:List V}{ws:List W}(am0:AM K H0 M0)(st:∀ H M,Kp H0 M0 H M->bQ K H p vs)(q0:aL K H0 M0 vs ws):i0 K H0 M0 (nC K p) ws fun _=>True:=by
 refine⟨fun i H M k am _ hi=>⟨vs,vs[i]'(by rw[q0.length];exact hi),st H M k,by simp⟩,fun H M k am _=>⟨vs,st H M k,by rw[q0.length];exact Ai _⟩,fun i H M x H' k am _ hi y=>?_⟩
 obtain⟨rfl,y⟩:=y
 obtain⟨w,hw,av⟩:=(q0.kp am0 k).getV (y vs (st _ M k))
 exact⟨w,hw,Kp.refl am,am,av⟩
theorem UE{K:Ab}{H0:Hp}{M0:Mm}{p:Addr}{vs:List V}{ws:List W}(am0:AM K H0 M0)(e:kI K H0 p vs)(q0:aL K H0 M0 vs ws):i0 K H0 M0 (nC K p) ws fun _=>True:=
 FJ am0 (fun H M k=>by
  refine kI.sq ?_
  rcases e with⟨o,e⟩ | e
  ·exact .inl ⟨o,(k.fr _ _ (am0.noFrz e) e).1⟩
  ·exact .inr e) q0
theorem UG{K:Ab}{H0:Hp}{M0:Mm}{p:Addr}{vs:List V}{ws:List W}(am0:AM K H0 M0)(e:H0 p=some (.lst vs))(n:M0 p=none)(q0:aL K H0 M0 vs ws):i0 K H0 M0 (nC K p) ws fun _=>True:=
 FJ am0 (fun H M k=>bQ.of (k.fr _ _ n e).1) q0
theorem UH{K:Ab}{H0:Hp}{M0:Mm}{p:Addr}{vs:List V}{ws:List W}(am0:AM K H0 M0)(e:H0 p=some (.tup vs))(q0:aL K H0 M0 vs ws):i0 K H0 M0 (uO K p) ws fun _=>True:=by
 have st:∀ H M,Kp H0 M0 H M->cD K H p vs:=fun H M k=>cD.of (k.fr _ _ (am0.noTup e) e).1
 refine⟨fun i H M k am _ hi=>⟨vs,vs[i]'(by rw[q0.length];exact hi),st H M k,by simp⟩,fun H M k am _=>⟨vs,st H M k,by rw[q0.length];exact Ai _⟩,fun i H M x H' k am _ hi y=>?_⟩
 obtain⟨rfl,y⟩:=y
 obtain⟨w,hw,av⟩:=(q0.kp am0 k).getV (y vs (st _ M k))
 exact⟨w,hw,Kp.refl am,am,av⟩
theorem UI{K:Ab}{H0:Hp}{M0:Mm}{lo:Int}{n:Nat}:i0 K H0 M0 (qV lo n) ((Cw n).map fun i=>W.int (lo + (i:Nat))) fun _=>True where
 go:=fun i H M _ am _ hi=>by show i < n;simpa using hi
 stop:=fun H M _ am _=>by show n<=_;simp
 yld:=fun i H M x H' _ am _ hi y=>by
  obtain⟨rfl,rfl⟩:=y
  have hi:i < n:=by simpa using hi
  exact⟨.int (lo + i),by simp[hi],Kp.refl am,am,.int _⟩
theorem UJ{K:Ab}{H0:Hp}{M0:Mm}{z:Str}:i0 K H0 M0 (vG z) (z.cps.toList.map fun c=>W.str ⟨#[c]⟩) fun _=>True where
 go:=fun i H M _ am _ hi=>by show i < z.cps.size;simpa using hi
 stop:=fun H M _ am _=>by show z.cps.size<=_;simp
 yld:=fun i H M x H' _ am _ hi y=>by
  obtain⟨rfl,c,hc,rfl⟩:=y
  exact⟨.str ⟨#[c]⟩,by rw[Au,hc];rfl,Kp.refl am,am,.str _⟩
def lS(X:Cx)(tg:Expr)(r:V->Hp->(It->Hp->Prop)->Prop):Prop:=
 ∀ (pins:List (Addr×Obj)) (s:Ag) (σ:SV) (H:Hp) (x:V) (u:Ae) (R:It->Hp->Prop),Inv X pins σ H s->RelV x u->r x H R->Bh (Bq X.prog X.w) X.A (pyIter u) (uN X pins σ tg R) X.xe s
theorem wD:lS X tg (fun x H R=>∃ a,x=.ref a/\(∃ xs,bQ X.K H a xs)/\R (nC X.K a) H):=by
 rintro pins s1 σ H1 x u R I1 r1 ⟨a,rfl,⟨xs,hq⟩,q⟩
 cases r1
 obtain⟨its,rv,p,hz⟩:=I1.list hq
 refine wpAny_pyIter_list p.isList ?_
 refine⟨s1.heap.objs.size,[s1.heap.objs.size],_,_,H1,rfl,I1.kept (t':=s1.toks) fun b o e=>Aj _ e,NM a _,⟨_,Bd _ rfl,rfl,rfl⟩,fun b hb=>?_,q⟩
 have e:b=s1.heap.objs.size:=by simpa using hb
 subst e
 exact I1.fpOk (Ai _) (I1.hok.fresh (Ai _))
theorem UK:lS X tg (fun x H R=>∃ a,x=.ref a/\(∃ xs,cD X.K H a xs)/\R (uO X.K a) H):=by
 rintro pins s1 σ H1 x u R I1 r1 ⟨a,rfl,⟨xs,hq⟩,q⟩
 cases r1
 obtain⟨its,rv,p,hz⟩:=I1.tuple hq
 refine Kl (show s1.heap.IsTuple a its.toArray from p) ?_
 refine⟨s1.heap.objs.size,[s1.heap.objs.size],_,_,H1,rfl,I1.kept (t':=s1.toks) fun b o e=>Aj _ e,NN a _,⟨_,Bd _ rfl,rfl,rfl⟩,fun b hb=>?_,q⟩
 have e:b=s1.heap.objs.size:=by simpa using hb
 subst e
 exact I1.fpOk (Ai _) (I1.hok.fresh (Ai _))
theorem UL{x:Str}{px:Pos}:lS X (.Name x px) (fun x H R=>∃ z,x=.str z/\R (vG z) H):=by
 rintro pins s1 σ H1 x u R I1 r1 ⟨z,rfl,q⟩
 obtain⟨t,rfl⟩:=r1
 have fp:∀ b∈[s1.heap.objs.size],gV X pins H1 b:=fun b hb=>by
  have e:b=s1.heap.objs.size:=by simpa using hb
  subst e
  exact I1.fpOk (Ai _) (I1.hok.fresh (Ai _))
 cases ha:z.cps.all (· < 128)
 ·refine wpAny_pyIter_wide ha ?_
  exact⟨s1.heap.objs.size,[s1.heap.objs.size],_,_,H1,rfl,I1.kept (t':=s1.toks) fun b o e=>Aj _ e,
   D6 z _ "str_iterator" t (fun A s i c Q E a b d=>wpAny_pyNext_wide_item a b d) (fun A s i Q E a b c d=>wpAny_pyNext_wide_end a b c d) (fun A i s Q E a b=>wpAny_pyIter_striter_wide a b),⟨_,Bd _ rfl,rfl,rfl⟩,fp,q⟩
 ·refine wpAny_pyIter_ascii ha ?_
  exact⟨s1.heap.objs.size,[s1.heap.objs.size],_,_,H1,rfl,I1.kept (t':=s1.toks) fun b o e=>Aj _ e,
   D6 z _ "str_ascii_iterator" t (fun A s i c Q E a b d=>wpAny_pyNext_ascii_item a b d) (fun A s i Q E a b c d=>wpAny_pyNext_ascii_end a b c d) (fun A i s Q E a b=>wpAny_pyIter_striter_ascii a b),⟨_,Bd _ rfl,rfl,rfl⟩,fp,q⟩
theorem _root_.L2.PI.of{r:V->Hp->(It->Hp->Prop)->Prop}{tl:TE}(hl:PE X l tl)(hr:lS X tg r):PI X tg l (fun σ H R=>tl σ H fun x H1=>r x H1 R):=fun pins s σ H R I h=>
 a8 (hl pins s σ H _ I h) fun u s1 ⟨x,H1,I1,r1,q1⟩=>hr pins s1 σ H1 x u R I1 r1 q1
def r6(K:Ab)(r:W->Mm->(List W->(Mm->Prop)->Mm->Prop)->Prop):V->Hp->(It->Hp->Prop)->Prop:=fun x H R'=>∃ (wx:W) (M:Mm) (R:List W->(Mm->Prop)->Mm->Prop),AV K H M x wx/\AM K H M/\r wx M R/\
 ∀ J H' ws keep M',Kp H M H' M'->AM K H' M'->i0 K H' M' J ws keep->R ws keep M'->R' J H'
def nS:W->Mm->(List W->(Mm->Prop)->Mm->Prop)->Prop
 | .tup ws,M1,R=>R ws (fun _=>True) M1
 | .rl ws,M1,R=>R ws (fun _=>True) M1
 | .sc ws,M1,R=>R ws (fun _=>True) M1
 | .ref a,M1,R=>∃ ws,M1 a=some (.lst ws)/\R ws (fun M=>M a=some (.lst ws)) M1
 | _,_,_=>False
def eO:W->Mm->(List W->(Mm->Prop)->Mm->Prop)->Prop
 | .tup ws,M1,R=>R ws (fun _=>True) M1
 | .rl ws,M1,R=>R ws (fun _=>True) M1
 | .sc ws,M1,R=>R ws (fun _=>True) M1
 | .str z,M1,R=>R (z.cps.toList.map fun c=>W.str ⟨#[c]⟩) (fun _=>True) M1
 | .ref a,M1,R=>∃ ws,M1 a=some (.lst ws)/\R ws (fun M=>M a=some (.lst ws)) M1
 | _,_,_=>False
theorem FK:lS X tg (r6 X.K nS):=by
 rintro pins s σ H x u R' I r1 ⟨wx,M,R,ax,am,h,k⟩
 have k:=fun J ws keep=>k J H ws keep M (Kp.refl am) am
 cases wx <;> first | exact(show False from h).elim | skip
 case tup ws=>exact ax.tupE fun a xs e f q=>UK pins s σ H _ u R' I r1 ⟨a,e,⟨xs,cD.of f⟩,k _ _ _ (UH am f q) h⟩
 case rl ws=>obtain⟨a,xs,e,f,n,q⟩:=ax.inv;exact wD pins s σ H _ u R' I r1 ⟨a,e,⟨xs,bQ.of f⟩,k _ _ _ (UG am f n q) h⟩
 case sc ws=>exact ax.scE fun a xs e f q=>wD pins s σ H _ u R' I r1 ⟨a,e,⟨xs,f.sq⟩,k _ _ _ (UE am f q) h⟩
 case ref a=>exact h.elim fun ws h=>am.lstE h.1 fun vs f q=>wD pins s σ H _ u R' I r1 ⟨a,ax.inv,⟨vs,bQ.of f⟩,k _ _ _ UD h.2⟩
theorem UM{y:Str}{py:Pos}:lS X (.Name y py) (r6 X.K eO):=by
 rintro pins s σ H x u R' I r1 ⟨wx,M,R,ax,am,h,k⟩
 cases wx <;> first | exact(show False from h).elim | skip
 case str z=>exact UL pins s σ H _ u R' I r1 ⟨z,ax.inv,k _ _ _ _ _ (Kp.refl am) am UJ h⟩
 all_goals exact FK pins s σ H x u R' I r1 ⟨_,M,R,ax,am,h,k⟩
def dG(r:W->Mm->(List W->(Mm->Prop)->Mm->Prop)->Prop)(tl:aY):iQ:=fun τ M R=>tl τ M fun w M1=>r w M1 R
theorem wF{r:W->Mm->(List W->(Mm->Prop)->Mm->Prop)->Prop}(hl:E3 X l tl)(hr:lS X tg (r6 X.K r)):PI X tg l (iG X.K (dG r tl)):=(PI.of hl hr).weak fun σ H R' z0=>z0.el fun τ M R as am h k=>
 ⟨τ,M,_,as,am,h,fun x H1 wx M1 k1 am1 ax h1=>⟨wx,M1,R,ax,am1,h1,fun J H' ws keep M' k' am' it r=>k J H' ws keep M' (k1.trans k') am' it r⟩⟩
theorem wH(hl:E3 X l tl):PI X tg l (iG X.K (dG nS tl)):=wF hl FK
theorem eW{y:Str}{py:Pos}(hl:E3 X l tl):PI X (.Name y py) l (iG X.K (dG eO tl)):=wF hl UM
def i4(lo:Int)(n:Nat):List W:=(Cw n).map fun i=>W.int (lo + (i:Nat))
def pI(ta:dE):iQ:=fun τ M R=>ta τ M fun ws M1=>∃ j:Int,ws=[.int j]/\-(2 ^ 62)<=j/\j < 2 ^ 62/\R (i4 0 j.toNat) (fun _=>True) M1
theorem r9{tA:dE}{p pos:Pos}(hg:Gl X "range")(hm:X.mg "range" = none)(ha:A3 X [a] tA)(hs:Bg [a] X.env=[(false,eval a X.env)]:=by rfl):PI X tg (.Call (.Name "range" p) [a] [] pos) (iG X.K (pI tA)):=
 (NR hg hm ha hs).weak fun σ H R' z0=>z0.el fun τ M R as am h k=>⟨τ,M,_,as,am,h,fun vs H1 ws M1 k1 am1 ax ⟨j,e,h1,h2,r⟩=>by
  rw[e] at ax
  obtain⟨v,e,av⟩:=ax.one
  exact⟨j,iA e av.inv,h1,h2,k _ _ _ _ _ k1 am1 UI r⟩⟩
def mN(ws:List W)(keep:Mm->Prop)(g:e6)(tt:dQ)(te:aY)(τ₀:S3)(M1:Mm)(R:K3):Prop:=
 ∀ p,M1 p=none->∃ Pv:Nat->S3->List W->Mm->Prop,Pv 0 τ₀ [] M1/\(∀ vs i τ acc M,i<=ws.length->M p=none->Pv i τ acc M->keep (put M p (.fix vs)))/\
  (∀ vs i w τ acc M,ws[i]? = some w->M p=none->Pv i τ acc M->g w τ (put M p (.fix vs)) fun τ2 M2=>tt τ2 M2 fun b M3=>
   if b=true then te τ2 M3 fun y M4=>M4 p=some (.fix vs)/\acc.length < Ak/\∃ M5,Sub M5 (del M4 p)/\Pv (i + 1) τ2 (acc ++ [y]) M5
   else M3 p=some (.fix vs)/\∃ M5,Sub M5 (del M3 p)/\Pv (i + 1) τ2 acc M5)/\
  ∀ τ acc M,M p=none->Pv ws.length τ acc M->R (.ref p) (put M p (.lst acc))
def wI(js:List (Option Nat))(τ:S3):S3:=js.map fun o=>o.bind fun j=>(τ[j]?).join
theorem AS.cmap{K:Ab}{H:Hp}{M:Mm}{σ:SV}{τ:S3}(h:AS K H M σ τ):∀ js:List (Option Nat),AS K H M (cmap js σ) (wI js τ)
 | []=>.nil
 | none :: r=>.cons (fun _ e=>nomatch e) (AS.cmap h r)
 | some j :: r=>.cons (fun w e=>by
   have e:(τ[j]?).join=some w:=e
   cases q:τ[j]? with
   | none=>rw[q] at e;cases e
   | some z=>
    rw[q] at e
    have e:z=some w:=e
    subst e
    obtain⟨v,h1,h2⟩:=h.get q
    exact⟨v,by show(σ[j]?).join=some v;rw[h1];rfl,h2⟩) (AS.cmap h r)
def fW(wi:iQ)(g:e6)(tt:dQ)(te:aY)(js:List (Option Nat)):aY:=fun τ M R=>wi τ M fun ws keep M1=>mN ws keep g tt te (wI js τ) M1 R
theorem FN{wi:iQ}{g:e6}{tt:dQ}{te:aY}{js:List (Option Nat)}{σ:SV}{H:Hp}{Q:VK}(h:up X.K (fW wi g tt te js) σ H Q):vF (iG X.K wi) (fun _=>g8 X.K g) (fun _=>jV X.K tt) (fun _=>up X.K te) js σ H Q:=by
 obtain⟨τ,M,R,as,am,h,k⟩:=h
 refine⟨τ,M,_,as,am,h,fun J H1 ws keep M1 k1 am1 it hall p hp B=>?_⟩
 obtain⟨Pv,h0,hk,hs,hd⟩:=hall p (am1.nonM hp)
 obtain⟨amp,kp⟩:=am1.laid (o:=.fix []) (u:=.lst []) hp cZ
 have hMp:=am1.nonM hp
 refine RX ws.length (fun i σ' acc' H'=>∃ τ' acc M',M' p=none/\Kp H1 M1 H' (put M' p (.fix acc'))/\AM X.K H' (put M' p (.fix acc'))/\AS X.K H' (put M' p (.fix acc')) σ' τ'/\aL X.K H' (put M' p (.fix acc')) acc' acc/\Pv i τ' acc M') ?_ ?_ ?_
 ·exact⟨wI js τ,[],M1,hMp,kp,amp,((as.kp am k1).kp am1 kp).cmap js,.nil,h0⟩
 ·rintro σ' acc' H' ⟨τ',acc,M',mp,k',am',as',av,pv⟩
  refine⟨it.stop H' _ k' am' (hk _ _ _ _ _ (Ai _) mp pv),?_⟩
  have hp':H' p=some (.lst acc'):=am' p _ aT
  refine k _ H' _ (put M' p (.lst acc)) (k1.trans ⟨fun a o n e=>?_,k'.dom⟩) (fun a o e=>?_) (.ref p) (hd τ' acc M' mp pv)
  ·obtain⟨x,y⟩:=k'.fr a o n e
   exact⟨x,by rw[aQ (fH e hp)] at y ⊢;exact y⟩
  ·by_cases ha:a=p
   ·subst ha;rw[aT] at e;cases e;exact⟨acc',hp',av.go EI⟩
   ·rw[aQ ha] at e;exact(am' a o (by rw[aQ ha];exact e)).go EI rfl
 ·rintro i σ' acc' H' hi ⟨τ',acc,M',mp,k',am',as',av,pv⟩
  have hkp:=hk acc' i τ' acc M' (Fv hi) mp pv
  refine⟨it.go i H' _ k' am' hkp hi,fun x H3 y=>?_⟩
  obtain⟨w,hw,k3,am3,ax⟩:=it.yld i H' _ x H3 k' am' hkp hi y
  refine⟨w,τ',_,_,ax,as'.kp am' k3,am3,hs acc' i w τ' acc M' hw mp pv,fun σ4 H4 τ4 M4 k4 am4 as4 h4=>⟨τ4,M4,_,as4,am4,h4,fun b H5 M5 k5 am5 h5=>?_⟩⟩
  have kk:Kp H' (put M' p (.fix acc')) H5 M5:=(k3.trans k4).trans k5
  cases b with
  | false=>
   obtain⟨m5,M6,sb,pv6⟩:M5 p=some (.fix acc')/\∃ M6,Sub M6 (del M5 p)/\Pv (i + 1) τ4 acc M6:=h5
   have sb':Sub (put M6 p (.fix acc')) M5:=by
    have:=(sb.trans Sub.del).put (a:=p) (o:=.fix acc')
    rwa [SM m5] at this
   exact RN ⟨τ4,acc,M6,sb.non mJ,(k'.trans kk).sub sb',am5.sub sb',(as4.kp am4 k5).sub sb',(av.kp am' kk).sub sb',pv6⟩
  | true=>
   have h5:te τ4 M5 fun y M4=>M4 p=some (.fix acc')/\acc.length < Ak/\∃ M5,Sub M5 (del M4 p)/\Pv (i + 1) τ4 (acc ++ [y]) M5:=h5
   refine RO ⟨τ4,M5,_,as4.kp am4 k5,am5,h5,fun y H6 wy M6 k6 am6 ay ⟨m6,hl,M7,sb,pv7⟩=>?_⟩
   have kk6:=kk.trans k6
   have hp6:H6 p=some (.lst acc'):=am6 p _ m6
   obtain⟨am8,k8⟩:=am6.write (o:=.fix (acc' ++ [y])) (u:=.lst (acc' ++ [y])) m6 cZ
   have sb':Sub (put M7 p (.fix (acc' ++ [y]))) (put M6 p (.fix (acc' ++ [y]))):=(sb.trans Sub.del).put
   refine⟨hp6,by rw[av.length];exact hl,τ4,acc ++ [wy],M7,sb.non mJ,((k'.trans kk6).trans k8).sub sb',am8.sub sb',(((as4.kp am4 k5).kp am5 k6).kp am6 k8).sub sb',?_,pv7⟩
   exact(((av.kp am' kk6).append (.cons ay .nil)).kp am6 k8).sub sb'
variable {sc:Hc}{N':List Str}{js:List (Option Nat)}{iter elt:Expr}{ifs:List Expr}{wi:iQ}{g:e6}{tt:dQ}
def i5:dQ:=fun _ M Q=>Q true M
theorem lT:iM X [] (jV X.K i5):=RT.weak fun σ H Q z0=>z0.el fun τ M R as am h k=>k true H M (Kp.refl am) am h
theorem mO{c:Expr}{t:dQ}(h:T3 X c t):iM X [c] (jV X.K t):=RU h
theorem iR(N':List Str)(js:List (Option Nat))(hi:PI X tg iter (iG X.K wi))
  (hg:∀ B,PG (dY X sc N' B) tg (g8 X.K g)) (ht:∀ B,iM (dY X sc N' B) ifs (jV X.K tt)) (he:∀ B,PE (dY X sc N' B) elt (up X.K te))
  (S0:mH N' sc X.env.scope=true:=by kernel_rfl) (hj:fQ N' X.N sc js N'=true:=by kernel_rfl) (hc:X.calm=true:=by rfl) (hs:∀ x,Gk iter X.env x=pure x:=by intro _;rfl) :
  E3 X (.ListComp elt [⟨tg,iter,ifs,0⟩] sc pos) (fW wi g tt te js):=(RV N' js hi hg ht he S0 hj hc hs).weak fun _ _ _ h=>FN h
end
def bP(N:List Str)(ws:List W):S3:=ws.map some ++ Bw (N.length - ws.length) none
def bI(R:K3):D3:={nx:=fun _ M'=>∃ M'',Sub M'' M'/\R .non M'',rt:=fun w M'=>∃ M'',Sub M'' M'/\R w M''}
section
variable {P:Bu}{w:Cm}{K:Ab}{mg:Str->Option Ae}{base:Heap}
theorem UN{x qual:Str}{st:Stmt}{f:Addr}{fd:Bi}{N ps:List Str}{k:Nat}{sp:bH}(F:jH K x qual st f fd)(S:mD N ps (d6 st))(len:∀ ws M R,sp ws M R->ws.length=ps.length)
  (hbody:∀ (cdv:Ae) (A:Co) (outer:List Env) (s:Ag) (H:Hp) (E:XK) (ws:List W) (M:Mm) (R:K3),cF k (A.deeper (Ja qual (d6 st) s.heap.objs.size f cdv))->sp ws M R->
   ∃ t,jK (kG e9 P w K mg base N qual (d6 st) f cdv A outer s H E).nox (gQ st) t/\t (bI R) (bP N ws) M):eV P w K mg base e9 (k + 1) f fd ps (fV K sp):=by
 refine F.ok S (fun vs H Q E ⟨ws,M,R,am,av,h,_⟩=>by rw[av.length];exact len ws M R h) fun cdv A outer s H vs Q E hr ⟨ws,M,R,am,av,h,kk⟩=>?_
 obtain⟨t,ht,h'⟩:=hbody cdv A outer s H E ws M R hr h
 refine⟨_,ht,bP N ws,M,bI R,?_,am,h',⟨fun σ' H' τ' M' k' am' as' ⟨M'',sb,r⟩=>kk _ H' _ M'' (k'.sub sb) (am'.sub sb) .non r,fun v H' w M' k' am' av' ⟨M'',sb,r⟩=>kk v H' w M'' (k'.sub sb) (am'.sub sb) (av'.sub sb) r,fun _ _ _ _ _ _ _ z=>z.elim,fun _ _ _ _ _ _ _ z=>z.elim⟩⟩
 unfold L2.start bP
 rw[av.length]
 exact AS.start av _
end
section
variable {X:Cx}{a b:Expr}{ta tb:aY}{pos:Pos}{es:List Expr}{t:dE}
theorem UO{K:Ab}{H:Hp}{M:Mm}{R:K3}{Q:VK}{p:Addr}{xs:List V}{ws:List W}(am:AM K H M)(k:Up K H M R Q)(hp:H p=none)(ax:aL K H M xs ws)(r:R (.rl ws) M):Q (.ref p) (aR H p (.lst xs)):=by
 obtain⟨am2,k2⟩:=am.tup (u:=.lst xs) hp
 exact k _ _ _ _ k2 am2 (.rl cZ (am.nonM hp) (ax.newT hp)) r
def fX(t:dE):aY:=fun τ M R=>t τ M fun ws M1=>ws.length<=Ak/\R (.rl ws) M1
theorem gJ(h:A3 X es t):E3 X (.List es pos) (fX t):=
 (C6 h).weak fun σ H Q z0=>z0.el fun τ M R as am h k=>⟨τ,M,_,as,am,h,fun xs H1 ws M1 k1 am1 axs ⟨hl,r⟩=>⟨by rw[axs.length];exact hl,fun p hp=>UO am1 (k.kp k1) hp axs r⟩⟩
theorem FO{f:Ae->Ae->Sem Ae}{r r':R3}(h:bD X f (cX X.K r))(k:∀ x y M R,r' x y M R->r x y M fun w M'=>frz w M' R):bD X f (cX X.K r'):=fun pins s σ H x y v u Q I rx ry ⟨wx,wy,M,R,am,ax,ay,h',kk⟩=>
 h pins s σ H x y v u Q I rx ry ⟨wx,wy,M,_,am,ax,ay,k _ _ _ _ h',kk.frz⟩
theorem FP{f:Ae}{r r':List W->Mm->K3->Prop}(h:eD X f (iB X.K r))(k:∀ x M R,r' x M R->r x M fun w M'=>frz w M' R):eD X f (iB X.K r'):=fun pins s σ H xs us Q I rs ⟨ws,M,R,am,ax,h',kk⟩=>
 h pins s σ H xs us Q I rs ⟨ws,M,_,am,ax,k _ _ _ h',kk.frz⟩
def dH:R3
 | .int i,.int j,M,R=>R (.int (i + j)) M
 | .tup xs,.tup ys,M,R=>xs≠[]/\xs.length + ys.length<=Ak/\R (.tup (xs ++ ys)) M
 | .ref a,.ref b,M,R=>∃ xs ys,M a=some (.lst xs)/\M b=some (.lst ys)/\xs.length + ys.length<=Ak/\R (.rl (xs ++ ys)) M
 | .rl xs,.ref b,M,R=>∃ ys,M b=some (.lst ys)/\xs.length + ys.length<=Ak/\R (.rl (xs ++ ys)) M
 | .ref a,.rl ys,M,R=>∃ xs,M a=some (.lst xs)/\xs.length + ys.length<=Ak/\R (.rl (xs ++ ys)) M
 | .rl xs,.rl ys,M,R=>xs.length + ys.length<=Ak/\R (.rl (xs ++ ys)) M
 | _,_,_,_=>False
theorem dJ:bD X (Fe .Add) (cX X.K dH):=FO ER fun x y M R h=>by
 cases x <;> first | exact(show False from h).elim | (cases y <;> first | exact(show False from h).elim | skip)
 case int.int i j=>exact h
 case tup.tup i j=>exact h
 case ref.ref i j=>obtain⟨xs,ys,h1,h2,h3,r⟩:=h;exact⟨xs,ys,h1,h2,h3,aZ.frz r⟩
 case rl.ref i j=>obtain⟨ys,h2,h3,r⟩:=h;exact⟨ys,h2,h3,aZ.frz r⟩
 case ref.rl i j=>obtain⟨ys,h2,h3,r⟩:=h;exact⟨ys,h2,h3,aZ.frz r⟩
 case rl.rl i j=>exact⟨h.1,aZ.frz h.2⟩
def sA:R3
 | .int i,.int j,M,R=>(nD i j\/rG i j)/\R (.int (i * j)) M
 | .ref a,.int n,M,R=>∃ xs,M a=some (.lst xs)/\-(2 ^ 63)<=n/\n < 2 ^ 63/\xs.length * n.toNat<=Ak/\R (.rl (Bw n.toNat xs).flatten) M
 | .rl xs,.int n,M,R=>-(2 ^ 63)<=n/\n < 2 ^ 63/\xs.length * n.toNat<=Ak/\R (.rl (Bw n.toNat xs).flatten) M
 | _,_,_,_=>False
theorem wJ:bD X (Fe .Mult) (cX X.K sA):=FO TF fun x y M R h=>by
 cases x <;> first | exact(show False from h).elim | (cases y <;> first | exact(show False from h).elim | skip)
 case int.int i j=>exact h
 case ref.int i j=>obtain⟨xs,h1,h2,h3,h4,r⟩:=h;exact⟨xs,h1,h2,h3,h4,aZ.frz r⟩
 case rl.int i j=>obtain⟨h2,h3,h4,r⟩:=h;exact⟨h2,h3,h4,aZ.frz r⟩
def j4:List W->Mm->K3->Prop
 | [.tup ws],M,R=>R (.rl ws) M
 | [.rl ws],M,R=>R (.rl ws) M
 | [.sc ws],M,R=>R (.rl ws) M
 | [.dk kvs],M,R=>R (.rl (kvs.map fun kv=>wK kv.1)) M
 | [.ref a],M,R=>(∃ ws,M a=some (.lst ws)/\R (.rl ws) M)\/∃ kvs,M a=some (.dK kvs)/\R (.rl (kvs.map fun kv=>wK kv.1)) M
 | _,_,_=>False
theorem kQ(hc:X.calm=true):eD X (.type "list") (iB X.K j4):=FP (FC hc) fun x M R h=>by
 match x,h with
 | [.tup ws],h=>exact aZ.frz h
 | [.rl ws],h=>exact aZ.frz h
 | [.sc ws],h=>exact aZ.frz h
 | [.dk kvs],h=>exact aZ.frz h
 | [.ref a],h=>
  rcases h with⟨ws,e,r⟩ | ⟨kvs,e,r⟩
  ·exact .inl ⟨ws,e,aZ.frz r⟩
  ·exact .inr ⟨kvs,e,aZ.frz r⟩
def mQ:W->Option Int->Option Int->Mm->K3->Prop
 | .rl ws,lo,hi,M,R=>R (.rl (eF ws lo hi)) M
 | .sc ws,lo,hi,M,R=>R (.rl (eF ws lo hi)) M
 | .ref a,lo,hi,M,R=>∃ ws,M a=some (.lst ws)/\R (.rl (eF ws lo hi)) M
 | .tup ws,lo,hi,M,R=>¬ (HT.sIx ws.length 0 lo=0/\HT.sIx ws.length ws.length hi=ws.length)/\R (.tup (eF ws lo hi)) M
 | _,_,_,_,_=>False
theorem UP{x:W}{l u:Option Int}{M:Mm}{R:K3}(h:mQ x l u M R):E4 x l u M fun w M'=>frz w M' R:=by
 cases x <;> first | exact(show False from h).elim | skip
 case tup ws=>exact h
 case rl ws=>exact aZ.frz h
 case sc ws=>exact aZ.frz h
 case ref a=>obtain⟨ws,e,r⟩:=h;exact⟨ws,e,aZ.frz r⟩
def iH(ta:aY)(tl th:nN):aY:=fun τ M R=>ta τ M fun x M1=>tl τ M1 fun l M2=>th τ M2 fun u M3=>mQ x l u M3 R
theorem i6{lo hi:Option Expr}{tl th:nN}{p2:Pos}(he:E3 X a ta)(hl:PO X lo (nO X.K tl))(hu:PO X hi (nO X.K th)):E3 X (.Subscript a (.Slice lo hi none p2) pos) (iH ta tl th):=
 (PZ TZ he hl hu).weak fun σ H Q z0=>z0.el fun τ M R as am h k=>⟨τ,M,_,as,am,h,fun x H1 wx M1 k1 am1 ax h1=>⟨τ,M1,_,as.kp am k1,am1,h1,fun l H2 M2 k2 am2 h2=>⟨τ,M2,_,(as.kp am k1).kp am1 k2,am2,h2,fun u H3 M3 k3 am3 h3=>
  ⟨wx,M3,_,am3,(ax.kp am1 k2).kp am2 k3,UP h3,(((k.kp k1).kp k2).kp k3).frz⟩⟩⟩⟩
variable {sc:Hc}{N':List Str}{js:List (Option Nat)}{tg iter elt:Expr}{ifs:List Expr}{wi:iQ}{g:e6}{tt:dQ}{te:aY}
theorem UQ{i:Nat}{x:Str}{px spos:Pos}(hN:X.N.Nodup)(hi0:X.N[i]? = some x)(hx:Loc X.env.scope x)(N':List Str)(js:List (Option Nat))(hi:PI X tg iter (iG X.K wi))
  (hg:∀ B,PG (dY X sc N' B) tg (g8 X.K g)) (ht:∀ B,iM (dY X sc N' B) ifs (jV X.K tt)) (he:∀ B,PE (dY X sc N' B) elt (up X.K te))
  (S0:mH N' sc X.env.scope=true:=by kernel_rfl) (hj:fQ N' X.N sc js N'=true:=by kernel_rfl) (hc:X.calm=true:=by rfl) (hsw:Ir (.ListComp elt [⟨tg,iter,ifs,0⟩] sc pos) (some (.Name x px)) spos.line X.env=pure true:=by rfl)
  (hf:X.fn x=true\/X.env.scope.names.lookup x=some .local:=by first | exact .inl rfl | exact .inr rfl | assumption)
  (hs:∀ x,Gk iter X.env x=pure x:=by intro _;rfl):P3 X (.Assign [.Name x px] (.ListComp elt [⟨tg,iter,ifs,0⟩] sc pos) spos) (bB i (cM (fW wi g tt te js))):=
 (RW hN hi0 hx N' js hi hg ht he S0 hj hc hsw hf hs).weak fun D σ H z0=>z0.el fun τ M D' as am h k=>FN ⟨τ,M,_,as,am,h,Up.frz fun y H1 wy M1 k1 am1 ay h1=>k.nx _ _ _ _ k1 am1 ((as.kp am k1).set ay i) h1⟩
end
def Pl:Nat->W->Prop
 | _,.non=>True
 | _,.int _=>True
 | _,.str x=>PyData.strOk x=true
 | n + 1,.tup ws=>∀ w∈ws,Pl n w
 | n + 1,.rl ws=>∀ w∈ws,Pl n w
 | _,_=>False
def dN(M:Mm):W->W
 | .ref a=>match M a with
  | some (.lst ws)=>.rl ws
  | _=>.ref a
 | w=>w
section
variable {M:Mm}
theorem wL{n:Nat}(ih:∀ {w:W},Pl n w->∃ d,Snap M w d/\d.canLay0=true/\d.depth<=n):∀ {ws:List W},(∀ w∈ws,Pl n w)->∃ ds,iO M ws ds/\PyData.canLayAll0 ds=true/\PyData.depthAll ds<=n
 | [],_=>⟨[],.nil,rfl,by simp[PyData.depthAll]⟩
 | w :: ws,h=>by
  obtain⟨d,s,c,e⟩:=ih (h w Bb)
  obtain⟨ds,ss,cc,ee⟩:=wL ih fun z hz=>h z (Av _ hz)
  exact⟨d :: ds,.cons s ss,by simp[PyData.canLayAll0,c,cc],by simp only[PyData.depthAll];lia⟩
theorem pJ:∀ {n:Nat} {w:W},Pl n w->∃ d,Snap M w d/\d.canLay0=true/\d.depth<=n:=by
 intro n
 induction n with
 | zero=>
  intro w h
  cases w <;> first | exact(show False from h).elim | skip
  case non=>exact⟨_,.non,rfl,by simp[Hk]⟩
  case int i=>exact⟨_,.int i,rfl,by simp[Hk]⟩
  case str x=>exact⟨_,.str x,h,by simp[Hk]⟩
 | succ n ih=>
  intro w h
  cases w <;> first | exact(show False from h).elim | skip
  case non=>exact⟨_,.non,rfl,by simp[Hk]⟩
  case int i=>exact⟨_,.int i,rfl,by simp[Hk]⟩
  case str x=>exact⟨_,.str x,h,by simp[Hk]⟩
  case tup ws=>
   obtain⟨ds,s,c,e⟩:=wL ih h
   exact⟨_,.tup s,by simpa [PyData.canLay0] using c,by simp only[Hk];lia⟩
  case rl ws=>
   obtain⟨ds,s,c,e⟩:=wL ih h
   exact⟨_,.rl s,by simpa [PyData.canLay0] using c,by simp only[Hk];lia⟩
theorem FQ{n:Nat}{w:W}(h:Pl n (dN M w)):∃ d,Snap M w d/\Snap M (dN M w) d/\d.canLay0=true/\d.depth<=n:=by
 obtain⟨d,s,c,e⟩:=pJ (M:=M) h
 refine⟨d,?_,s,c,e⟩
 cases w <;> first | exact s | skip
 case ref a=>
  cases q:M a with
  | none=>
   have e:dN M (.ref a)=.ref a:=by simp[dN,q]
   rw[e] at s;exact s
  | some o=>
   cases o with
   | lst ws=>
    have e:dN M (.ref a)=.rl ws:=by simp[dN,q]
    rw[e] at s
    cases s with
    | rl r=>exact .ref q r
   | dK _=>
    have e:dN M (.ref a)=.ref a:=by simp[dN,q]
    rw[e] at s;exact s
   | dT _=>
    have e:dN M (.ref a)=.ref a:=by simp[dN,q]
    rw[e] at s;exact s
   | fix _=>
    have e:dN M (.ref a)=.ref a:=by simp[dN,q]
    rw[e] at s;exact s
   | ins _ _ _=>
    have e:dN M (.ref a)=.ref a:=by simp[dN,q]
    rw[e] at s;exact s
   | tb _ _=>
    have e:dN M (.ref a)=.ref a:=by simp[dN,q]
    rw[e] at s;exact s
   | cl _ _ _ _=>
    have e:dN M (.ref a)=.ref a:=by simp[dN,q]
    rw[e] at s;exact s
theorem FR{n:Nat}(ih:∀ {x y:W} {dx dy:Ko},Pl n x->Pl n y->Snap M x dx->Snap M y dy->(Ib dx dy=true↔x=y)):∀ {xs ys:List W} {dx dy:List Ko},(∀ w∈xs,Pl n w)->(∀ w∈ys,Pl n w)->iO M xs dx->iO M ys dy->(Lp dx dy=true↔xs=ys):=by
 intro xs
 induction xs with
 | nil=>
  intro ys dx dy hx hy s1 s2
  cases s1
  cases s2 <;> simp[Lp]
 | cons x xs IH=>
  intro ys dx dy hx hy s1 s2
  cases s1 with
  | cons s1 r1=>
   cases s2 with
   | nil=>simp[Lp]
   | cons s2 r2=>
    rw[Lp,Cr,ih (hx x Bb) (hy _ Bb) s1 s2,IH (fun z hz=>hx z (Av _ hz)) (fun z hz=>hy z (Av _ hz)) r1 r2]
    simp
theorem wM:∀ {n:Nat} {x y:W} {dx dy:Ko},Pl n x->Pl n y->Snap M x dx->Snap M y dy->(Ib dx dy=true↔x=y):=by
 intro n
 induction n with
 | zero=>
  intro x y dx dy hx hy sx sy
  cases sx <;> first | exact(show False from hx).elim | skip
  all_goals cases sy <;> first | exact(show False from hy).elim | simp[Ib]
 | succ n ih=>
  intro x y dx dy hx hy sx sy
  cases sx <;> first | exact(show False from hx).elim | skip
  all_goals cases sy <;> first | exact(show False from hy).elim | skip
  all_goals first | (simp[Ib];done) | skip
  case tup.tup r1 _ _ r2=>rw[Ib,FR ih hx hy r1 r2];simp
  case rl.rl r1 _ _ r2=>rw[Ib,FR ih hx hy r1 r2];simp
theorem UR{neg:Bool}{x y:W}{R:K3}(n:Nat)(hn:n<=60)(hx:Pl n (dN M x))(hy:Pl n (dN M y))(h:∀ b:Bool,(b=true↔dN M x=dN M y)->R (.bl (if neg then !b else b)) M):pF neg x y M R:=by
 obtain⟨dx,s1,s1',c1,e1⟩:=FQ hx
 obtain⟨dy,s2,s2',c2,e2⟩:=FQ hy
 exact⟨dx,dy,s1,s2,⟨c1,by lia⟩,⟨c2,by lia⟩,h _ (wM hx hy s1' s2')⟩
theorem US{neg:Bool}{x y:W}{R:K3}(n:Nat)(hn:n<=60)(hx:Pl n (dN M x))(hy:Pl n (dN M y))(h:∀ b:Bool,(b=true↔dN M x=dN M y)->R (.bl (if neg then !b else b)) M):rEq neg x y M R:=by
 have d:=UR n hn hx hy h
 cases x <;> first | exact d | skip
 case int i=>
  cases y <;> first | exact d | skip
  case int j=>exact h (decide (i=j)) (by simp[dN])
 case str i=>
  cases y <;> first | exact d | skip
  case str j=>exact h (decide (i=j)) (by simp[dN])
 case bl i=>
  cases y <;> first | exact d | skip
  case bl j=>exact(show False by cases n <;> exact hx).elim
end
theorem FT{M:Mm}{neg:Bool}{x y:W}{R:K3}(n:Nat)(hn:n<=60)(hx:Pl n (dN M x))(e:dN M y=dN M x)(h:R (.bl (!neg)) M):rEq neg x y M R:=by
 refine US n hn hx (by rw[e];exact hx) fun b hb=>?_
 have:b=true:=hb.mpr e.symm
 subst this
 cases neg <;> exact h
theorem sC{ws:List W}{keep:Mm->Prop}{g:e6}{tt:dQ}{te:aY}{τ₀:S3}{M1:Mm}{R:K3}(St:S3->Prop)(tgt:W->S3)(Rel:W->Option W->Prop)(hl:ws.length<=Ak)(hk:∀ M,Sub M1 M->keep M)
  (h0:St τ₀) (ht:∀ w∈ws,St (tgt w)) (hg:∀ w∈ws,∀ τ M (C:S3->Mm->Prop),St τ->C (tgt w) M->g w τ M C)
  (hs:∀ w∈ws,∀ M (C:K3) (D:Mm->Prop),Sub M1 M->(∀ y,Rel w (some y)->C y M)->(Rel w none->D M)->tt (tgt w) M fun b M3=>if b=true then te (tgt w) M3 C else D M3)
  (r:∀ os,Fn Rel ws os->aZ (os.filterMap id) M1 R):mN ws keep g tt te τ₀ M1 R:=by
 intro p hp
 refine⟨fun i τ acc M=>St τ/\(∃ os,Fn Rel (ws.take i) os/\acc=os.filterMap id)/\M=M1,⟨h0,⟨[],by simp;exact .nil,rfl⟩,rfl⟩,?_,?_,?_⟩
 ·rintro vs i τ acc M _ mp ⟨_,_,rfl⟩;exact hk _ (Sub.new hp)
 ·rintro vs i w τ acc M hw mp ⟨st,⟨os,po,rfl⟩,rfl⟩
  have hm:w∈ws:=Bn hw
  have hi:i < ws.length:=(Ah.mp hw).1
  have htk:ws.take (i + 1)=ws.take i ++ [w]:=by rw[Eu,hw];rfl
  have snoc:∀ o,Rel w o->Fn Rel (ws.take (i + 1)) (os ++ [o]):=fun o ro=>by
   rw[htk]
   clear hw mp st htk
   revert os
   generalize ws.take i=l
   intro os po
   induction po with
   | nil=>exact .cons ro .nil
   | cons a b ih=>exact .cons a ih
  have hlen:(os.filterMap id).length < Ak:=by
   have h1:=List.length_filterMap_le id os
   have h2:=Dw po
   rw[Bj] at h2
   lia
  refine hg w hm τ _ _ st (hs w hm _ _ _ (Sub.new hp) (fun y hy=>⟨aT,hlen,M,?_,ht w hm,⟨_,snoc _ hy,?_⟩,rfl⟩) fun hn=>⟨aT,M,?_,ht w hm,⟨_,snoc _ hn,?_⟩,rfl⟩)
  ·rw[kH hp];exact Sub.refl _
  ·simp
  ·rw[kH hp];exact Sub.refl _
  ·simp
 ·rintro τ acc M mp ⟨_,⟨os,po,rfl⟩,rfl⟩
  rw[Ck] at po
  exact r os po p hp
def wN(rest:S3):S3->Prop:=fun τ=>∃ o,τ=o :: rest
theorem nT{ws:List W}{keep:Mm->Prop}{te:aY}{o:Option W}{rest:S3}{M1:Mm}{R:K3}(f:W->W)(hl:ws.length<=Ak)(hk:∀ M,Sub M1 M->keep M)
  (hs:∀ w∈ws,∀ M (C:K3),Sub M1 M->C (f w) M->te (some w :: rest) M C) (r:aZ (ws.map f) M1 R):mN ws keep (bW 0) i5 te (o :: rest) M1 R:=by
 refine sC (wN rest) (fun w=>some w :: rest) (fun w o=>o=some (f w)) hl hk ⟨_,rfl⟩ (fun w _=>⟨_,rfl⟩) ?_ ?_ ?_
 ·rintro w _ τ M C ⟨o,rfl⟩ h;exact h
 ·intro w hw M C D sb h1 _
  show(if true=true then te (some w :: rest) M C else D M)
  rw[if_pos rfl]
  exact hs w hw M C sb (h1 _ rfl)
 ·intro os po
  have:os.filterMap id=ws.map f:=by
   clear r hs hl hk
   induction po with
   | nil=>rfl
   | cons a b ih=>subst a;simp[ih]
  rw[this];exact r
theorem nU{ws:List W}{keep:Mm->Prop}{tt:dQ}{te:aY}{o:Option W}{rest:S3}{M1:Mm}{R:K3}(f:W->Option W)(hl:ws.length<=Ak)(hk:∀ M,Sub M1 M->keep M)
  (hs:∀ w∈ws,∀ M (C:K3) (D:Mm->Prop),Sub M1 M->(∀ y,f w=some y->C y M)->(f w=none->D M)->tt (some w :: rest) M fun b M3=>if b=true then te (some w :: rest) M3 C else D M3)
  (r:aZ (ws.filterMap f) M1 R):mN ws keep (bW 0) tt te (o :: rest) M1 R:=by
 refine sC (wN rest) (fun w=>some w :: rest) (fun w o=>o=f w) hl hk ⟨_,rfl⟩ (fun w _=>⟨_,rfl⟩) ?_ ?_ ?_
 ·rintro w _ τ M C ⟨o,rfl⟩ h;exact h
 ·intro w hw M C D sb h1 h2
  exact hs w hw M C D sb (fun y e=>h1 y e.symm) fun e=>h2 e.symm
 ·intro os po
  have:os.filterMap id=ws.filterMap f:=by
   clear r hs hl hk
   induction po with
   | nil=>rfl
   | @cons a b c d e _ ih=>
    subst e
    cases q:f a <;> simp[q,ih]
  rw[this];exact r
theorem UT{ws:List W}{keep:Mm->Prop}{te:aY}{o:Option W}{rest:S3}{M1:Mm}{R:K3}(P:W->W->Prop)(hl:ws.length<=Ak)(hk:∀ M,Sub M1 M->keep M)
  (hs:∀ w∈ws,∀ M (C:K3),Sub M1 M->(∀ y,P w y->C y M)->te (some w :: rest) M C) (r:∀ ys,Fn P ws ys->aZ ys M1 R):mN ws keep (bW 0) i5 te (o :: rest) M1 R:=by
 refine sC (wN rest) (fun w=>some w :: rest) (fun w o=>∃ y,o=some y/\P w y) hl hk ⟨_,rfl⟩ (fun w _=>⟨_,rfl⟩) ?_ ?_ ?_
 ·rintro w _ τ M C ⟨o,rfl⟩ h;exact h
 ·intro w hw M C D sb h1 _
  show(if true=true then te (some w :: rest) M C else D M)
  rw[if_pos rfl]
  exact hs w hw M C sb fun y py=>h1 y ⟨y,rfl,py⟩
 ·intro os po
  have:∃ ys,os=ys.map some/\Fn P ws ys:=by
   clear r hs hl hk
   induction po with
   | nil=>exact⟨[],rfl,.nil⟩
   | cons a b ih=>
    obtain⟨y,rfl,py⟩:=a
    obtain⟨ys,rfl,h⟩:=ih
    exact⟨y :: ys,rfl,.cons py h⟩
  obtain⟨ys,rfl,py⟩:=this
  rw[Ig]
  have:(ys.filterMap (id ∘ some))=ys:=by simp
  rw[this]
  exact r ys py
def UU(rest:S3):S3->Prop:=fun τ=>∃ o1 o2,τ=o1 :: o2 :: rest
def UW(rest:S3):W->S3
 | .tup [a,b]=>some a :: some b :: rest
 | _=>none :: none :: rest
abbrev FU:e6:=kP 2 (gC (bW 0) (gC (bW 1) kO))
theorem FV{ws:List W}{keep:Mm->Prop}{tt:dQ}{te:aY}{o1 o2:Option W}{rest:S3}{M1:Mm}{R:K3}(P:W->Option W->Prop)(hw:∀ w∈ws,∃ a b,w=.tup [a,b])(hl:ws.length<=Ak)(hk:∀ M,Sub M1 M->keep M)
  (hs:∀ a b,.tup [a,b]∈ws->∀ M (C:K3) (D:Mm->Prop),Sub M1 M->(∀ y,P (.tup [a,b]) (some y)->C y M)->(P (.tup [a,b]) none->D M)->tt (some a :: some b :: rest) M fun b' M3=>if b'=true then te (some a :: some b :: rest) M3 C else D M3)
  (r:∀ os,Fn P ws os->aZ (os.filterMap id) M1 R):mN ws keep FU tt te (o1 :: o2 :: rest) M1 R:=by
 refine sC (UU rest) (UW rest) P hl hk ⟨_,_,rfl⟩ (fun w hm=>?_) ?_ ?_ r
 ·obtain⟨a,b,rfl⟩:=hw w hm;exact⟨_,_,rfl⟩
 ·rintro w hm τ M C ⟨u1,u2,rfl⟩ h
  obtain⟨a,b,rfl⟩:=hw w hm
  exact⟨rfl,rfl,h⟩
 ·intro w hm M C D sb h1 h2
  obtain⟨a,b,rfl⟩:=hw w hm
  exact hs a b hm M C D sb h1 h2
theorem UX{ws:List W}{keep:Mm->Prop}{te:aY}{o1 o2:Option W}{rest:S3}{M1:Mm}{R:K3}(P:W->W->Prop)(hw:∀ w∈ws,∃ a b,w=.tup [a,b])(hl:ws.length<=Ak)(hk:∀ M,Sub M1 M->keep M)
  (hs:∀ a b,.tup [a,b]∈ws->∀ M (C:K3),Sub M1 M->(∀ y,P (.tup [a,b]) y->C y M)->te (some a :: some b :: rest) M C)
  (r:∀ ys,Fn P ws ys->aZ ys M1 R):mN ws keep FU i5 te (o1 :: o2 :: rest) M1 R:=by
 refine FV (fun w o=>∃ y,o=some y/\P w y) hw hl hk (fun a b hm M C D sb h1 _=>?_) fun os po=>?_
 ·show(if true=true then te (some a :: some b :: rest) M C else D M)
  rw[if_pos rfl]
  exact hs a b hm M C sb fun y py=>h1 y ⟨y,rfl,py⟩
 ·have:∃ ys,os=ys.map some/\Fn P ws ys:=by
   clear r hs hl hk hw
   induction po with
   | nil=>exact⟨[],rfl,.nil⟩
   | cons a b ih=>
    obtain⟨y,rfl,py⟩:=a
    obtain⟨ys,rfl,h⟩:=ih
    exact⟨y :: ys,rfl,.cons py h⟩
  obtain⟨ys,rfl,py⟩:=this
  rw[Ig]
  have:(ys.filterMap (id ∘ some))=ys:=by simp
  rw[this]
  exact r ys py
structure Df(K:Ab)(mg:Str->Option Ae)(x:Str)(st:Stmt)(ps:List Str)(f:Addr)(fd:Bi):Prop where
 fn:jH K x x st f fd
 at_:mg x=some (.ref f)
 bi:Binds K fd ps []
theorem d9:Dv "len" = some (.builtin "len"):=PySem.boot_len
theorem j5:Dv "list" = some (.type "list"):=by decide +kernel
theorem FX:Dv "tuple" = some (.type "tuple"):=by decide +kernel
theorem FY:Dv "dict" = some (.type "dict"):=by decide +kernel
theorem UY:Dv "sorted" = some (.builtin "sorted"):=by decide +kernel
theorem UZ{α:Type}(x:α)(xs:List α):cC (x :: xs) 0=some x:=by simp[cC,gX]
theorem U0{α:Type}{xs:List α}{i:Int}(h0:0<=i)(h1:i < xs.length):∃ x,cC xs i=some x/\xs[i.toNat]? = some x/\x∈xs:=by
 have hlt:i.toNat < xs.length:=by lia
 refine⟨xs[i.toNat],?_,Ax hlt,Hr hlt⟩
 simp[cC,gX,h0,h1,hlt]
def g9(x:Str):Prop:=PyData.strOk x=true
theorem eP{n:Nat}(h:n<=10000000):n<=Ak:=Ao h (by decide)
theorem eR{n:Nat}(h:n < 10000000):n < Ak:=Ca h (by decide)
theorem FZ{M:Mm}{a:Addr}{k:Str}{v:W}{kvs:List (aG×W)}{Q:Mm->Prop}(h:M a=some (.dK kvs))(hl:kvs.length < Ak)(q:Q (put M a (.dK (cE kvs (Sum.inr k) v)))):rY (.ref a) (.str k) v M Q:=.inr (.inl ⟨kvs,.inr k,rfl,h,hl,q⟩)
theorem nV{M:Mm}{a:Addr}{k:List aG}{v:W}{kvs:List (List aG×W)}{Q:Mm->Prop}(h:M a=some (.dT kvs))(hl:kvs.length < Ak)(q:Q (put M a (.dT (cE kvs k v)))):rY (.ref a) (.tup (k.map wK)) v M Q:=.inr (.inr ⟨kvs,k,rfl,h,hl,q⟩)
def hJ:Nat->List W->List W
 | _,[]=>[]
 | n,w :: r=>.tup [.int n,w] :: hJ (n + 1) r
theorem lU:∀ {ws:List W} {n:Nat},(hJ n ws).length=ws.length
 | [],_=>rfl
 | _ :: r,n=>by simp[hJ,lU (ws:=r)]
theorem sD:∀ {ws:List W} {n i:Nat},(hJ n ws)[i]? = (ws[i]?).map fun w=>W.tup [.int ((n + i:Nat):Int),w]
 | [],_,_=>by simp[hJ]
 | w :: r,n,0=>by simp[hJ]
 | w :: r,n,i + 1=>by
  rw[hJ,Fl,Fl,sD]
  congr 2
  funext w
  congr 4
  lia
section
variable {X:Cx}{a b c:Expr}{ta tb tc:aY}{pos:Pos}
theorem F0{K:Ab}{H0:Hp}{M0:Mm}{p:Addr}{vs:List V}{ws:List W}{keep:Mm->Prop}(q0:aL K H0 M0 vs ws)(am0:AM K H0 M0)(st:∀ H M,Kp H0 M0 H M->AM K H M->keep M->bQ K H p vs):i0 K H0 M0 (vJ K p vs) (hJ 0 ws) keep:=by
 refine⟨fun i H M k am kp hi=>⟨st H M k am kp,by rw[lU] at hi;rw[q0.length];exact hi⟩,fun H M k am kp=>⟨st H M k am kp,by rw[lU,q0.length];exact Ai _⟩,fun i H M x H' k am kp hi y=>?_⟩
 obtain⟨pp,u,hu,hn,rfl,rfl⟩:=y
 obtain⟨w,hw,av⟩:=(q0.kp am0 k).getV hu
 obtain⟨am2,k2⟩:=am.tup (u:=.tup [.int (i:Nat),u]) hn
 refine⟨.tup [.int ((i:Nat):Int),w],by rw[sD,hw];simp,k2,am2,.tup cZ (.cons (.int _) (.cons (av.go (go_same hn)) .nil))⟩
def F5(ta:dE):iQ:=fun τ M R=>ta τ M fun ws M1=>match ws with
 | [.rl zs]=>R (hJ 0 zs) (fun _=>True) M1
 | [.sc zs]=>R (hJ 0 zs) (fun _=>True) M1
 | [.ref p]=>∃ zs,M1 p=some (.lst zs)/\False
 | _=>False
theorem U1{tA:dE}{p pos:Pos}{es:List Expr}{kx:Nat}{px:Pos}(hg:Gl X "enumerate")(hm:X.mg "enumerate" = none)(ha:A3 X [a] tA)(hs:Bg [a] X.env=[(false,eval a X.env)]:=by rfl):PI X (.Tuple es kx px) (.Call (.Name "enumerate" p) [a] [] pos) (iG X.K (F5 tA)):=
 (R7 hg hm ha hs).weak fun σ H R' z0=>z0.el fun τ M R as am h k=>⟨τ,M,_,as,am,h,fun vs H1 ws M1 k1 am1 ax r=>by
  match ws,r with
  | [.rl zs],r=>
   obtain⟨v,rfl,av⟩:=ax.one
   cases av with
   | rl e n q=>exact⟨_,_,rfl,bQ.of e,k _ _ _ _ _ k1 am1 (F0 q am1 fun H M k _ _=>bQ.of (k.fr _ _ n e).1) r⟩
  | [.sc zs],r=>
   obtain⟨v,rfl,av⟩:=ax.one
   cases av with
   | sc e q=>exact⟨_,_,rfl,e.sq,k _ _ _ _ _ k1 am1 (F0 q am1 fun H M k _ _=>by
     refine kI.sq ?_
     rcases e with⟨o,e⟩ | e
     ·exact .inl ⟨o,(k.fr _ _ (am1.noFrz e) e).1⟩
     ·exact .inr e) r⟩
  | [.ref p],r=>obtain⟨_,_,f⟩:=r;exact f.elim⟩
end
section
variable {X:Cx}
def U2:List W->Mm->K3->Prop
 | [.dk kvs],M,R=>∃ ks:List Str,kvs.map Dx=ks.map Sum.inr/\ks.length < 64/\∀ ss:List Str,ss.Perm ks->aZ (ss.map W.str) M R
 | _,_,_=>False
def F6:List W->Mm->K3->Prop
 | [.dk kvs],M,R=>∃ ks:List Str,kvs.map Dx=ks.map Sum.inr/\ks.length < 64/\∀ ss:List Str,ss.Perm ks->R (.rl (ss.map W.str)) M
 | _,_,_=>False
theorem U3{K:Ab}{H:Hp}{M:Mm}(ss:List Str):aL K H M (ss.map V.str) (ss.map W.str):=by
 induction ss with
 | nil=>exact .nil
 | cons s r ih=>exact .cons (.str s) ih
theorem U4(hc:X.calm=true):eD X (.builtin "sorted") (iB X.K U2):=by
 rintro pins s σ H xs us Q I rs ⟨ws,M,R,am,axs,h,k⟩
 match ws,h with
 | [.dk kvs],h=>
  obtain⟨v,rfl,av⟩:=axs.one
  obtain⟨ks,hk,h64,r⟩:=h
  cases av with
  | dk e n ke q=>exact SH hc pins s σ H _ us Q I rs ⟨_,_,ks,rfl,e,ke.trans hk,h64,fun ss hp p hp'=>iD am k hp' (U3 ss) (r ss hp)⟩
theorem U5(hc:X.calm=true):eD X (.builtin "sorted") (iB X.K F6):=FP (U4 hc) fun x M R h=>by
 match x,h with
 | [.dk kvs],⟨ks,h1,h2,r⟩=>exact⟨ks,h1,h2,fun ss hp=>aZ.frz (r ss hp)⟩
end
end L3
namespace Rg
open PySem PySem.Spec PyProof.Rows L2 L3
structure aV where
 name:Str
 parts:List Str
 cost:Int
def fB(acc:List Str)(t:Str):List Str:=if t∈acc then acc else acc ++ [t]
def mR(acc:List Str)(rs:List aV):List Str:=(rs.map aV.name).foldl fB acc
def namesOf(rs:List aV):List Str:=mR [] rs
theorem pK{acc:List Str}{t u:Str}:u∈fB acc t↔u∈acc\/u=t:=by
 unfold fB
 split
 ·rename_i h
  constructor
  ·exact .inl
  ·rintro(q | q)
   ·exact q
   ·rw[q];exact h
 ·rw[Be,An]
theorem U6{acc:List Str}{t:Str}:(fB acc t).length<=acc.length + 1:=by
 unfold fB
 split
 ·lia
 ·rw[Af];exact Ai _
theorem wO:∀ {ts acc:List Str} {u:Str},u∈ts.foldl fB acc↔u∈acc\/u∈ts
 | [],acc,u=>by simp
 | t :: r,acc,u=>by
  rw[Dz,wO,pK,Ay]
  constructor
  ·rintro((h | h) | h)
   ·exact .inl h
   ·exact .inr (.inl h)
   ·exact .inr (.inr h)
  ·rintro(h | h | h)
   ·exact .inl (.inl h)
   ·exact .inl (.inr h)
   ·exact .inr h
theorem mS{rs:List aV}{u:Str}:u∈namesOf rs↔∃ r∈rs,r.name=u:=by
 unfold namesOf mR
 rw[wO]
 simp
theorem sE:∀ (ts acc:List Str),(ts.foldl fB acc).length<=acc.length + ts.length
 | [],acc=>by simp
 | t :: r,acc=>by
  rw[Dz,Ar]
  have:=sE r (fB acc t)
  have:=U6 (acc:=acc) (t:=t)
  lia
def eS(r:aV):W:=.tup [.str r.name,.tup (r.parts.map W.str),.int r.cost]
def cJ(rs:List aV):W:=.rl (rs.map eS)
def cH(rs:List aV)(t:Str):Bool:=decide (t∈namesOf rs)
abbrev aJ:=Int×Int
def cL(a b:aJ):Bool:=decide (a.1 < b.1) || (decide (a.1=b.1) && decide (a.2 < b.2))
theorem nW{a b:aJ}:cL a b=true↔a.1 < b.1\/a.1=b.1/\a.2 < b.2:=by simp[cL]
def Le(a b:aJ):Prop:=a.1 < b.1\/a.1=b.1/\a.2<=b.2
theorem wQ{a b:aJ}:Le a b↔¬ cL b a=true:=by
 rw[nW];unfold Le;lia
theorem Le.refl(a:aJ):Le a a:=.inr ⟨rfl,Eo _⟩
theorem Le.trans{a b c:aJ}(h:Le a b)(h':Le b c):Le a c:=by unfold Le at *;lia
theorem Le.of_lt{a b:aJ}(h:cL a b=true):Le a b:=by rw[nW] at h;unfold Le;lia
theorem Le.antisymm{a b:aJ}(h:Le a b)(h':Le b a):a=b:=by
 unfold Le at *
 exact Prod.ext (by lia) (by lia)
theorem pL{a:aJ}:¬ cL a a=true:=by rw[nW];lia
theorem pM{a b c:aJ}(h:cL a b=true)(h':Le b c):cL a c=true:=by rw[nW] at *;unfold Le at h';lia
def eA(a b:aJ):aJ:=(a.1 + b.1,a.2 + b.2)
theorem U7{a b c d:aJ}(h:Le a b)(h':Le c d):Le (eA a c) (eA b d):=by unfold Le eA at *;simp only;lia
section
variable {κ β:Type}[DecidableEq κ]
def aH(t:List (κ×β))(k:κ):Option β:=(t.find? fun e=>decide (e.1=k)).map (·.2)
def cS(t:List (κ×β))(k:κ)(v:β):List (κ×β):=if (t.any fun e=>decide (e.1=k))=true then t.map (fun e=>if e.1=k then(e.1,v) else e) else t ++ [(k,v)]
theorem dS(e:κ×β)(t:List (κ×β))(k:κ):aH (e :: t) k=if e.1=k then some e.2 else aH t k:=by
 unfold aH
 rw[Fc]
 by_cases h:e.1=k
 ·rw[decide_eq_true h,if_pos h];rfl
 ·rw[decide_eq_false h,if_neg h]
theorem kR(t:List (κ×β))(k:κ):(t.any fun e=>decide (e.1=k))=(aH t k).isSome:=by
 induction t with
 | nil=>rfl
 | cons e t ih=>
  rw[Fw,dS,ih]
  by_cases h:e.1=k
  ·rw[decide_eq_true h,if_pos h];rfl
  ·rw[decide_eq_false h,if_neg h];rfl
theorem wR(t:List (κ×β))(k j:κ)(v:β):aH (t ++ [(k,v)]) j=(aH t j).or (if k=j then some v else none):=by
 induction t with
 | nil=>rw[Eh,dS];rfl
 | cons e t ih=>
  rw[List.cons_append,dS,dS,ih]
  split <;> rfl
theorem U8(t:List (κ×β))(k j:κ)(v:β)(h:(aH t k).isSome=true):aH (t.map (fun e=>if e.1=k then(e.1,v) else e)) j=if k=j then some v else aH t j:=by
 induction t with
 | nil=>cases h
 | cons e t ih=>
  rw[Bc,dS,dS]
  rw[dS] at h
  by_cases hk:e.1=k
  ·rw[if_pos hk]
   by_cases hj:k=j
   ·rw[if_pos (by rw[hk,hj]:(e.1,v).1=j),if_pos hj]
   ·rw[if_neg (by rw[hk];exact hj),if_neg hj,if_neg (by rw[hk];exact hj)]
    by_cases ht:(aH t k).isSome=true
    ·rw[ih ht,if_neg hj]
    ·have:∀ {t:List (κ×β)},¬ (aH t k).isSome=true->t.map (fun e=>if e.1=k then(e.1,v) else e)=t:=by
      intro t
      induction t with
      | nil=>intro _;rfl
      | cons a t ih=>
       intro h
       rw[dS] at h
       by_cases ha:a.1=k
       ·rw[if_pos ha] at h;exact absurd rfl h
       ·rw[if_neg ha] at h
        rw[Bc,if_neg ha,ih h]
     rw[this ht]
  ·rw[if_neg hk] at h ⊢
   by_cases hj:e.1=j
   ·rw[if_pos hj,if_pos hj,if_neg (fun z=>hk (by rw[hj,z]))]
   ·rw[if_neg hj,if_neg hj]
    exact ih h
theorem j6(t:List (κ×β))(k j:κ)(v:β):aH (cS t k v) j=if k=j then some v else aH t j:=by
 unfold cS
 rw[kR]
 split
 ·rename_i h
  exact U8 t k j v h
 ·rename_i h
  rw[wR]
  by_cases hj:k=j
  ·subst hj
   rw[if_pos rfl,if_pos rfl]
   cases e:aH t k with
   | none=>rfl
   | some z=>rw[e] at h;exact absurd rfl h
  ·rw[if_neg hj,if_neg hj,Option.or_none]
theorem pN(t:List (κ×β))(k:κ)(v:β):(cS t k v).length<=t.length + 1:=by
 unfold cS
 split
 ·rw[Aa];lia
 ·simp
def e8{γ:Type}(t:List (κ×List γ))(k:κ)(v:γ):List (κ×List γ):=cS t k ((aH t k).getD [] ++ [v])
theorem pO{γ:Type}(t:List (κ×List γ))(k j:κ)(v:γ):(aH (e8 t k v) j).getD []=if k=j then(aH t j).getD [] ++ [v] else(aH t j).getD []:=by
 unfold e8
 rw[j6]
 by_cases h:k=j
 ·subst h;rw[if_pos rfl,if_pos rfl];rfl
 ·rw[if_neg h,if_neg h]
end
section
variable {α:Type}
def dU(c:aJ)(x:α):List (aJ×List α)->List (aJ×List α)
 | []=>[(c,[x])]
 | (d,xs) :: r=>if cL c d=true then(d,xs) :: dU c x r else if d=c then(d,xs ++ [x]) :: r else(c,[x]) :: (d,xs) :: r
def a6:List (aJ×List α)->List (aJ×α)
 | []=>[]
 | (d,xs) :: r=>xs.map (fun x=>(d,x)) ++ a6 r
theorem sF(c:aJ)(x:α):∀ q:List (aJ×List α),(a6 (dU c x q)).length=(a6 q).length + 1
 | []=>rfl
 | (d,xs) :: r=>by
  rw[dU]
  split
  ·rw[a6,a6,Af,Af,sF c x r];lia
  ·split
   ·rw[a6,a6,Af,Af,Bf,Af];simp;lia
   ·simp[a6]
def gR:List (aJ×List α)->Prop
 | []=>True
 | (d,xs) :: r=>xs≠[]/\(∀ e∈r,cL e.1 d=true)/\gR r
theorem F7(c:aJ)(x:α):∀ q:List (aJ×List α),∀ e∈dU c x q,e.1=c\/∃ e'∈q,e'.1=e.1
 | [],e,h=>by simp[dU] at h;exact .inl (by rw[h])
 | (d,xs) :: r,e,h=>by
  rw[dU] at h
  split at h
  ·rcases Ay.mp h with z | z
   ·exact .inr ⟨(d,xs),by simp,by rw[z]⟩
   ·rcases F7 c x r e z with q | ⟨e',q1,q2⟩
    ·exact .inl q
    ·exact .inr ⟨e',Av _ q1,q2⟩
  ·split at h
   ·rcases Ay.mp h with z | z
    ·exact .inr ⟨(d,xs),by simp,by rw[z]⟩
    ·exact .inr ⟨e,Av _ z,rfl⟩
   ·rcases Ay.mp h with z | z
    ·exact .inl (by rw[z])
    ·exact .inr ⟨e,z,rfl⟩
theorem wU(c:aJ)(x:α):∀ {q:List (aJ×List α)},gR q->gR (dU c x q)
 | [],_=>⟨by simp,by simp,trivial⟩
 | (d,xs) :: r,h=>by
  obtain⟨h1,h2,h3⟩:=h
  rw[dU]
  split
  ·rename_i hlt
   refine⟨h1,fun e he=>?_,wU c x h3⟩
   rcases F7 c x r e he with z | ⟨e',z1,z2⟩
   ·rw[z];exact hlt
   ·rw[<-z2];exact h2 e' z1
  ·rename_i hlt
   split
   ·rename_i hd
    subst hd
    exact⟨by simp,h2,h3⟩
   ·rename_i hd
    have hdc:cL d c=true:=by
     have hlt':¬ (c.1 < d.1\/c.1=d.1/\c.2 < d.2):=by rw[<-nW];exact hlt
     rw[nW]
     by_cases h1:d.1=c.1
     ·refine .inr ⟨h1,?_⟩
      have:d.2≠c.2:=fun h2=>hd (Prod.ext h1 h2)
      lia
     ·left;lia
    refine⟨by simp,fun e he=>?_,h1,h2,h3⟩
    rcases Ay.mp he with z | z
    ·rw[z];exact hdc
    ·exact pM (h2 e z) (Le.of_lt hdc)
def hV:List (aJ×List α)->Option (aJ×α×List (aJ×List α))
 | []=>none
 | [(d,xs)]=>match xs.getLast? with
  | none=>none
  | some x=>some (d,x,if xs.dropLast.isEmpty then [] else [(d,xs.dropLast)])
 | e :: e2 :: r=>match hV (e2 :: r) with
  | none=>none
  | some (d,x,q)=>some (d,x,e :: q)
theorem mT:∀ {q:List (aJ×List α)},gR q->q≠[]->∃ d x q',hV q=some (d,x,q')/\gR q'/\(∀ e,e∈a6 q↔e=(d,x)\/e∈a6 q')/\(a6 q).length=(a6 q').length + 1/\(∀ e∈q,Le d e.1)/\∀ e∈q',∃ e'∈q,e'.1=e.1
 | [],_,h=>absurd rfl h
 | [(d,xs)],h,_=>by
  obtain⟨h1,_,_⟩:=h
  rcases Ed xs with z | ⟨ys,y,z⟩
  ·exact absurd z h1
  ·rw[Ee] at z
   subst z
   refine⟨d,y,if ys.isEmpty then [] else [(d,ys)],by simp[hV],?_,fun e=>?_,?_,fun e he=>?_,fun e he=>?_⟩
   ·cases ys with
    | nil=>trivial
    | cons a b=>exact⟨by simp,by simp,trivial⟩
   ·cases ys with
    | nil=>simp[a6]
    | cons a b=>simp[a6];constructor <;> (intro h;rcases h with h | h | h <;> simp[h])
   ·cases ys with
    | nil=>simp[a6]
    | cons a b=>simp[a6]
   ·rw[An.mp he];exact Le.refl _
   ·cases ys with
    | nil=>cases he
    | cons a b=>simp at he;exact⟨(d,a :: b ++ [y]),by simp,by rw[he]⟩
 | e :: e2 :: r,h,_=>by
  obtain⟨h1,h2,h3⟩:=h
  obtain⟨d,x,q',e1,f1,m1,l1,c1,k1⟩:=mT h3 (by simp)
  refine⟨d,x,e :: q',by rw[hV,e1],⟨h1,fun z hz=>?_,f1⟩,fun z=>?_,?_,fun z hz=>?_,fun z hz=>?_⟩
  ·obtain⟨z',hz',ez⟩:=k1 z hz
   rw[<-ez];exact h2 z' hz'
  ·rw[a6,Be,m1,a6,Be]
   constructor
   ·rintro(h | h | h)
    ·exact .inr (.inl h)
    ·exact .inl h
    ·exact .inr (.inr h)
   ·rintro(h | h | h)
    ·exact .inr (.inl h)
    ·exact .inl h
    ·exact .inr (.inr h)
  ·rw[a6,Af,l1,a6,Af];lia
  ·rcases Ay.mp hz with q | q
   ·rw[q]
    have:=c1 e2 Bb
    exact this.trans (Le.of_lt (h2 e2 Bb))
   ·exact c1 z q
  ·rcases Ay.mp hz with q | q
   ·exact⟨e,Bb,by rw[q]⟩
   ·obtain⟨z',hz',ez⟩:=k1 z q
    exact⟨z',Av _ hz',ez⟩
theorem F8{q:List (aJ×List α)}{e:aJ×α}(h:e∈a6 q):∃ b∈q,b.1=e.1:=by
 induction q with
 | nil=>cases h
 | cons b r ih=>
  obtain⟨d,xs⟩:=b
  rw[a6] at h
  rcases Be.mp h with z | z
  ·obtain⟨x,_,rfl⟩:=Ba.mp z
   exact⟨(d,xs),Bb,rfl⟩
  ·obtain⟨b,hb,e1⟩:=ih z
   exact⟨b,Av _ hb,e1⟩
end
section
variable {α:Type}
theorem F9(c:aJ)(x:α):∀ q:List (aJ×List α),(a6 (dU c x q)).Perm ((c,x) :: a6 q)
 | []=>.refl _
 | (d,xs) :: r=>by
  rw[dU]
  split
  ·rw[a6,a6]
   exact(List.Perm.append_left _ (F9 c x r)).trans List.perm_middle
  ·split
   ·rename_i hd
    subst hd
    rw[a6,a6,Bf,Dl]
    exact List.perm_middle
   ·exact .refl _
theorem wV:∀ {q q':List (aJ×List α)} {d:aJ} {x:α},gR q->hV q=some (d,x,q')->(a6 q).Perm ((d,x) :: a6 q')
 | [],q',d,x,_,h=>by cases h
 | [(d0,xs)],q',d,x,hf,h=>by
  obtain⟨h1,_,_⟩:=hf
  rcases Ed xs with z | ⟨ys,y,z⟩
  ·exact absurd z h1
  ·rw[Ee] at z
   subst z
   simp[hV] at h
   obtain⟨rfl,rfl,rfl⟩:=h
   cases ys with
   | nil=>exact .refl _
   | cons a b=>
    rw[if_neg (by simp)]
    simp only[a6,Ct,Bf,Bc,Jp]
    exact List.perm_append_singleton _ _
 | e :: e2 :: r,q',d,x,hf,h=>by
  obtain⟨_,_,h3⟩:=hf
  rw[hV] at h
  split at h
  ·cases h
  ·rename_i d1 x1 q1 e1
   simp only[Fy,Dj] at h
   obtain⟨rfl,rfl,rfl⟩:=h
   have ih:=wV h3 e1
   obtain⟨d0,xs⟩:=e
   rw[a6,a6]
   exact(List.Perm.append_left _ ih).trans List.perm_middle
end
structure Sr where
 rs:List aV
 own:Str->Bool
 places:List Int
 steps:Str->Int->List (Int×Int)
 wt:Nat->Int
structure nX(G:Sr):Prop where
 wt:∀ n,0<=G.wt n
 pr:∀ t p e c,(e,c)∈G.steps t p->0<=c
abbrev K4:=Nat×Nat×Int×Int
abbrev a7:=Str×Int×Int
abbrev bZ:=Nat×List Int×aJ
def bN(n:Nat)(cut:List Int):K4:=(n,cut.length,cut.headD 0,cut.getLastD 0)
def kS(y:bZ):K4:=bN y.1 y.2.1
abbrev bE:=List (a7×aJ×Nat×List Int)
structure SS where
 q:List (aJ×List (Nat×List Int))
 reached:List (K4×aJ)
 best:bE
 ends:List ((Str×Int)×List (Int×aJ))
 begun:List ((Str×Int)×List bZ)
def reach(st:SS)(n:Nat)(cut:List Int)(c:aJ):SS:=match aH st.reached (bN n cut) with
 | some d=>if cL c d=true then {st with reached:=cS st.reached (bN n cut) c,q:=dU c (n,cut) st.q} else st
 | none=>{st with reached:=cS st.reached (bN n cut) c,q:=dU c (n,cut) st.q}
inductive GI(G:Sr)(B:bE):Nat->List Int->aJ->Prop
 | start {n:Nat} {r:aV} {p:Int}:G.rs[n]? = some r->p∈G.places->GI G B n [p] (G.wt n,1)
 | word {n:Nat} {r:aV} {cut:List Int} {c:aJ} {part:Str} {e pr:Int}:GI G B n cut c->G.rs[n]? = some r->r.parts[cut.length - 1]? = some part->G.own part=false->(e,pr)∈G.steps part (cut.getLastD 0)->GI G B n (cut ++ [e]) (c.1 + pr,c.2)
 | name {n:Nat} {r:aV} {cut:List Int} {c m:aJ} {part:Str} {e:Int} {k:Nat×List Int}:GI G B n cut c->G.rs[n]? = some r->r.parts[cut.length - 1]? = some part->G.own part=true->aH B (part,cut.getLastD 0,e)=some (m,k)->GI G B n (cut ++ [e]) (eA c m)
theorem GI.mono{G:Sr}{B B':bE}(h:∀ f v,aH B f=some v->aH B' f=some v){n:Nat}{cut:List Int}{c:aJ}(g:GI G B n cut c):GI G B' n cut c:=by
 induction g with
 | start a b=>exact .start a b
 | word _ a b c d ih=>exact .word ih a b c d
 | name _ a b c d ih=>exact .name ih a b c (h _ _ d)
theorem GI.ne{G:Sr}{B:bE}{n:Nat}{cut:List Int}{c:aJ}(g:GI G B n cut c):cut≠[]:=by cases g <;> simp
def qk(e:aJ×(Nat×List Int)):aJ×K4:=(e.1,bN e.2.1 e.2.2)
def fD(st:SS)(k:K4)(c:aJ):Prop:=∃ d,aH st.reached k=some d/\Le d c
structure fE(G:Sr)(st:SS)(P:List bZ)(cur:aJ):Prop where
 fall:gR st.q
 item:∀ e∈a6 st.q,GI G st.best e.2.1 e.2.2 e.1
 ge:∀ e∈a6 st.q,∃ d,aH st.reached (bN e.2.1 e.2.2)=some d/\Le d e.1
 nd:((a6 st.q).map qk).Nodup
 once:(P.map kS).Nodup
 pr:∀ y∈P,aH st.reached (kS y)=some y.2.2/\Le y.2.2 cur/\GI G st.best y.1 y.2.1 y.2.2
 fresh:∀ e∈a6 st.q,∀ y∈P,kS y=bN e.2.1 e.2.2->cL y.2.2 e.1=true
 curq:∀ e∈a6 st.q,Le cur e.1
 hit:∀ k d,aH st.reached k=some d->(∃ e∈a6 st.q,e.1=d/\bN e.2.1 e.2.2=k)\/∃ y∈P,kS y=k/\y.2.2=d
structure jL(st st':SS):Prop where
 best:st'.best=st.best
 ends:st'.ends=st.ends
 begun:st'.begun=st.begun
 le:∀ k c,fD st k c->fD st' k c
theorem jL.refl(st:SS):jL st st:=⟨rfl,rfl,rfl,fun _ _ h=>h⟩
theorem jL.trans{a b c:SS}(x:jL a b)(y:jL b c):jL a c:=⟨y.best.trans x.best,y.ends.trans x.ends,y.begun.trans x.begun,fun k c h=>y.le k c (x.le k c h)⟩
theorem U9{G:Sr}{st:SS}{P:List bZ}{cur:aJ}{n:Nat}{cut:List Int}{c:aJ}(I:fE G st P cur)(g:GI G st.best n cut c)(hc:Le cur c) :
  fE G (reach st n cut c) P cur/\jL st (reach st n cut c)/\fD (reach st n cut c) (bN n cut) c:=by
 have push:(∀ d,aH st.reached (bN n cut)=some d->cL c d=true)->fE G {st with reached:=cS st.reached (bN n cut) c,q:=dU c (n,cut) st.q} P cur/\jL st {st with reached:=cS st.reached (bN n cut) c,q:=dU c (n,cut) st.q}/\fD {st with reached:=cS st.reached (bN n cut) c,q:=dU c (n,cut) st.q} (bN n cut) c:=by
  intro hlt
  have hp:=F9 c (n,cut) st.q
  have hm:∀ e,e∈a6 (dU c (n,cut) st.q)↔e=(c,(n,cut))\/e∈a6 st.q:=fun e=>by rw[hp.mem_iff,Ay]
  have noP:∀ y∈P,kS y≠bN n cut:=fun y hy e=>by
   obtain⟨h1,h2,_⟩:=I.pr y hy
   rw[e] at h1
   have:=pM (hlt _ h1) (h2.trans hc)
   exact pL this
  have le:∀ k d,fD st k d->fD {st with reached:=cS st.reached (bN n cut) c,q:=dU c (n,cut) st.q} k d:=fun k d h=>by
   obtain⟨z,h1,h2⟩:=h
   by_cases e:bN n cut=k
   ·subst e
    exact⟨c,by show aH (cS _ _ _) _=_;rw[j6,if_pos rfl],(Le.of_lt (hlt z h1)).trans h2⟩
   ·exact⟨z,by show aH (cS _ _ _) _=_;rw[j6,if_neg e];exact h1,h2⟩
  refine⟨⟨wU _ _ I.fall,fun e he=>?_,fun e he=>?_,?_,I.once,fun y hy=>?_,fun e he y hy ek=>?_,fun e he=>?_,fun k d hd=>?_⟩,⟨rfl,rfl,rfl,le⟩,c,by show aH (cS _ _ _) _=_;rw[j6,if_pos rfl],Le.refl c⟩
  ·rcases(hm e).mp he with z | z
   ·rw[z];exact g
   ·exact I.item e z
  ·show ∃ d,aH (cS _ _ _) _=_/\_
   rw[j6]
   rcases(hm e).mp he with z | z
   ·rw[z,if_pos rfl];exact⟨c,rfl,Le.refl _⟩
   ·obtain⟨d,h1,h2⟩:=I.ge e z
    by_cases ek:bN n cut=bN e.2.1 e.2.2
    ·rw[if_pos ek]
     rw[<-ek] at h1
     exact⟨c,rfl,(Le.of_lt (hlt d h1)).trans h2⟩
    ·rw[if_neg ek];exact⟨d,h1,h2⟩
  ·rw[(hp.map qk).nodup_iff,Bc,Dy]
   refine⟨fun z=>?_,I.nd⟩
   obtain⟨e,he,eq⟩:=Ba.mp z
   obtain⟨d,h1,h2⟩:=I.ge e he
   unfold qk at eq
   rw[Dj] at eq
   rw[eq.2] at h1
   rw[eq.1] at h2
   exact pL (pM (hlt d h1) h2)
  ·obtain⟨h1,h2,h3⟩:=I.pr y hy
   refine⟨?_,h2,h3⟩
   show aH (cS _ _ _) _=_
   rw[j6,if_neg (Cg (noP y hy))];exact h1
  ·rcases(hm e).mp he with z | z
   ·rw[z] at ek;exact absurd ek (noP y hy)
   ·exact I.fresh e z y hy ek
  ·rcases(hm e).mp he with z | z
   ·rw[z];exact hc
   ·exact I.curq e z
  ·have hd:aH (cS st.reached (bN n cut) c) k=some d:=hd
   rw[j6] at hd
   by_cases e:bN n cut=k
   ·rw[if_pos e] at hd
    cases hd
    exact .inl ⟨(c,(n,cut)),(hm _).mpr (.inl rfl),rfl,e⟩
   ·rw[if_neg e] at hd
    rcases I.hit k d hd with⟨x,h1,h2,h3⟩ | h
    ·exact .inl ⟨x,(hm _).mpr (.inr h1),h2,h3⟩
    ·exact .inr h
 unfold reach
 cases h:aH st.reached (bN n cut) with
 | none=>exact push fun d e=>by rw[h] at e;cases e
 | some d=>
  simp only
  split
  ·rename_i hl
   exact push fun d' e=>by rw[h] at e;cases e;exact hl
  ·rename_i hl
   exact⟨I,jL.refl st,d,h,wQ.mpr hl⟩
theorem pP{G:Sr}{P:List bZ}{cur:aJ}{α:Type}(f:α->Nat×List Int×aJ):∀ (xs:List α) {st:SS},fE G st P cur->(∀ x∈xs,GI G st.best (f x).1 (f x).2.1 (f x).2.2/\Le cur (f x).2.2)->
  fE G (xs.foldl (fun st x=>reach st (f x).1 (f x).2.1 (f x).2.2) st) P cur/\jL st (xs.foldl (fun st x=>reach st (f x).1 (f x).2.1 (f x).2.2) st)/\∀ x∈xs,fD (xs.foldl (fun st x=>reach st (f x).1 (f x).2.1 (f x).2.2) st) (bN (f x).1 (f x).2.1) (f x).2.2
 | [],st,I,_=>⟨I,jL.refl st,fun x hx=>nomatch hx⟩
 | x :: xs,st,I,h=>by
  obtain⟨h1,h2⟩:=h x Bb
  obtain⟨I1,g1,r1⟩:=U9 I h1 h2
  obtain⟨I2,g2,r2⟩:=pP f xs I1 fun y hy=>by
   have:=h y (Av _ hy)
   rw[g1.best];exact this
  refine⟨I2,g1.trans g2,fun y hy=>?_⟩
  rcases Ay.mp hy with z | z
  ·rw[z];exact g2.le _ _ r1
  ·exact r2 y z
def c8(G:Sr)(n:Nat):Str:=match G.rs[n]? with
 | some r=>r.name
 | none=>""
def dW(G:Sr)(n:Nat)(cut:List Int):Option Str:=match G.rs[n]? with
 | some r=>r.parts[cut.length - 1]?
 | none=>none
def cP(G:Sr)(n:Nat)(cut:List Int):a7:=(c8 G n,cut.headD 0,cut.getLastD 0)
def settle(G:Sr)(st:SS)(n:Nat)(cut:List Int)(c:aJ):SS:=match aH st.best (cP G n cut) with
 | some _=>st
 | none=>((aH st.begun (c8 G n,cut.headD 0)).getD []).foldl (fun st y=>reach st y.1 (y.2.1 ++ [cut.getLastD 0]) (eA y.2.2 c)) {st with best:=st.best ++ [(cP G n cut,c,n,cut)],ends:=e8 st.ends (c8 G n,cut.headD 0) (cut.getLastD 0,c)}
def fT(st:SS)(n:Nat)(cut:List Int)(c:aJ)(part:Str):SS:=((aH st.ends (part,cut.getLastD 0)).getD []).foldl (fun st z=>reach st n (cut ++ [z.1]) (eA c z.2)) {st with begun:=e8 st.begun (part,cut.getLastD 0) (n,cut,c)}
def fY(G:Sr)(st:SS)(n:Nat)(cut:List Int)(c:aJ)(part:Str):SS:=(G.steps part (cut.getLastD 0)).foldl (fun st z=>reach st n (cut ++ [z.1]) (c.1 + z.2,c.2)) st
def process(G:Sr)(st:SS)(n:Nat)(cut:List Int)(c:aJ):SS:=match dW G n cut with
 | none=>settle G st n cut c
 | some part=>if G.own part=true then fT st n cut c part else fY G st n cut c part
structure Ob(G:Sr)(st:SS)(P:List bZ)(cur:aJ):Prop where
 zero:Le (0,0) cur
 fin:∀ y∈P,dW G y.1 y.2.1=none->∃ m k,aH st.best (cP G y.1 y.2.1)=some (m,k)/\Le m y.2.2
 wrd:∀ y∈P,∀ part,dW G y.1 y.2.1=some part->G.own part=false->∀ z∈G.steps part (y.2.1.getLastD 0),fD st (bN y.1 (y.2.1 ++ [z.1])) (y.2.2.1 + z.2,y.2.2.2)
 nam:∀ y∈P,∀ part,dW G y.1 y.2.1=some part->G.own part=true->y∈(aH st.begun (part,y.2.1.getLastD 0)).getD []
 pair:∀ key,∀ y∈(aH st.begun key).getD [],∀ z∈(aH st.ends key).getD [],fD st (bN y.1 (y.2.1 ++ [z.1])) (eA y.2.2 z.2)
 bgn:∀ key,∀ y∈(aH st.begun key).getD [],y∈P/\dW G y.1 y.2.1=some key.1/\G.own key.1=true/\y.2.1.getLastD 0=key.2/\Le (0,0) y.2.2
 ends:∀ nm b e m,(e,m)∈(aH st.ends (nm,b)).getD []↔∃ k,aH st.best (nm,b,e)=some (m,k)
 bst:∀ f m n cut,aH st.best f=some (m,n,cut)->dW G n cut=none/\f=cP G n cut/\Le (0,0) m/\Le m cur
 ord:∀ pre e post,st.best=pre ++ e :: post->GI G pre e.2.2.1 e.2.2.2 e.2.1/\aH pre e.1=none
theorem VA{a b:aJ}(h:Le (0,0) b):Le a (eA a b):=by unfold Le eA at *;simp only at *;lia
theorem VB{a b:aJ}(h:Le (0,0) b):Le a (eA b a):=by unfold Le eA at *;simp only at *;lia
theorem VC{G:Sr}{st:SS}{P:List bZ}{cur c:aJ}{n:Nat}{cut:List Int}{q':List (aJ×List (Nat×List Int))}(I:fE G st P cur)(ht:hV st.q=some (c,(n,cut),q'))(hr:aH st.reached (bN n cut)=some c):fE G {st with q:=q'} (P ++ [(n,cut,c)]) c/\Le cur c/\GI G st.best n cut c:=by
 have hne:st.q≠[]:=fun e=>by rw[e] at ht;cases ht
 obtain⟨d,x,q1,e1,f1,m1,l1,c1,_⟩:=mT I.fall hne
 rw[ht] at e1
 simp only[Fy,Dj] at e1
 obtain⟨rfl,rfl,rfl⟩:=e1
 have hp:=wV I.fall ht
 have hin:(c,(n,cut))∈a6 st.q:=(m1 _).mpr (.inl rfl)
 have sub:∀ e∈a6 q',e∈a6 st.q:=fun e he=>(m1 e).mpr (.inr he)
 have hcur:=I.curq _ hin
 have hnd:=I.nd
 rw[(hp.map qk).nodup_iff,Bc,Dy] at hnd
 have hmin:∀ e∈a6 q',Le c e.1:=fun e he=>by
  obtain⟨b,hb,eb⟩:=F8 (sub e he)
  rw[<-eb];exact c1 b hb
 have noP:∀ y∈P,kS y≠bN n cut:=fun y hy e=>by
  have h1:=I.fresh _ hin y hy e
  obtain⟨h2,_,_⟩:=I.pr y hy
  rw[e,hr] at h2
  cases h2
  exact pL h1
 refine⟨⟨f1,fun e he=>I.item e (sub e he),fun e he=>I.ge e (sub e he),hnd.2,?_,fun y hy=>?_,fun e he y hy ek=>?_,hmin,fun k d hd=>?_⟩,hcur,I.item _ hin⟩
 ·rw[Bf,Ew]
  refine⟨I.once,by simp,fun a ha b hb e=>?_⟩
  obtain⟨y,hy,rfl⟩:=Ba.mp ha
  rw[List.map_singleton,An] at hb
  exact noP y hy (by rw[e,hb];rfl)
 ·rcases Be.mp hy with z | z
  ·obtain⟨h1,h2,h3⟩:=I.pr y z
   exact⟨h1,h2.trans hcur,h3⟩
  ·rw[An.mp z]
   exact⟨hr,Le.refl _,I.item _ hin⟩
 ·rcases Be.mp hy with z | z
  ·exact I.fresh e (sub e he) y z ek
  ·have hy':=An.mp z
   subst hy'
   have h1:=hmin e he
   have hne:e.1≠c:=fun e1=>hnd.1 (Ba.mpr ⟨e,he,by
    have ek':bN n cut=bN e.2.1 e.2.2:=ek
    show(e.1,bN e.2.1 e.2.2)=(c,bN n cut)
    rw[e1,ek']⟩)
   show cL c e.1=true
   cases hh:cL c e.1 with
   | true=>rfl
   | false=>exact absurd (Le.antisymm (wQ.mpr (by rw[hh];decide)) h1) hne
 ·rcases I.hit k d hd with⟨e,h1,h2,h3⟩ | ⟨y,h1,h2⟩
  ·rcases(m1 e).mp h1 with z | z
   ·subst z
    exact .inr ⟨(n,cut,c),Bt _ (An.mpr rfl),h3,h2⟩
   ·exact .inl ⟨e,z,h2,h3⟩
  ·exact .inr ⟨y,Bx _ h1,h2⟩
theorem VD{G:Sr}{st:SS}{P:List bZ}{cur c d:aJ}{n:Nat}{cut:List Int}{q':List (aJ×List (Nat×List Int))}(I:fE G st P cur)(ht:hV st.q=some (c,(n,cut),q'))(hr:aH st.reached (bN n cut)=some d)(hd:cL d c=true):fE G {st with q:=q'} P c/\Le cur c:=by
 have hne:st.q≠[]:=fun e=>by rw[e] at ht;cases ht
 obtain⟨d1,x,q1,e1,f1,m1,l1,c1,_⟩:=mT I.fall hne
 rw[ht] at e1
 simp only[Fy,Dj] at e1
 obtain⟨rfl,rfl,rfl⟩:=e1
 have hp:=wV I.fall ht
 have hin:(c,(n,cut))∈a6 st.q:=(m1 _).mpr (.inl rfl)
 have sub:∀ e∈a6 q',e∈a6 st.q:=fun e he=>(m1 e).mpr (.inr he)
 have hcur:=I.curq _ hin
 have hnd:=I.nd
 rw[(hp.map qk).nodup_iff,Bc,Dy] at hnd
 refine⟨⟨f1,fun e he=>I.item e (sub e he),fun e he=>I.ge e (sub e he),hnd.2,I.once,fun y hy=>?_,fun e he y hy ek=>I.fresh e (sub e he) y hy ek,fun e he=>?_,fun k d2 hd2=>?_⟩,hcur⟩
 ·obtain⟨h1,h2,h3⟩:=I.pr y hy
  exact⟨h1,h2.trans hcur,h3⟩
 ·obtain⟨b,hb,eb⟩:=F8 (sub e he)
  rw[<-eb];exact c1 b hb
 ·rcases I.hit k d2 hd2 with⟨e,h1,h2,h3⟩ | h
  ·rcases(m1 e).mp h1 with z | z
   ·subst z
    have h3:bN n cut=k:=h3
    have h2:c=d2:=h2
    have hd2':aH st.reached k=some d2:=hd2
    rw[<-h3,hr] at hd2'
    cases hd2'
    rw[<-h2] at hd
    exact absurd hd pL
   ·exact .inl ⟨e,z,h2,h3⟩
  ·exact .inr h
theorem Ob.later{G:Sr}{st:SS}{P:List bZ}{cur c:aJ}(o:Ob G st P cur)(h:Le cur c)(q':List (aJ×List (Nat×List Int))):Ob G {st with q:=q'} P c:=
 ⟨o.zero.trans h,o.fin,o.wrd,o.nam,o.pair,o.bgn,o.ends,fun f m n cut e=>let ⟨h1,h2,h3,h4⟩:=o.bst f m n cut e;⟨h1,h2,h3,h4.trans h⟩,o.ord⟩
theorem GI.rule{G:Sr}{B:bE}{n:Nat}{cut:List Int}{c:aJ}(g:GI G B n cut c):∃ r,G.rs[n]? = some r:=by
 cases g with
 | start a _=>exact⟨_,a⟩
 | word _ a _ _ _=>exact⟨_,a⟩
 | name _ a _ _ _=>exact⟨_,a⟩
theorem part_of{G:Sr}{n:Nat}{cut:List Int}{r:aV}(h:G.rs[n]? = some r):dW G n cut=r.parts[cut.length - 1]?:=by unfold dW;rw[h]
theorem i7{α:Type}{P:List α}{x y:α}(h:y∈P ++ [x]):y∈P\/y=x:=by
 rcases Be.mp h with z | z
 ·exact .inl z
 ·exact .inr (An.mp z)
theorem VE{G:Sr}(ok:nX G){st:SS}{P:List bZ}{c:aJ}{n:Nat}{cut:List Int}{part:Str}(I:fE G st (P ++ [(n,cut,c)]) c)(o:Ob G st P c)(g:GI G st.best n cut c)(hp:dW G n cut=some part)(ho:G.own part=false) :
  fE G (fY G st n cut c part) (P ++ [(n,cut,c)]) c/\Ob G (fY G st n cut c part) (P ++ [(n,cut,c)]) c/\∀ k d,fD st k d->fD (fY G st n cut c part) k d:=by
 obtain⟨r,hr⟩:=g.rule
 rw[part_of hr] at hp
 obtain⟨I1,g1,r1⟩:=pP (fun z:Int×Int=>(n,cut ++ [z.1],(c.1 + z.2,c.2))) (G.steps part (cut.getLastD 0)) I fun z hz=>⟨.word g hr hp ho hz,by
  have:=ok.pr _ _ _ _ hz
  show Le c (c.1 + z.2,c.2)
  unfold Le;simp only;lia⟩
 refine⟨I1,⟨o.zero,fun y hy hn=>?_,fun y hy pt h1 h2 z hz=>?_,fun y hy pt h1 h2=>?_,fun key y hy z hz=>?_,fun key y hy=>?_,fun nm b e m=>?_,fun f m n' cut' e=>?_,fun pre e post h=>?_⟩,g1.le⟩
 ·rcases i7 hy with z | z
  ·obtain⟨m,k,h1,h2⟩:=o.fin y z hn
   exact⟨m,k,by rw[show(fY G st n cut c part).best=st.best from g1.best];exact h1,h2⟩
  ·subst z
   rw[part_of hr,hp] at hn;cases hn
 ·rcases i7 hy with q | q
  ·exact g1.le _ _ (o.wrd y q pt h1 h2 z hz)
  ·subst q
   rw[part_of hr,hp] at h1
   cases h1
   exact r1 z hz
 ·rcases i7 hy with q | q
  ·rw[show(fY G st n cut c part).begun=st.begun from g1.begun]
   exact o.nam y q pt h1 h2
  ·subst q
   rw[part_of hr,hp] at h1
   cases h1
   rw[ho] at h2;cases h2
 ·rw[show(fY G st n cut c part).begun=st.begun from g1.begun] at hy
  rw[show(fY G st n cut c part).ends=st.ends from g1.ends] at hz
  exact g1.le _ _ (o.pair key y hy z hz)
 ·rw[show(fY G st n cut c part).begun=st.begun from g1.begun] at hy
  obtain⟨h1,h2⟩:=o.bgn key y hy
  exact⟨Bx _ h1,h2⟩
 ·rw[show(fY G st n cut c part).ends=st.ends from g1.ends,show(fY G st n cut c part).best=st.best from g1.best]
  exact o.ends nm b e m
 ·rw[show(fY G st n cut c part).best=st.best from g1.best] at e
  exact o.bst f m n' cut' e
 ·rw[show(fY G st n cut c part).best=st.best from g1.best] at h
  exact o.ord pre e post h
theorem VF{G:Sr}{st:SS}{P:List bZ}{c:aJ}{n:Nat}{cut:List Int}{part:Str}(I:fE G st (P ++ [(n,cut,c)]) c)(o:Ob G st P c)(g:GI G st.best n cut c)(hp:dW G n cut=some part)(ho:G.own part=true) :
  fE G (fT st n cut c part) (P ++ [(n,cut,c)]) c/\Ob G (fT st n cut c part) (P ++ [(n,cut,c)]) c/\∀ k d,fD st k d->fD (fT st n cut c part) k d:=by
 obtain⟨r,hr⟩:=g.rule
 have hp0:=hp
 rw[part_of hr] at hp
 obtain⟨I1,g1,r1⟩:=pP (G:=G) (P:=P ++ [(n,cut,c)]) (cur:=c) (st:={st with begun:=e8 st.begun (part,cut.getLastD 0) (n,cut,c)}) (fun z:Int×aJ=>(n,cut ++ [z.1],eA c z.2)) ((aH st.ends (part,cut.getLastD 0)).getD []) ⟨I.fall,I.item,I.ge,I.nd,I.once,I.pr,I.fresh,I.curq,I.hit⟩ fun z hz=>by
  obtain⟨k,hk⟩:=(o.ends part (cut.getLastD 0) z.1 z.2).mp hz
  exact⟨.name g hr hp ho hk,VA (o.bst _ _ _ _ hk).2.2.1⟩
 have hb:(fT st n cut c part).best=st.best:=g1.best
 have he:(fT st n cut c part).ends=st.ends:=g1.ends
 have hg:(fT st n cut c part).begun=e8 st.begun (part,cut.getLastD 0) (n,cut,c):=g1.begun
 have hbeg:∀ key y,y∈(aH (fT st n cut c part).begun key).getD []↔y∈(aH st.begun key).getD []\/(part,cut.getLastD 0)=key/\y=(n,cut,c):=fun key y=>by
  rw[hg,pO]
  by_cases h:(part,cut.getLastD 0)=key
  ·rw[if_pos h,Be,An]
   exact⟨fun z=>z.imp id fun q=>⟨h,q⟩,fun z=>z.imp id fun q=>q.2⟩
  ·rw[if_neg h]
   exact⟨.inl,fun z=>z.elim id fun q=>absurd q.1 h⟩
 refine⟨I1,⟨o.zero,fun y hy hn=>?_,fun y hy pt h1 h2 z hz=>?_,fun y hy pt h1 h2=>?_,fun key y hy z hz=>?_,fun key y hy=>?_,fun nm b e m=>?_,fun f m n' cut' e=>?_,fun pre e post h=>?_⟩,g1.le⟩
 ·rcases i7 hy with z | z
  ·rw[hb];exact o.fin y z hn
  ·subst z
   rw[hp0] at hn;cases hn
 ·rcases i7 hy with q | q
  ·exact g1.le _ _ (o.wrd y q pt h1 h2 z hz)
  ·subst q
   rw[hp0] at h1
   cases h1
   rw[ho] at h2;cases h2
 ·rw[hbeg]
  rcases i7 hy with q | q
  ·exact .inl (o.nam y q pt h1 h2)
  ·subst q
   rw[hp0] at h1
   cases h1
   exact .inr ⟨rfl,rfl⟩
 ·rw[he] at hz
  rcases(hbeg key y).mp hy with q | ⟨q1,q2⟩
  ·exact g1.le _ _ (o.pair key y q z hz)
  ·subst q2
   rw[<-q1] at hz
   exact r1 z hz
 ·rcases(hbeg key y).mp hy with q | ⟨q1,q2⟩
  ·obtain⟨h1,h2⟩:=o.bgn key y q
   exact⟨Bx _ h1,h2⟩
  ·subst q2
   rw[<-q1]
   exact⟨Bt _ (An.mpr rfl),hp0,ho,rfl,o.zero⟩
 ·rw[he,hb];exact o.ends nm b e m
 ·rw[hb] at e;exact o.bst f m n' cut' e
 ·rw[hb] at h;exact o.ord pre e post h
theorem VG{G:Sr}{st:SS}{P:List bZ}{c:aJ}{n:Nat}{cut:List Int}(I:fE G st (P ++ [(n,cut,c)]) c)(o:Ob G st P c)(g:GI G st.best n cut c)(hp:dW G n cut=none) :
  fE G (settle G st n cut c) (P ++ [(n,cut,c)]) c/\Ob G (settle G st n cut c) (P ++ [(n,cut,c)]) c/\∀ k d,fD st k d->fD (settle G st n cut c) k d:=by
 unfold settle
 cases hf:aH st.best (cP G n cut) with
 | some v=>
  obtain⟨m,k⟩:=v
  obtain⟨_,_,_,hm⟩:=o.bst _ _ _ _ hf
  refine⟨I,⟨o.zero,fun y hy hn=>?_,fun y hy pt h1 h2 z hz=>?_,fun y hy pt h1 h2=>?_,o.pair,fun key y hy=>?_,o.ends,o.bst,o.ord⟩,fun _ _ h=>h⟩
  ·rcases i7 hy with z | z
   ·exact o.fin y z hn
   ·subst z;exact⟨m,k,hf,hm⟩
  ·rcases i7 hy with q | q
   ·exact o.wrd y q pt h1 h2 z hz
   ·subst q;rw[hp] at h1;cases h1
  ·rcases i7 hy with q | q
   ·exact o.nam y q pt h1 h2
   ·subst q;rw[hp] at h1;cases h1
  ·obtain⟨h1,h2⟩:=o.bgn key y hy
   exact⟨Bx _ h1,h2⟩
 | none=>
  simp only
  have new:∀ f,aH (st.best ++ [(cP G n cut,c,n,cut)]) f=if cP G n cut=f then some (c,n,cut) else aH st.best f:=fun f=>by
   rw[wR]
   by_cases h:cP G n cut=f
   ·subst h;rw[if_pos rfl,if_pos rfl,hf];rfl
   ·rw[if_neg h,if_neg h,Option.or_none]
  have mono:∀ f v,aH st.best f=some v->aH (st.best ++ [(cP G n cut,c,n,cut)]) f=some v:=fun f v h=>by
   rw[new,if_neg (fun e=>by rw[<-e,hf] at h;cases h)];exact h
  obtain⟨st1,hst1⟩:∃ z:SS,z = {st with best:=st.best ++ [(cP G n cut,c,n,cut)],ends:=e8 st.ends (c8 G n,cut.headD 0) (cut.getLastD 0,c)}:=⟨_,rfl⟩
  have b1:st1.best=st.best ++ [(cP G n cut,c,n,cut)]:=by rw[hst1]
  have e1:st1.ends=e8 st.ends (c8 G n,cut.headD 0) (cut.getLastD 0,c):=by rw[hst1]
  have n1:st1.begun=st.begun:=by rw[hst1]
  have r0:st1.reached=st.reached:=by rw[hst1]
  have q0:st1.q=st.q:=by rw[hst1]
  have I0:fE G st1 (P ++ [(n,cut,c)]) c:=by
   rw[hst1]
   exact⟨I.fall,fun e he=>(I.item e he).mono mono,I.ge,I.nd,I.once,fun y hy=>let ⟨h1,h2,h3⟩:=I.pr y hy;⟨h1,h2,h3.mono mono⟩,I.fresh,I.curq,I.hit⟩
  rw[<-hst1]
  obtain⟨I1,g1,r1⟩:=pP (fun y:bZ=>(y.1,y.2.1 ++ [cut.getLastD 0],eA y.2.2 c)) ((aH st.begun (c8 G n,cut.headD 0)).getD []) I0 fun y hy=>by
   obtain⟨h1,h2,h3,h4,h5⟩:=o.bgn _ y hy
   obtain⟨_,_,gy⟩:=I.pr y (Bx _ h1)
   obtain⟨ry,hry⟩:=gy.rule
   rw[part_of hry] at h2
   refine⟨.name (k:=(n,cut)) (by rw[b1];exact gy.mono mono) hry h2 h3 ?_,VB h5⟩
   rw[b1,new,if_pos (by show(c8 G n,cut.headD 0,cut.getLastD 0)=(c8 G n,y.2.1.getLastD 0,cut.getLastD 0);rw[h4])]
  obtain⟨st2,hst2⟩:∃ z,z=((aH st.begun (c8 G n,cut.headD 0)).getD []).foldl (fun st y=>reach st y.1 (y.2.1 ++ [cut.getLastD 0]) (eA y.2.2 c)) st1:=⟨_,rfl⟩
  rw[<-hst2] at I1 g1 r1 ⊢
  have B:st2.best=st.best ++ [(cP G n cut,c,n,cut)]:=g1.best.trans b1
  have E:st2.ends=e8 st.ends (c8 G n,cut.headD 0) (cut.getLastD 0,c):=g1.ends.trans e1
  have N:st2.begun=st.begun:=g1.begun.trans n1
  have le:∀ k d,fD st k d->fD st2 k d:=fun k d h=>g1.le k d (by
   obtain⟨z,h1,h2⟩:=h
   exact⟨z,by rw[r0];exact h1,h2⟩)
  have hends:∀ key z,z∈(aH st2.ends key).getD []↔z∈(aH st.ends key).getD []\/(c8 G n,cut.headD 0)=key/\z=(cut.getLastD 0,c):=fun key z=>by
   rw[E,pO]
   by_cases h:(c8 G n,cut.headD 0)=key
   ·rw[if_pos h,Be,An]
    exact⟨fun z=>z.imp id fun q=>⟨h,q⟩,fun z=>z.imp id fun q=>q.2⟩
   ·rw[if_neg h]
    exact⟨.inl,fun z=>z.elim id fun q=>absurd q.1 h⟩
  refine⟨I1,⟨o.zero,fun y hy hn=>?_,fun y hy pt h1 h2 z hz=>?_,fun y hy pt h1 h2=>?_,fun key y hy z hz=>?_,fun key y hy=>?_,fun nm b e m=>?_,fun f m n' cut' e=>?_,fun pre e post h=>?_⟩,le⟩
  ·rw[B]
   rcases i7 hy with z | z
   ·obtain⟨m,k,h1,h2⟩:=o.fin y z hn
    exact⟨m,k,mono _ _ h1,h2⟩
   ·subst z
    exact⟨c,(n,cut),by rw[new,if_pos rfl],Le.refl _⟩
  ·rcases i7 hy with q | q
   ·exact le _ _ (o.wrd y q pt h1 h2 z hz)
   ·subst q;rw[hp] at h1;cases h1
  ·rw[N]
   rcases i7 hy with q | q
   ·exact o.nam y q pt h1 h2
   ·subst q;rw[hp] at h1;cases h1
  ·rw[N] at hy
   rcases(hends key z).mp hz with q | ⟨q1,q2⟩
   ·exact le _ _ (o.pair key y hy z q)
   ·subst q2
    rw[<-q1] at hy
    exact r1 y hy
  ·rw[N] at hy
   obtain⟨h1,h2⟩:=o.bgn key y hy
   exact⟨Bx _ h1,h2⟩
  ·rw[hends,B,new,o.ends]
   by_cases h:cP G n cut=(nm,b,e)
   ·rw[if_pos h]
    unfold cP at h
    simp only[Dj] at h
    obtain⟨rfl,rfl,rfl⟩:=h
    constructor
    ·rintro(⟨k,hk⟩ | ⟨_,hk⟩)
     ·rw[show(c8 G n,cut.headD 0,cut.getLastD 0)=cP G n cut from rfl,hf] at hk;cases hk
     ·cases hk;exact⟨(n,cut),rfl⟩
    ·rintro⟨k,hk⟩
     cases hk
     exact .inr ⟨rfl,rfl⟩
   ·rw[if_neg h]
    constructor
    ·rintro(hk | ⟨h1,h2⟩)
     ·exact hk
     ·cases h1;cases h2;exact absurd rfl h
    ·exact .inl
  ·rw[B,new] at e
   by_cases h:cP G n cut=f
   ·rw[if_pos h] at e
    cases e
    exact⟨hp,h.symm,o.zero,Le.refl _⟩
   ·rw[if_neg h] at e
    exact o.bst f m n' cut' e
  ·rw[B] at h
   rcases Ed post with z | ⟨ps,p,z⟩
   ·subst z
    have h':=List.append_inj' h rfl
    have h2:=h'.2
    simp only[Dn,and_true] at h2
    rw[<-h'.1,<-h2]
    exact⟨g,hf⟩
   ·rw[Ee] at z
    subst z
    rw[show pre ++ e :: (ps ++ [p])=(pre ++ e :: ps) ++ [p] by simp] at h
    have h':=List.append_inj' h rfl
    exact o.ord pre e ps h'.1
theorem VH{G:Sr}(ok:nX G){st:SS}{P:List bZ}{c:aJ}{n:Nat}{cut:List Int}(I:fE G st (P ++ [(n,cut,c)]) c)(o:Ob G st P c)(g:GI G st.best n cut c) :
  fE G (process G st n cut c) (P ++ [(n,cut,c)]) c/\Ob G (process G st n cut c) (P ++ [(n,cut,c)]) c/\∀ k d,fD st k d->fD (process G st n cut c) k d:=by
 unfold process
 cases hp:dW G n cut with
 | none=>exact VG I o g hp
 | some part=>
  simp only
  cases ho:G.own part with
  | true=>rw[if_pos rfl];exact VF I o g hp ho
  | false=>rw[if_neg (by decide)];exact VE ok I o g hp ho
inductive DI(G:Sr):Nat->List Int->aJ->Prop
 | start {n:Nat} {r:aV} {p:Int}:G.rs[n]? = some r->p∈G.places->DI G n [p] (G.wt n,1)
 | word {n:Nat} {r:aV} {cut:List Int} {c:aJ} {part:Str} {e pr:Int}:DI G n cut c->G.rs[n]? = some r->r.parts[cut.length - 1]? = some part->G.own part=false->(e,pr)∈G.steps part (cut.getLastD 0)->DI G n (cut ++ [e]) (c.1 + pr,c.2)
 | name {n n':Nat} {r:aV} {cut cut':List Int} {c m:aJ} {part:Str}:DI G n cut c->G.rs[n]? = some r->r.parts[cut.length - 1]? = some part->G.own part=true->DI G n' cut' m->dW G n' cut'=none->c8 G n'=part->cut'.headD 0=cut.getLastD 0->DI G n (cut ++ [cut'.getLastD 0]) (eA c m)
theorem DI.ne{G:Sr}{n:Nat}{cut:List Int}{c:aJ}(h:DI G n cut c):cut≠[]:=by cases h <;> simp
theorem GA{n:Nat}{a b:List Int}{e:Int}(h:bN n a=bN n b)(ha:a≠[])(hb:b≠[]):bN n (a ++ [e])=bN n (b ++ [e]):=by
 unfold bN at *
 simp only[Dj,true_and] at h
 obtain⟨h1,h2,h3⟩:=h
 have hl:∀ l:List Int,(l ++ [e]).getLastD 0=e:=fun l=>by simp[Ht]
 rw[hl,hl,Af,Af,h1]
 cases a with
 | nil=>exact absurd rfl ha
 | cons x a=>
  cases b with
  | nil=>exact absurd rfl hb
  | cons y b=>
   simp only[List.headD_cons] at h2
   subst h2
   rfl
theorem sG{G:Sr}{n n':Nat}{a b:List Int}(h:bN n a=bN n' b):n=n'/\dW G n a=dW G n' b/\cP G n a=cP G n' b/\a.getLastD 0=b.getLastD 0:=by
 unfold bN at h
 simp only[Dj] at h
 obtain⟨rfl,h1,h2,h3⟩:=h
 refine⟨rfl,?_,?_,h3⟩
 ·unfold dW;rw[h1]
 ·unfold cP;rw[h2,h3]
def wW(G:Sr)(st:SS):Prop:=∀ n r p,G.rs[n]? = some r->p∈G.places->fD st (bN n [p]) (G.wt n,1)
theorem VI{G:Sr}{st:SS}{P:List bZ}{cur:aJ}(I:fE G st P cur)(o:Ob G st P cur)(hi:wW G st)(hq:st.q=[]){n:Nat}{cut:List Int}{c:aJ}(h:DI G n cut c):fD st (bN n cut) c:=by
 have done:∀ {n:Nat} {cut:List Int} {c:aJ},fD st (bN n cut) c->∃ y∈P,kS y=bN n cut/\Le y.2.2 c:=fun {n cut c} h=>by
  obtain⟨d,h1,h2⟩:=h
  rcases I.hit _ _ h1 with⟨e,he,_⟩ | ⟨y,hy,e1,e2⟩
  ·rw[hq] at he;cases he
  ·exact⟨y,hy,e1,by rw[e2];exact h2⟩
 induction h with
 | start a b=>exact hi _ _ _ a b
 | @word n r cut c part e pr hd hr hp ho hs ih=>
  obtain⟨y,hy,ek,hle⟩:=done ih
  obtain⟨hn,hpt,_,hlast⟩:=sG (G:=G) ek
  have hyn:=(I.pr y hy).2.2.ne
  have:=o.wrd y hy part (by rw[hpt,part_of hr];exact hp) ho (e,pr) (by rw[hlast];exact hs)
  obtain⟨d,h1,h2⟩:=this
  refine⟨d,?_,h2.trans ?_⟩
  ·have ek':bN n y.2.1=bN n cut:=by rw[<-ek];unfold kS;rw[hn]
   rw[<-GA ek' hyn hd.ne,<-hn];exact h1
  ·unfold Le at hle ⊢;simp only at *;lia
 | @name n n' r cut cut' c m part hd hr hp ho hd' hfin hnm hhd ih ih'=>
  obtain⟨y,hy,ek,hle⟩:=done ih
  obtain⟨hn,hpt,_,hlast⟩:=sG (G:=G) ek
  obtain⟨y',hy',ek',hle'⟩:=done ih'
  obtain⟨hn',hpt',hfact,_⟩:=sG (G:=G) ek'
  obtain⟨m0,k0,hb,hm0⟩:=o.fin y' hy' (by rw[hpt'];exact hfin)
  rw[hfact] at hb
  have hb':aH st.best (part,cut.getLastD 0,cut'.getLastD 0)=some (m0,k0):=by
   have:cP G n' cut'=(part,cut.getLastD 0,cut'.getLastD 0):=by unfold cP;rw[hnm,hhd]
   rw[<-this];exact hb
  have hz:=(o.ends part (cut.getLastD 0) (cut'.getLastD 0) m0).mpr ⟨k0,hb'⟩
  have hyb:=o.nam y hy part (by rw[hpt,part_of hr];exact hp) ho
  rw[hlast] at hyb
  have hyn:=(I.pr y hy).2.2.ne
  obtain⟨d,h1,h2⟩:=o.pair _ y hyb _ hz
  refine⟨d,?_,h2.trans (U7 hle (hm0.trans hle'))⟩
  have ek2:bN n y.2.1=bN n cut:=by rw[<-ek];unfold kS;rw[hn]
  rw[<-GA ek2 hyn hd.ne,<-hn];exact h1
theorem VJ{G:Sr}{st:SS}{P:List bZ}{cur:aJ}(I:fE G st P cur)(o:Ob G st P cur)(hi:wW G st)(hq:st.q=[]){n:Nat}{cut:List Int}{c:aJ}(h:DI G n cut c)(hf:dW G n cut=none):∃ m k,aH st.best (cP G n cut)=some (m,k)/\Le m c:=by
 obtain⟨d,h1,h2⟩:=VI I o hi hq h
 rcases I.hit _ _ h1 with⟨e,he,_⟩ | ⟨y,hy,e1,e2⟩
 ·rw[hq] at he;cases he
 ·obtain⟨_,hpt,hfact,_⟩:=sG (G:=G) e1
  obtain⟨m,k,hb,hm⟩:=o.fin y hy (by rw[hpt];exact hf)
  rw[hfact] at hb
  exact⟨m,k,hb,hm.trans (by rw[e2];exact h2)⟩
theorem wX{G:Sr}{B:bE}(h:∀ f m n cut,aH B f=some (m,n,cut)->DI G n cut m/\dW G n cut=none/\f=cP G n cut){n:Nat}{cut:List Int}{c:aJ}(g:GI G B n cut c):DI G n cut c:=by
 induction g with
 | start a b=>exact .start a b
 | word _ a b c d ih=>exact .word ih a b c d
 | name hgi hr hp ho hb ih=>
  rename_i k
  obtain⟨n',cut'⟩:=k
  obtain⟨h1,h2,h3⟩:=h _ _ _ _ hb
  unfold cP at h3
  simp only[Dj] at h3
  obtain⟨e1,e2,e3⟩:=h3
  rw[e3]
  exact .name ih hr hp ho h1 h2 e1.symm e2.symm
theorem iS{κ β:Type}[DecidableEq κ]{t:List (κ×β)}{k:κ}{v:β}(h:aH t k=some v):∃ a b,t=a ++ (k,v) :: b:=by
 induction t with
 | nil=>cases h
 | cons e t ih=>
  rw[dS] at h
  by_cases hk:e.1=k
  ·rw[if_pos hk] at h
   cases h
   exact⟨[],t,by rw[<-hk];rfl⟩
  ·rw[if_neg hk] at h
   obtain⟨a,b,rfl⟩:=ih h
   exact⟨e :: a,b,rfl⟩
theorem VL{G:Sr}{st:SS}{P:List bZ}{cur:aJ}(o:Ob G st P cur):∀ (k:Nat) (pre:bE) (e:a7×aJ×Nat×List Int) (post:bE),pre.length=k->st.best=pre ++ e :: post->DI G e.2.2.1 e.2.2.2 e.2.1:=by
 intro k
 induction k using Nat.strongRecOn with
 | _ k ih=>
  intro pre e post hk hb
  obtain⟨g,_⟩:=o.ord pre e post hb
  refine wX (B:=pre) (fun f m n cut hf=>?_) g
  obtain⟨a,b,hab⟩:=iS hf
  have hb2:st.best=a ++ (f,m,n,cut) :: (b ++ e :: post):=by rw[hb,hab];simp
  have hlen:a.length < k:=by rw[<-hk,hab];simp
  have hd:=ih a.length hlen a _ _ rfl hb2
  have hnone:=(o.ord a _ _ hb2).2
  have hf2:aH st.best f=some (m,n,cut):=by
   rw[hb2]
   have:∀ {a:bE} {x:a7×aJ×Nat×List Int} {r:bE},aH a x.1=none->aH (a ++ x :: r) x.1=some x.2:=by
    intro a
    induction a with
    | nil=>intro x r _;rw[Eh,dS,if_pos rfl]
    | cons y a ih2=>
     intro x r h
     rw[dS] at h
     rw[List.cons_append,dS]
     by_cases hy:y.1=x.1
     ·rw[if_pos hy] at h;cases h
     ·rw[if_neg hy] at h ⊢
      exact ih2 h
   exact this (x:=(f,m,n,cut)) hnone
  obtain⟨h1,h2,_⟩:=o.bst f m n cut hf2
  exact⟨hd,h1,h2⟩
theorem wY{G:Sr}{st:SS}{P:List bZ}{cur:aJ}(o:Ob G st P cur){f:a7}{m:aJ}{n:Nat}{cut:List Int}(h:aH st.best f=some (m,n,cut)):DI G n cut m/\dW G n cut=none/\f=cP G n cut:=by
 obtain⟨a,b,hab⟩:=iS h
 obtain⟨h1,h2,_⟩:=o.bst f m n cut h
 exact⟨VL o a.length a _ b rfl hab,h1,h2⟩
theorem GB(st:SS)(n:Nat)(cut:List Int)(c:aJ):∃ j,j<=1/\(a6 (reach st n cut c).q).length=(a6 st.q).length + j/\(reach st n cut c).reached.length<=st.reached.length + j:=by
 have push:∃ j,j<=1/\(a6 (dU c (n,cut) st.q)).length=(a6 st.q).length + j/\(cS st.reached (bN n cut) c).length<=st.reached.length + j:=⟨1,Ai _,sF _ _ _,pN _ _ _⟩
 unfold reach
 cases aH st.reached (bN n cut) with
 | none=>exact push
 | some d=>
  simp only
  split
  ·exact push
  ·exact⟨0,by lia,rfl,by lia⟩
theorem pQ{α:Type}(f:α->Nat×List Int×aJ):∀ (xs:List α) (st:SS),∃ j,j<=xs.length/\(a6 (xs.foldl (fun st x=>reach st (f x).1 (f x).2.1 (f x).2.2) st).q).length=(a6 st.q).length + j/\(xs.foldl (fun st x=>reach st (f x).1 (f x).2.1 (f x).2.2) st).reached.length<=st.reached.length + j
 | [],st=>⟨0,Ai _,rfl,Ai _⟩
 | x :: xs,st=>by
  obtain⟨j1,h1,h2,h3⟩:=GB st (f x).1 (f x).2.1 (f x).2.2
  obtain⟨j2,g1,g2,g3⟩:=pQ f xs (reach st (f x).1 (f x).2.1 (f x).2.2)
  refine⟨j1 + j2,by rw[Ar];lia,?_,?_⟩
  ·rw[Dz,g2,h2];lia
  ·rw[Dz];lia
def gK(G:Sr)(S:Nat)(st:SS)(y:bZ):Nat:=match dW G y.1 y.2.1 with
 | none=>0
 | some part=>if G.own part=true then((aH st.ends (part,y.2.1.getLastD 0)).getD []).length else S
structure Cn(G:Sr)(S I0:Nat)(st:SS)(P:List bZ)(T:Nat):Prop where
 put:(a6 st.q).length + T<=I0 + (P.map (gK G S st)).sum
 rch:st.reached.length<=(a6 st.q).length + T
 bnd:∀ key,((aH st.begun key).getD []).Nodup
 enn:∀ key,(((aH st.ends key).getD []).map Dx).Nodup
theorem sH(f:bZ->Nat)(P:List bZ)(x:bZ):((P ++ [x]).map f).sum=(P.map f).sum + f x:=by simp
theorem wZ{G:Sr}{S:Nat}{st st':SS}(h:st'.ends=st.ends):gK G S st'=gK G S st:=by
 funext y;unfold gK;rw[h]
theorem VM{G:Sr}{S I0 T:Nat}{st:SS}{P:List bZ}{c:aJ}{n:Nat}{cut:List Int}{part:Str}(C:Cn G S I0 st P T)(hS:∀ t p,(G.steps t p).length<=S)(hp:dW G n cut=some part)(ho:G.own part=false):Cn G S I0 (fY G st n cut c part) (P ++ [(n,cut,c)]) T:=by
 obtain⟨j,h1,h2,h3⟩:=pQ (fun z:Int×Int=>(n,cut ++ [z.1],(c.1 + z.2,c.2))) (G.steps part (cut.getLastD 0)) st
 have keep:∀ (xs:List (Int×Int)) (st:SS),(xs.foldl (fun st z=>reach st n (cut ++ [z.1]) (c.1 + z.2,c.2)) st).ends=st.ends/\(xs.foldl (fun st z=>reach st n (cut ++ [z.1]) (c.1 + z.2,c.2)) st).begun=st.begun:=by
  intro xs
  induction xs with
  | nil=>intro st;exact⟨rfl,rfl⟩
  | cons x xs ih=>
   intro st
   rw[Dz]
   obtain⟨e1,e2⟩:=ih (reach st n (cut ++ [x.1]) (c.1 + x.2,c.2))
   have hr:(reach st n (cut ++ [x.1]) (c.1 + x.2,c.2)).ends=st.ends/\(reach st n (cut ++ [x.1]) (c.1 + x.2,c.2)).begun=st.begun:=by
    unfold reach
    split
    ·split <;> exact⟨rfl,rfl⟩
    ·exact⟨rfl,rfl⟩
   exact⟨e1.trans hr.1,e2.trans hr.2⟩
 obtain⟨k1,k2⟩:=keep (G.steps part (cut.getLastD 0)) st
 have k1':(fY G st n cut c part).ends=st.ends:=k1
 have k2':(fY G st n cut c part).begun=st.begun:=k2
 have h2':(a6 (fY G st n cut c part).q).length=(a6 st.q).length + j:=h2
 have h3':(fY G st n cut c part).reached.length<=st.reached.length + j:=h3
 have hs:=hS part (cut.getLastD 0)
 have hput:=C.put
 have hrch:=C.rch
 refine⟨?_,by lia,fun key=>by rw[k2'];exact C.bnd key,fun key=>by rw[k1'];exact C.enn key⟩
 rw[wZ k1',sH,h2']
 have:gK G S st (n,cut,c)=S:=by
  unfold gK
  rw[hp]
  simp only
  rw[if_neg (by rw[ho];decide)]
 lia
theorem VN(st:SS)(n:Nat)(cut:List Int)(c:aJ):(reach st n cut c).ends=st.ends/\(reach st n cut c).begun=st.begun/\(reach st n cut c).best=st.best:=by
 unfold reach
 split
 ·split <;> exact⟨rfl,rfl,rfl⟩
 ·exact⟨rfl,rfl,rfl⟩
theorem w4{α:Type}(f:α->Nat×List Int×aJ):∀ (xs:List α) (st:SS),(xs.foldl (fun st x=>reach st (f x).1 (f x).2.1 (f x).2.2) st).ends=st.ends/\(xs.foldl (fun st x=>reach st (f x).1 (f x).2.1 (f x).2.2) st).begun=st.begun/\(xs.foldl (fun st x=>reach st (f x).1 (f x).2.1 (f x).2.2) st).best=st.best
 | [],st=>⟨rfl,rfl,rfl⟩
 | x :: xs,st=>by
  rw[Dz]
  obtain⟨h1,h2,h3⟩:=w4 f xs (reach st (f x).1 (f x).2.1 (f x).2.2)
  obtain⟨g1,g2,g3⟩:=VN st (f x).1 (f x).2.1 (f x).2.2
  exact⟨h1.trans g1,h2.trans g2,h3.trans g3⟩
theorem VO{G:Sr}{S I0 T:Nat}{st:SS}{P:List bZ}{cur c:aJ}{n:Nat}{cut:List Int}{part:Str}(C:Cn G S I0 st P T)(o:Ob G st P cur)(hnew:(n,cut,c)∉P)(hp:dW G n cut=some part)(ho:G.own part=true):Cn G S I0 (fT st n cut c part) (P ++ [(n,cut,c)]) T:=by
 obtain⟨st1,hst1⟩:∃ z:SS,z = {st with begun:=e8 st.begun (part,cut.getLastD 0) (n,cut,c)}:=⟨_,rfl⟩
 obtain⟨j,h1,h2,h3⟩:=pQ (fun z:Int×aJ=>(n,cut ++ [z.1],eA c z.2)) ((aH st.ends (part,cut.getLastD 0)).getD []) st1
 obtain⟨k1,k2,_⟩:=w4 (fun z:Int×aJ=>(n,cut ++ [z.1],eA c z.2)) ((aH st.ends (part,cut.getLastD 0)).getD []) st1
 have k1':(fT st n cut c part).ends=st.ends:=by
  have:(fT st n cut c part).ends=st1.ends:=by rw[hst1] at k1 ⊢;exact k1
  rw[this,hst1]
 have k2':(fT st n cut c part).begun=e8 st.begun (part,cut.getLastD 0) (n,cut,c):=by
  have:(fT st n cut c part).begun=st1.begun:=by rw[hst1] at k2 ⊢;exact k2
  rw[this,hst1]
 have h2':(a6 (fT st n cut c part).q).length=(a6 st.q).length + j:=by rw[hst1] at h2;exact h2
 have h3':(fT st n cut c part).reached.length<=st.reached.length + j:=by rw[hst1] at h3;exact h3
 have hput:=C.put
 have hrch:=C.rch
 refine⟨?_,by lia,fun key=>?_,fun key=>by rw[k1'];exact C.enn key⟩
 ·rw[wZ k1',sH,h2']
  have:gK G S st (n,cut,c)=((aH st.ends (part,cut.getLastD 0)).getD []).length:=by
   unfold gK
   rw[hp]
   simp only
   rw[if_pos ho]
  lia
 ·rw[k2',pO]
  split
  ·rename_i h
   rw[Ew]
   refine⟨C.bnd key,by simp,fun a ha b hb e=>?_⟩
   rw[An] at hb
   rw[e,hb] at ha
   exact hnew (o.bgn key _ ha).1
  ·exact C.bnd key
theorem len_sub{α:Type}[DecidableEq α]:∀ {a b:List α},a.Nodup->(∀ x∈a,x∈b)->a.length<=b.length
 | [],b,_,_=>Cd _
 | x :: a,b,hn,hs=>by
  rw[Dy] at hn
  have hx:=hs x Bb
  have ih:=len_sub (a:=a) (b:=b.erase x) hn.2 fun y hy=>by
   have hne:y≠x:=fun e=>hn.1 (by rw[<-e];exact hy)
   exact(List.mem_erase_of_ne hne).mpr (hs y (Av _ hy))
  rw[List.length_erase_of_mem hx] at ih
  have:=List.length_pos_of_mem hx
  rw[Ar];lia
theorem GC{f g:bZ->Nat}{p:bZ->Bool}:∀ {P:List bZ},(∀ y∈P,g y=f y + if p y=true then 1 else 0)->(P.map g).sum=(P.map f).sum + (P.filter p).length
 | [],_=>rfl
 | y :: P,h=>by
  have ih:=GC (P:=P) fun z hz=>h z (Av _ hz)
  rw[Bc,Bc,List.sum_cons,List.sum_cons,ih,h y Bb,Em]
  split <;> simp <;> lia
theorem VP{G:Sr}{S I0 T:Nat}{st:SS}{P:List bZ}{cur c:aJ}{n:Nat}{cut:List Int}(C:Cn G S I0 st P T)(o:Ob G st P cur)(hp:dW G n cut=none):Cn G S I0 (settle G st n cut c) (P ++ [(n,cut,c)]) T:=by
 have hdeg0:∀ st',gK G S st' (n,cut,c)=0:=fun st'=>by unfold gK;rw[hp]
 have hput:=C.put
 have hrch:=C.rch
 unfold settle
 cases hf:aH st.best (cP G n cut) with
 | some v=>
  simp only
  refine⟨?_,C.rch,C.bnd,C.enn⟩
  rw[sH,hdeg0];lia
 | none=>
  simp only
  obtain⟨st1,hst1⟩:∃ z:SS,z = {st with best:=st.best ++ [(cP G n cut,c,n,cut)],ends:=e8 st.ends (c8 G n,cut.headD 0) (cut.getLastD 0,c)}:=⟨_,rfl⟩
  rw[<-hst1]
  obtain⟨j,h1,h2,h3⟩:=pQ (fun y:bZ=>(y.1,y.2.1 ++ [cut.getLastD 0],eA y.2.2 c)) ((aH st.begun (c8 G n,cut.headD 0)).getD []) st1
  obtain⟨k1,k2,_⟩:=w4 (fun y:bZ=>(y.1,y.2.1 ++ [cut.getLastD 0],eA y.2.2 c)) ((aH st.begun (c8 G n,cut.headD 0)).getD []) st1
  obtain⟨st2,hst2⟩:∃ z,z=((aH st.begun (c8 G n,cut.headD 0)).getD []).foldl (fun st y=>reach st y.1 (y.2.1 ++ [cut.getLastD 0]) (eA y.2.2 c)) st1:=⟨_,rfl⟩
  rw[<-hst2] at h2 h3 k1 k2 ⊢
  have E:st2.ends=e8 st.ends (c8 G n,cut.headD 0) (cut.getLastD 0,c):=by rw[k1,hst1]
  have N:st2.begun=st.begun:=by rw[k2,hst1]
  have q1:(a6 st1.q).length=(a6 st.q).length:=by rw[hst1]
  have r1:st1.reached.length=st.reached.length:=by rw[hst1]
  obtain⟨pk,hpk⟩:∃ pk:bZ->Bool,pk=fun y=>decide (dW G y.1 y.2.1=some (c8 G n)/\G.own (c8 G n)=true/\y.2.1.getLastD 0=cut.headD 0):=⟨_,rfl⟩
  have hsum:(P.map (gK G S st2)).sum=(P.map (gK G S st)).sum + (P.filter pk).length:=GC fun y hy=>by
   unfold gK
   cases hpt:dW G y.1 y.2.1 with
   | none=>rw[hpk];simp[hpt]
   | some part=>
    simp only
    cases ho:G.own part with
    | false=>
     rw[hpk]
     simp only[hpt,Fy]
     rw[if_neg (by decide),if_neg (by decide),if_neg (by rw[decide_eq_true_eq];rintro⟨h1,h2,_⟩;rw[<-h1,ho] at h2;cases h2)]
     rfl
    | true=>
     rw[if_pos rfl,if_pos rfl,E,pO]
     by_cases h:(c8 G n,cut.headD 0)=(part,y.2.1.getLastD 0)
     ·rw[if_pos h]
      simp only[Dj] at h
      rw[hpk]
      simp only[hpt,Fy]
      rw[if_pos (by rw[decide_eq_true_eq];exact⟨h.1.symm,by rw[h.1];exact ho,h.2.symm⟩)]
      simp
     ·rw[if_neg h]
      rw[hpk]
      simp only[hpt,Fy]
      rw[if_neg (by rw[decide_eq_true_eq];rintro⟨h1,_,h3⟩;exact h (by rw[h1,h3]))]
      lia
  have hbl:((aH st.begun (c8 G n,cut.headD 0)).getD []).length<=(P.filter pk).length:=len_sub (C.bnd _) fun y hy=>by
   obtain⟨g1,g2,g3,g4,_⟩:=o.bgn _ y hy
   rw[Dh,hpk]
   exact⟨g1,decide_eq_true ⟨g2,g3,g4⟩⟩
  refine⟨?_,by lia,fun key=>by rw[N];exact C.bnd key,fun key=>?_⟩
  ·rw[sH,hdeg0,hsum];lia
  ·rw[E,pO]
   split
   ·rename_i h
    rw[Bf,Ew]
    refine⟨C.enn key,by simp,fun a ha b hb e=>?_⟩
    obtain⟨z,hz,rfl⟩:=Ba.mp ha
    rw[List.map_singleton,An] at hb
    rw[<-h] at hz
    obtain⟨k,hk⟩:=(o.ends _ _ z.1 z.2).mp hz
    rw[e,hb] at hk
    have:aH st.best (cP G n cut)=some (z.2,k):=hk
    rw[hf] at this;cases this
   ·exact C.enn key
def kT(G:Sr)(st:SS):SS:=match hV st.q with
 | none=>st
 | some (c,(n,cut),q')=>match aH st.reached (bN n cut) with
  | some d=>if cL d c=true then {st with q:=q'} else process G {st with q:=q'} n cut c
  | none=>{st with q:=q'}
structure All(G:Sr)(S I0:Nat)(st:SS)(P:List bZ)(cur:aJ)(T:Nat):Prop where
 inv:fE G st P cur
 ob:Ob G st P cur
 ini:wW G st
 cn:Cn G S I0 st P T
theorem Cn.q{G:Sr}{S I0 T:Nat}{st:SS}{P:List bZ}{q':List (aJ×List (Nat×List Int))}(C:Cn G S I0 st P T)(h:(a6 st.q).length=(a6 q').length + 1):Cn G S I0 {st with q:=q'} P (T + 1):=by
 have h1:=C.put
 have h2:=C.rch
 refine⟨?_,?_,C.bnd,C.enn⟩
 ·show(a6 q').length + (T + 1)<=_
  rw[wZ (st':={st with q:=q'}) (st:=st) rfl]
  lia
 ·show st.reached.length<=(a6 q').length + (T + 1)
  lia
theorem VQ{G:Sr}{S I0 T:Nat}{st:SS}{P:List bZ}{cur c:aJ}{n:Nat}{cut:List Int}(C:Cn G S I0 st P T)(o:Ob G st P cur)(hS:∀ t p,(G.steps t p).length<=S)(hnew:(n,cut,c)∉P):Cn G S I0 (process G st n cut c) (P ++ [(n,cut,c)]) T:=by
 unfold process
 cases hp:dW G n cut with
 | none=>exact VP C o hp
 | some part=>
  simp only
  cases ho:G.own part with
  | true=>rw[if_pos rfl];exact VO C o hnew hp ho
  | false=>rw[if_neg (by decide)];exact VM C hS hp ho
theorem VR{G:Sr}(ok:nX G){S I0 T:Nat}{st:SS}{P:List bZ}{cur:aJ}(A:All G S I0 st P cur T)(hS:∀ t p,(G.steps t p).length<=S)(hq:st.q≠[]):∃ P' cur',All G S I0 (kT G st) P' cur' (T + 1):=by
 obtain⟨c,x,q',e1,f1,m1,l1,c1,_⟩:=mT A.inv.fall hq
 obtain⟨n,cut⟩:=x
 have hin:(c,(n,cut))∈a6 st.q:=(m1 _).mpr (.inl rfl)
 obtain⟨d,hd,hle⟩:=A.inv.ge _ hin
 unfold kT
 rw[e1]
 simp only
 rw[hd]
 simp only
 by_cases hl:cL d c=true
 ·rw[if_pos hl]
  obtain⟨I1,hc⟩:=VD A.inv e1 hd hl
  exact⟨P,c,I1,A.ob.later hc q',A.ini,A.cn.q l1⟩
 ·rw[if_neg hl]
  have hdc:d=c:=Le.antisymm hle (wQ.mpr hl)
  subst hdc
  obtain⟨I1,hc,g⟩:=VC A.inv e1 hd
  have o1:=A.ob.later hc q'
  obtain⟨I2,o2,le2⟩:=VH ok I1 o1 g
  refine⟨_,_,I2,o2,fun n r p h1 h2=>le2 _ _ (A.ini n r p h1 h2),VQ (A.cn.q l1) o1 hS fun hm=>?_⟩
  have hn:=I1.once
  rw[Bf,Ew] at hn
  exact hn.2.2 _ (Ba.mpr ⟨_,hm,rfl⟩) _ (by simp) rfl
def gL:SS:=⟨[],[],[],[],[]⟩
def i8(G:Sr):List (Nat×Int):=(Cw G.rs.length).flatMap fun n=>G.places.map fun p=>(n,p)
def j7(G:Sr):SS:=(i8 G).foldl (fun st x=>reach st x.1 [x.2] (G.wt x.1,1)) gL
theorem VS{G:Sr}(ok:nX G)(S:Nat):All G S (i8 G).length (j7 G) [] (0,0) 0:=by
 have I0:fE G gL [] (0,0):=⟨trivial,(fun e he=>nomatch he),(fun e he=>nomatch he),Gm,Gm,(fun y hy=>nomatch hy),(fun e he=>nomatch he),(fun e he=>nomatch he),(fun k d hd=>nomatch hd)⟩
 have hmem:∀ x∈i8 G,(∃ r,G.rs[x.1]? = some r)/\x.2∈G.places:=fun x hx=>by
  obtain⟨n,hn,hx⟩:=Fg.mp hx
  obtain⟨p,hp,rfl⟩:=Ba.mp hx
  exact⟨⟨_,Ax (Hl.mp hn)⟩,hp⟩
 obtain⟨I1,g1,r1⟩:=pP (fun x:Nat×Int=>(x.1,[x.2],(G.wt x.1,(1:Int)))) (i8 G) I0 fun x hx=>by
  obtain⟨⟨r,hr⟩,hp⟩:=hmem x hx
  refine⟨.start hr hp,?_⟩
  have:=ok.wt x.1
  show Le (0,0) (G.wt x.1,1)
  unfold Le;simp only;lia
 obtain⟨j,h1,h2,h3⟩:=pQ (fun x:Nat×Int=>(x.1,[x.2],(G.wt x.1,(1:Int)))) (i8 G) gL
 have b0:(j7 G).best=[]:=g1.best
 have e0:(j7 G).ends=[]:=g1.ends
 have n0:(j7 G).begun=[]:=g1.begun
 refine⟨I1,⟨Le.refl _,(fun y hy=>nomatch hy),(fun y hy=>nomatch hy),(fun y hy=>nomatch hy),fun key y hy=>?_,fun key y hy=>?_,fun nm b e m=>?_,fun f m n cut e=>?_,fun pre e post h=>?_⟩,fun n r p hr hp=>?_,⟨?_,?_,fun key=>?_,fun key=>?_⟩⟩
 ·rw[n0] at hy;cases hy
 ·rw[n0] at hy;cases hy
 ·rw[e0,b0]
  exact⟨(fun z=>nomatch z),(fun⟨k,hk⟩=>nomatch hk)⟩
 ·rw[b0] at e;cases e
 ·rw[b0] at h
  cases pre <;> cases h
 ·exact r1 (n,p) (Fg.mpr ⟨n,Hl.mpr (Ah.mp hr).1,Ba.mpr ⟨p,hp,rfl⟩⟩)
 ·have h2:(a6 (j7 G).q).length=(a6 gL.q).length + j:=h2
  have:(a6 gL.q).length=0:=rfl
  simp only[Jp,List.sum_nil]
  lia
 ·have h2:(a6 (j7 G).q).length=(a6 gL.q).length + j:=h2
  have h3:(j7 G).reached.length<=gL.reached.length + j:=h3
  have e1:(a6 gL.q).length=0:=rfl
  have e2:gL.reached.length=0:=rfl
  lia
 ·rw[n0];exact Gm
 ·rw[e0];exact Gm
structure pR(G:Sr)(V:List Int)(N L:Nat):Prop where
 pl:∀ p∈G.places,p∈V
 st:∀ t p e c,p∈V->(e,c)∈G.steps t p->e∈V
 few:G.rs.length<=N
 len:∀ r∈G.rs,r.parts.length + 1<=L
theorem sI{l:List Int}(h:l≠[]):l.getLastD 0∈l:=by
 rcases Ed l with z | ⟨a,b,z⟩
 ·exact absurd z h
 ·rw[z,Ee];simp[Ht]
theorem VT{l:List Int}(h:l≠[]):l.headD 0∈l:=by
 cases l with
 | nil=>exact absurd rfl h
 | cons a b=>simp
theorem sJ{G:Sr}{V:List Int}{N L:Nat}(v:pR G V N L){n:Nat}{cut:List Int}{c:aJ}(h:DI G n cut c):(∀ x∈cut,x∈V)/\n < N/\cut.length<=L:=by
 induction h with
 | @start n r p hr hp=>
  have hn:=(Ah.mp hr).1
  have:=v.len r (Bn hr)
  have:=v.few
  exact⟨fun x hx=>by rw[An.mp hx];exact v.pl p hp,by lia,by simp;lia⟩
 | @word n r cut c part e pr hd hr hp ho hs ih=>
  obtain⟨h1,h2,h3⟩:=ih
  have hl:=(Ah.mp hp).1
  have:=v.len r (Bn hr)
  have hne:=Fb.mpr hd.ne
  refine⟨fun x hx=>?_,h2,by rw[Af,Bl];lia⟩
  rcases Be.mp hx with z | z
  ·exact h1 x z
  ·rw[An.mp z];exact v.st _ _ _ _ (h1 _ (sI hd.ne)) hs
 | @name n n' r cut cut' c m part hd hr hp ho hd' hf hn hh ih ih'=>
  obtain⟨h1,h2,h3⟩:=ih
  obtain⟨g1,_,_⟩:=ih'
  have hl:=(Ah.mp hp).1
  have:=v.len r (Bn hr)
  have hne:=Fb.mpr hd.ne
  refine⟨fun x hx=>?_,h2,by rw[Af,Bl];lia⟩
  rcases Be.mp hx with z | z
  ·exact h1 x z
  ·rw[An.mp z];exact g1 _ (sI hd'.ne)
def sL(V:List Int)(N L:Nat):List K4:=(Cw N).flatMap fun n=>(Cw (L + 1)).flatMap fun l=>V.flatMap fun a=>V.map fun b=>(n,l,a,b)
theorem pT{α β:Type}{f:α->List β}{k:Nat}:∀ {l:List α},(∀ x∈l,(f x).length=k)->(l.flatMap f).length=l.length * k
 | [],_=>by simp
 | x :: l,h=>by
  rw[List.flatMap_cons,Af,h x Bb,pT fun y hy=>h y (Av _ hy),Ar,Nat.succ_mul];lia
theorem VU(V:List Int)(N L:Nat):(sL V N L).length=N * ((L + 1) * (V.length * V.length)):=by
 unfold sL
 rw[pT (k:=(L + 1) * (V.length * V.length)) fun n _=>?_,Fj]
 rw[pT (k:=V.length * V.length) fun l _=>?_,Fj]
 rw[pT (k:=V.length) fun a _=>by rw[Aa]]
theorem GD{G:Sr}{V:List Int}{N L S I0 T:Nat}{st:SS}{P:List bZ}{cur:aJ}(v:pR G V N L)(A:All G S I0 st P cur T):P.length<=N * ((L + 1) * (V.length * V.length))/\(∀ key,((aH st.ends key).getD []).length<=V.length)/\(a6 st.q).length + T<=I0 + N * ((L + 1) * (V.length * V.length)) * (S + V.length):=by
 have hin:∀ {B:bE} {n cut c},B=st.best->GI G B n cut c->DI G n cut c:=fun {B n cut c} e g=>wX (B:=B) (fun f m n' cut' h=>wY A.ob (by rw[<-e];exact h)) g
 have hP:P.length<=N * ((L + 1) * (V.length * V.length)):=by
  have:=len_sub (b:=sL V N L) A.inv.once fun k hk=>by
   obtain⟨y,hy,rfl⟩:=Ba.mp hk
   have hd:=hin rfl (A.inv.pr y hy).2.2
   obtain⟨h1,h2,h3⟩:=sJ v hd
   unfold sL
   refine Fg.mpr ⟨y.1,Hl.mpr h2,Fg.mpr ⟨y.2.1.length,Hl.mpr (by lia),Fg.mpr ⟨_,h1 _ (VT hd.ne),Ba.mpr ⟨_,h1 _ (sI hd.ne),rfl⟩⟩⟩⟩
  rw[Aa,VU] at this
  exact this
 have hE:∀ key,((aH st.ends key).getD []).length<=V.length:=fun key=>by
  have:=len_sub (b:=V) (A.cn.enn key) fun e he=>by
   obtain⟨z,hz,rfl⟩:=Ba.mp he
   obtain⟨k,hk⟩:=(A.ob.ends key.1 key.2 z.1 z.2).mp hz
   obtain⟨n,cut⟩:=k
   obtain⟨hd,_,hf⟩:=wY A.ob hk
   unfold cP at hf
   simp only[Dj] at hf
   rw[hf.2.2]
   exact(sJ v hd).1 _ (sI hd.ne)
  rw[Aa] at this
  exact this
 refine⟨hP,hE,?_⟩
 have hsum:(P.map (gK G S st)).sum<=P.length * (S + V.length):=by
  have hd:∀ y,gK G S st y<=S + V.length:=fun y=>by
   unfold gK
   split
   ·lia
   ·rename_i part _
    split
    ·have:=hE (part,y.2.1.getLastD 0)
     lia
    ·lia
  have:∀ l:List bZ,(l.map (gK G S st)).sum<=l.length * (S + V.length):=by
   intro l
   induction l with
   | nil=>simp
   | cons y l ih=>rw[Bc,List.sum_cons,Ar,Nat.succ_mul];have:=hd y;lia
  exact this P
 have h1:=A.cn.put
 have h2:P.length * (S + V.length)<=N * ((L + 1) * (V.length * V.length)) * (S + V.length):=Nat.mul_le_mul_right _ hP
 lia
theorem lV{α:Type}{l:List α}{k:Nat}{x:α}(h:l[k]? = some x):l.take (k + 1)=l.take k ++ [x]:=by
 rw[List.take_succ,h];rfl
end Rg
namespace L3
open PySem PySem.Spec PyProof.Rows L2
section
variable {ws:List W}{g:e6}{tb:aI}{D:D3}{τ:S3}{M:Mm}
theorem xI{α:Sort _}{p K:α->Prop}{w:α}(h:p w)(k:K w):∃ w,p w/\K w:=⟨w,h,k⟩
theorem sM(Pv:Nat->S3->Mm->Prop)(h0:Pv 0 τ M)
  (hs:∀ i w τ M,ws[i]? = some w->Pv i τ M->g w τ M fun τ2 M2=>tb {D with nx:=fun τ' M'=>∃ M'',Sub M'' M'/\Pv (i + 1) τ' M'',ct:=fun τ' M'=>∃ M'',Sub M'' M'/\Pv (i + 1) τ' M'',bk:=D.nx} τ2 M2)
  (hd:∀ τ M,Pv ws.length τ M->D.nx τ M):rZ ws (fun _=>True) g tb D τ M:=nR Pv h0 (fun _ _ _ _ _=>trivial) hs hd
theorem iT(Pv:Nat->S3->Mm->Prop)(h0:Pv 0 τ M)(hs:∀ i w τ M,ws[i]? = some w->Pv i τ M->∀ D':D3,(∀ τ M,Pv (i + 1) τ M->D'.nx τ M)->g w τ M fun τ2 M2=>tb D' τ2 M2)
  (hd:∀ τ M,Pv ws.length τ M->D.nx τ M):rZ ws (fun _=>True) g tb D τ M:=sM Pv h0 (fun i w τ M e p=>hs i w τ M e p _ fun _ M z=>⟨M,Sub.refl _,z⟩) hd
theorem VW{c:dQ}(Pv:Nat->S3->Mm->Prop)(h0:∃ m,Pv m τ M)
  (hs:∀ m τ M,Pv m τ M->∀ D':D3,(∀ m' τ M,m' < m->Pv m' τ M->D'.nx τ M)->c τ M fun b M1=>if b=true then tb D' τ M1 else D.nx τ M1):pH c tb D τ M:=⟨Pv,h0,fun m τ M p=>hs m τ M p _ fun m' _ M l z=>⟨m',M,l,Sub.refl _,z⟩⟩
end
end L3
namespace PySem
namespace Dp
open PyProof.Rows L2 PySem.Spec
section
variable {prog:Bu}{w:Cm}{A:Co}{E:Ae->Ag->Prop}{s:Ag}
theorem VX:typeLookup (.type "list") "keys" = pure none:=by rw[typeLookup_type,Lw];kernel_rfl
theorem VY{a:Addr}{xs:Array Ae}{k:Nat}{Q:Option Ae->Ag->Prop}(hx:s.heap.get? a=some {cls:=.type "list",data:=.seq xs k})(hA:A.handled=none)
  (h:∀ h' tk,(∀ b o,s.heap.get? b=some o->h'.get? b=some o)->Q none {s with heap:=h',toks:=tk}):Bh (Bq prog w) A (getAttr? (.ref a) (Ej "keys")) Q E s:=by
 obtain⟨hp,g,d,tk,os⟩:=s
 have hT:∀ tk',(⟨hp,g,d,tk',os⟩:Ag).TypeIs (.ref a) "list":=fun _=>⟨_,hx,rfl⟩
 have f1:=sub_AttributeError
 have f3:=Kt.lookup
 have f4:=Kt.bind (.ref a)
 have f5:=am_list_getattr_none
 unfold getAttr? getAttrBy? getAttrBy
 repeat (any_goals (first | assumption | exact hT _ | ((with_reducible show Bh _ _ (call (Value.builtin "list.__getattribute__") _ _) _ _ _);refine Jn Kt (hT _) am_entry_list_getattribute (F.args_list_getattribute_2 _ _) (meets_getattribute_miss_list a xs k #[] (Ej "keys") _ VX (by decide +kernel) (by decide +kernel)) ⟨hx,hA,fun h' tk' e hx'=>?_⟩) | wp_step))
 obtain⟨t',u',he⟩:=hx'.there
 have hx2:=hx'.of.keeps
 show Bh _ _ (getattributeRaised _ _ _ _ _ _ _) _ _ _
 unfold getattributeRaised
 repeat (any_goals (first | assumption | wp_step))
 exact h _ _ hx2
theorem GF:entryFor table "dict.update.loop" = some Mg.«dict.update.loop»:=entryFor_of_tree (by kernel_rfl)
theorem sN:plainId "dict.update.loop" = true:=by decide +kernel
variable {K:Type}[DecidableEq K]{knd:KeyKind prog w K}
theorem VZ(kvs:List (K×Ae))(k:K)(v:Ae):(stored kvs k v).length<=kvs.length + 1:=by
 unfold stored
 split
 ·rw[Aa];lia
 ·rw[Af,Bl];exact Ai _
def all(kvs:List (K×Ae))(ps:List (K×Ae)):List (K×Ae):=ps.foldl (fun kvs p=>stored kvs p.1 p.2) kvs
theorem V0{d I l:Addr}{items:Array Ae}{Dd:Nat->Heap->Prop}{R:Result->Ag->Prop}(hh:A.handled=none)(hdI:d≠I)(hdl:d≠l)(hlI:l≠I)(fr:∀ {i h h'},Dd i h->(∀ b o,b≠I->h.get? b=some o->h'.get? b=some o)->Dd i h')
  (st:∀ {i:Nat} {t:Ag},i < items.size->Dd i t.heap->∃ (a:Addr) (key v:Ae),items[i]? = some (.ref a)/\t.heap.IsTuple a #[key,v]/\∀ {E:Ae->Ag->Prop} {Q:Unit->Ag->Prop},(∀ h2 tk,Dd (i + 1) h2->Ei d t.heap h2->Q () {t with heap:=h2,toks:=tk})->Bh (Bq prog w) A.in1 (dictSet d key v) Q E t) :
  ∀ (k i:Nat) (s:Ag),items.size - i=k->i<=items.size->s.heap.IsListIter I l i->s.heap.IsList l items->Dd i s.heap->
  (∀ h' tk,(∀ b o,b≠d->b≠I->s.heap.get? b=some o->h'.get? b=some o)->Dd items.size h'->R (.ok (.ret .none)) {s with heap:=h',toks:=tk})->
  Jb (Bq prog w) A (.builtin "dict.update.loop" ⟨[.ref d,.ref I,Km (i:Int),.none],[]⟩) R s:=by
 intro k
 induction k with
 | zero=>
  intro i s hk hi hit oN hd hR
  have hin:i=items.size:=by lia
  refine codeAny_builtin GF ?_
  rw[Around.under_plainId sN _]
  show Bh _ A.in1 (Ky (.ref I) >>= _) _ _ s
  have W:=Walks.list (prog:=prog) (w:=w) (A:=A.in1) hh I l hlI items
  refine Ac (W.done s _ _ (by rw[<-hin];exact⟨hit,oN⟩) fun h' tk hm=>?_)
  show Bh _ A.in1 (Builtin.Dict.addKeywords d [] >>= _) _ _ _
  rw[hin] at hd
  exact Ac (Am (Am (hR h' tk (fun b o _ hb e=>hm b o (by simp[hb]) e) (fr hd fun b o hb e=>hm b o (by simp[hb]) e))))
 | succ k ih=>
  intro i s hk hi hit oN hd hR
  have hlt:i < items.size:=by lia
  refine codeAny_builtin GF ?_
  rw[Around.under_plainId sN _]
  show Bh _ A.in1 (Ky (.ref I) >>= _) _ _ s
  have W:=Walks.list (prog:=prog) (w:=w) (A:=A.in1) hh I l hlI items
  refine Ac (W.item i s _ _ hlt ⟨hit,oN⟩ fun v h' tk hv hst hm=>?_)
  obtain⟨a,key,u,ha,⟨o,ho,hc,n,hd2⟩,go⟩:=st (t:={s with heap:=h',toks:=tk}) hlt (fr hd fun b o hb e=>hm b o (by simp[hb]) e)
  rw[ha] at hv
  cases hv
  show Bh _ A.in1 (Il [Value.ref a] _ >>= _) _ _ _
  refine Ac (Dq (Ac (wpAny_tryCatch ?_)))
  unfold Builtin.Dict.pairItems
  refine Ac (wpAny_typeOf (T:="tuple") ⟨o,ho,hc⟩ ?_)
  rw[if_pos (by decide)]
  refine Ac (wpAny_seqItems ho hd2 (Am ?_))
  show Bh _ _ (Il [key,u] (dictSet d key u)) _ _ _
  refine Dq (go fun h2 tk2 hd3 hs2=>?_)
  refine Am ⟨plainId_quiet sN _,?_⟩
  exact ih (i + 1) _ (by lia) hlt (hst.1.at fun o e=>(hs2.2 I (Cg hdI)).trans e) (hst.2.at fun o e=>(hs2.2 l (Cg hdl)).trans e) hd3 fun h3 tk3 hk3 hd4=>hR h3 tk3 (fun b o h1 h2 e=>hk3 b o h1 h2 ((hs2.2 b h1).trans (hm b o (by simp[h2]) e))) hd4
theorem callG{l:Addr}{items:Array Ae}{c:Nat}{Dd:Nat->Heap->Prop}{Q:Ae->Ag->Prop}(hh:A.handled=none)(hx:s.heap.get? l=some {cls:=.type "list",data:=.seq items c})(d0:Dd 0 (s.heap.push {cls:=.type "dict",data:=.dict #[]}))
  (fr:∀ {i h h'},Dd i h->(∀ b o,@LE.le Nat _ b s.heap.objs.size->h.get? b=some o->h'.get? b=some o)->Dd i h')
  (st:∀ {i:Nat} {t:Ag},i < items.size->Dd i t.heap->(∀ b o,s.heap.get? b=some o->t.heap.get? b=some o)->∃ (a:Addr) (key v:Ae),items[i]? = some (.ref a)/\s.heap.IsTuple a #[key,v]/\∀ {E:Ae->Ag->Prop} {Q:Unit->Ag->Prop},(∀ h2 tk,Dd (i + 1) h2->Ei s.heap.objs.size t.heap h2->Q () {t with heap:=h2,toks:=tk})->Bh (Bq prog w) A.in1.in1 (dictSet s.heap.objs.size key v) Q E t)
  (h:∀ h' tk,(∀ b o,s.heap.get? b=some o->h'.get? b=some o)->Dd items.size h'->Q (.ref s.heap.objs.size) {s with heap:=h',toks:=tk}) :
  Bh (Bq prog w) A (call (.type "dict") [.ref l]) Q E s:=by
 refine callType_codes (Q₁:=fun obj s₁=>obj=.ref s.heap.objs.size/\s₁ = {s with heap:=s.heap.push {cls:=.type "dict",data:=.dict #[]}}) F.kt_called_dict (F.kt_typeCall_dict_1 _) F.entry_dict_init (kt_code_dict_new _ ⟨rfl,rfl⟩) ?_
 rintro obj s₁ ⟨rfl,rfl⟩
 have lt:l < s.heap.objs.size:=Az hx
 have hx':(s.heap.push {cls:=.type "dict",data:=.dict #[]}).get? l=some {cls:=.type "list",data:=.seq items c}:=Aj _ hx
 have hty:({s with heap:=s.heap.push {cls:=.type "dict",data:=.dict #[]}}:Ag).TypeIs (.ref s.heap.objs.size) "dict":=⟨_,Bd _ rfl,rfl⟩
 refine⟨hty,F.args_dict_init_2 _ _,?_⟩
 unfold Mg.«dict.__init__»
 refine Ac ?_
 unfold Builtin.Dict.selfAndRest
 refine Ac (Jk hty ?_)
 show Bh _ _ (pure (s.heap.objs.size,[Value.ref l])) _ _ _
 refine Am ?_
 show Bh _ _ (Builtin.Dict.updateFrom "dict.__init__" s.heap.objs.size (.ref l) [] .none) _ _ _
 unfold Builtin.Dict.updateFrom
 refine Ac (wpAny_typeOf (T:="list") ⟨_,hx',rfl⟩ ?_)
 rw[if_pos (by decide)]
 refine Ac (VY hx' hh fun h1 tk1 hk1=>?_)
 rw[if_pos (by decide)]
 have hx1:=hk1 _ _ hx'
 have l1:s.heap.objs.size < h1.objs.size:=Az (hk1 _ _ (Bd _ rfl))
 refine Ac (Jl (Ac (wpAny_pyIter_list (items:=items) ⟨_,hx1,rfl,c,rfl⟩ ?_)))
 have gI:(h1.push {cls:=.type "list_iterator",data:=.fields #[.ref l,.int 0 0]}).IsListIter h1.objs.size l 0:=⟨_,Bd _ rfl,rfl,rfl⟩
 have up:∀ b o,s.heap.get? b=some o->(h1.push {cls:=.type "list_iterator",data:=.fields #[.ref l,.int 0 0]}).get? b=some o:=fun b o e=>Aj _ (hk1 b o (Aj _ e))
 have nI:∀ {b:Addr},@LE.le Nat _ b s.heap.objs.size->b≠h1.objs.size:=fun hb=>Bo (Ka hb l1)
 refine Am ⟨plainId_quiet sN _,?_⟩
 refine V0 (A:=A.in1) (d:=s.heap.objs.size) (I:=h1.objs.size) (l:=l) (items:=items) (Dd:=fun i h=>Dd i h/\∀ b o,s.heap.get? b=some o->h.get? b=some o) hh (Bo l1) (Fu lt) (Bo (Nat.lt_trans lt l1)) (fun⟨z1,z2⟩ hm=>⟨fr z1 fun b o hb e=>hm b o (nI hb) e,fun b o e=>hm b o (nI (Fv (Az e))) (z2 b o e)⟩) (fun hi ⟨z1,z2⟩=>?_) items.size 0 _ rfl (Cd _) gI ⟨_,Aj _ hx1,rfl,c,rfl⟩ ⟨fr d0 fun b o _ e=>Aj _ (hk1 b o e),up⟩ fun h2 tk2 _ hd2=>⟨rfl,h h2 tk2 hd2.2 hd2.1⟩
 obtain⟨a,key,v,g1,⟨o,g2,g3⟩,go⟩:=st hi z1 z2
 exact⟨a,key,v,g1,⟨o,z2 a o g2,g3⟩,fun k=>go fun h2 tk z hs=>k h2 tk ⟨z,fun b o e=>(hs.2 b (Bo (Az e))).trans (z2 b o e)⟩ hs⟩
theorem take_at{α:Type}{ps:List α}{i:Nat}{p:α}(h:ps[i]? = some p):ps.take (i + 1)=ps.take i ++ [p]:=by rw[Eu,h];rfl
theorem V1(ps:List (K×Ae)):∀ kvs,(all kvs ps).length<=kvs.length + ps.length:=by
 induction ps with
 | nil=>exact fun _=>Ai _
 | cons p ps ih=>exact fun kvs=>Ao (ih _) (by have:=VZ kvs p.1 p.2;rw[Ar];lia)
theorem call_pairs{l:Addr}{items:Array Ae}{c:Nat}{ps:List (K×Ae)}{Q:Ae->Ag->Prop}(hh:A.handled=none)(hx:s.heap.get? l=some {cls:=.type "list",data:=.seq items c})(hn:ps.length=items.size)(hz:items.size<=Ak)
  (hp:∀ (j:Nat) (p:K×Ae),ps[j]? = some p->∃ (a:Addr) (key:Ae),items[j]? = some (.ref a)/\s.heap.IsTuple a #[key,p.2]/\knd.is p.1 key=true)
  (h:∀ h' tk,(∀ b o,s.heap.get? b=some o->h'.get? b=some o)->h'.DictOf knd s.heap.objs.size (all [] ps)->Q (.ref s.heap.objs.size) {s with heap:=h',toks:=tk}) :
  Bh (Bq prog w) A (call (.type "dict") [.ref l]) Q E s:=by
 refine callG (Dd:=fun i h=>h.DictOf knd s.heap.objs.size (all [] (ps.take i))) hh hx (Heap.DictOf.new s.heap) (fun⟨o,es,ep,ho,rest⟩ hm=>⟨o,es,ep,hm _ o (Ai _) ho,rest⟩) (fun {i t} hi hd _=>?_) fun h' tk e d=>h h' tk e (by rw[<-hn,Ck] at d;exact d)
 obtain⟨p,hpi⟩:∃ p,ps[i]? = some p:=⟨_,Ax (by lia)⟩
 obtain⟨a,key,g1,g2,g3⟩:=hp i p hpi
 have len:=V1 (ps.take i) []
 rw[Bj,Fm] at len
 refine⟨a,key,p.2,g1,g2,fun k=>wpAny_dictSet_pairs g3 hd (fun h2 d2 s2=>k h2 _ ?_ s2) (by lia)⟩
 rw[take_at hpi,all,Ip];exact d2
end
end Dp
end PySem
namespace L3
open PySem PySem.Spec PyProof.Rows L2
section
variable {X:Cx}
def sO(kvs:List (aG×W))(ps:List (aG×W)):List (aG×W):=ps.foldl (fun kvs p=>cE kvs p.1 p.2) kvs
def sP(ps:List (aG×W)):List W:=ps.map fun p=>.tup [wK p.1,p.2]
theorem GG{pins:List (Addr×Obj)}{σ:L2.St}{H:Hp}{M:Mm}{s:Ag}(I:L2.Inv X pins σ H s):∀ {ps:List (aG×W)} {vs:List V} {its:List Ae},aL X.K H M vs (sP ps)->a5 vs its->
  ∃ (ks:List (aG×V)) (rs:List (aG×Ae)),bV X.K H M aG ks ps/\KV ks rs/\rs.length=its.length/\
   ∀ (j:Nat) (p:aG×Ae),rs[j]? = some p->∃ (a:Addr) (key:Ae),its[j]? = some (.ref a)/\s.heap.IsTuple a #[key,p.2]/\(dD X.prog X.w).is p.1 key=true
 | [],_,_,.nil,.nil=>⟨[],[],.nil,.nil,rfl,fun j p h=>by simp at h⟩
 | (k,w) :: ps,_,_,.cons av avs,.cons rv rvs=>by
  obtain⟨ks,rs,h1,h2,h3,h4⟩:=GG I avs rvs
  obtain⟨a,xs,ev,e,q⟩:=av.inv
  rw[ev] at rv
  obtain⟨u1,u2,ex,a1,a2⟩:=q.two
  obtain⟨its2,r2,pl,_⟩:=I.tuple (cD.of e)
  rw[ex,a1.key] at r2
  obtain⟨y1,y2,ey,x1,x2⟩:=vals2 r2
  rw[ey] at pl
  refine⟨(k,u2) :: ks,(k,y2) :: rs,.cons ⟨rfl,a2⟩ h1,.cons ⟨rfl,x2⟩ h2,congrArg (· + 1) h3,fun j p hj=>?_⟩
  cases j with
  | zero=>rw[<-Cj hj];exact⟨a,y1,congrArg some rv,pl,lE x1⟩
  | succ j=>exact h4 j p hj
theorem GH{H:Hp}{M:Mm}:∀ {ps:List (aG×W)} {ks:List (aG×V)} {rs:List (aG×Ae)} {kvs:List (aG×W)} {ls:List (aG×V)} {us:List (aG×Ae)},bV X.K H M aG ks ps->KV ks rs->bV X.K H M aG ls kvs->KV ls us->
  ∃ ls':List (aG×V),bV X.K H M aG ls' (sO kvs ps)/\KV ls' (Dp.all us rs)/\ls'.length<=ls.length + ps.length
 | [],_,_,_,ls,_,.nil,.nil,h1,h2=>⟨ls,h1,h2,Ai _⟩
 | p :: ps,_,_,_,ls,_,.cons (a:=a) x r,.cons (b:=b) y t,h1,h2=>by
  obtain⟨k,w⟩:=p
  obtain⟨k1,v⟩:=a
  obtain⟨k2,u⟩:=b
  obtain⟨x1,x2⟩:=x
  obtain⟨y1,y2⟩:=y
  cases x1;cases y1
  obtain⟨ls',g1,g2,g3⟩:=GH (kvs:=cE _ k w) r t (rT h1 k x2) (h2.put k y2)
  have:=oX ls k v
  exact⟨ls',g1,g2,by simp at g3 ⊢;lia⟩
def GJ:List W->Mm->K3->Prop
 | [.rl ws],M,R=>∃ ps:List (aG×W),ws=sP ps/\ws.length<=Ak/\R (.dk (sO [] ps)) M
 | _,_,_=>False
theorem V2(hc:X.calm=true):eD X (.type "dict") (iB X.K GJ):=by
 rintro pins s σ H xs us Q I rs ⟨ws,M,R,am,axs,h,k⟩
 match ws,h with
 | [.rl ws],h=>
  obtain⟨v,rfl,av⟩:=axs.one
  obtain⟨ps,rfl,hz,r⟩:=h
  obtain⟨u,rfl,ru⟩:=vals1 rs
  cases av with
  | rl f n q=>
   cases ru
   obtain⟨z,its,c,rv,hl,e⟩:=I.lstM f
   obtain⟨ks,rs',h1,h2,h3,h4⟩:=GG I q rv
   obtain⟨ls,g1,g2,g3⟩:=GH h1 h2 .nil .nil
   refine Dp.call_pairs (knd:=dD X.prog X.w) (items:=its.toArray) (ps:=rs') (I.ok.hd hc) e (by simpa using h3) (by rw[Aw];lia) (fun j p hj=>by simpa using h4 j p hj) fun h' tk hk hd=>?_
   have hz2:ps.length<=Ak:=by simpa [sP] using hz
   have hfr:=I.hok.fresh (Ai _)
   refine⟨.ref s.heap.objs.size,aR H s.heap.objs.size (.dK ls),I.laid (o:=.dK ls) (t':=tk) hk (Ai _) ⟨by simp at g3;lia,beq_eq_false_iff_ne.mpr (Cg (Bo I.big)),_,g2,hd⟩,rfl,?_⟩
   obtain⟨am2,k2⟩:=am.tup (u:=.dK ls) hfr
   exact k _ _ _ _ k2 am2 (.dk cZ (am.nonM hfr) g1.keys (g1.vals.newT hfr)) r
end
def cA(f:Str)(w:W):List (Str×W)->List (Str×W)
 | []=>[(f,w)]
 | (k,x) :: r=>if k=f then(k,w) :: r else(k,x) :: cA f w r
section
variable {K:Ab}{H:Hp}{M:Mm}
theorem bV.look{f:Str}{w:W}:∀ {gs:List (Str×V)} {fs:List (Str×W)},bV K H M Str gs fs->fs.lookup f=some w->∃ v,gs.lookup f=some v/\AV K H M v w
 | _,_,.nil,h=>by cases h
 | _,_,.cons (a:=(k,v)) (b:=(k',w')) r t,h=>by
  obtain⟨rfl,av⟩:=r
  by_cases hk:(f == k)=true
  ·simp only[Bz,hk] at h ⊢
   cases h
   exact⟨v,rfl,av⟩
  ·have hk':(f == k)=false:=by simpa using hk
   simp only[Bz,hk'] at h ⊢
   exact bV.look t h
theorem bV.lookN{f:Str}:∀ {gs:List (Str×V)} {fs:List (Str×W)},bV K H M Str gs fs->fs.lookup f=none->gs.lookup f=none
 | _,_,.nil,_=>rfl
 | _,_,.cons (a:=(k,v)) (b:=(k',w')) r t,h=>by
  obtain⟨rfl,av⟩:=r
  by_cases hk:(f == k)=true
  ·simp only[Bz,hk] at h
   cases h
  ·have hk':(f == k)=false:=by simpa using hk
   simp only[Bz,hk'] at h ⊢
   exact bV.lookN t h
theorem bV.putF{f:Str}{v:V}{w:W}(av:AV K H M v w):∀ {gs:List (Str×V)} {fs:List (Str×W)},bV K H M Str gs fs->bV K H M Str (L2.putF f v gs) (cA f w fs)
 | _,_,.nil=>.cons ⟨rfl,av⟩ .nil
 | _,_,.cons (a:=(k,v')) (b:=(k',w')) r t=>by
  obtain⟨rfl,av'⟩:=r
  show bV K H M Str (if k=f then(k,v) :: _ else(k,v') :: L2.putF f v _) (if k=f then(k,w) :: _ else(k,w') :: cA f w _)
  by_cases hk:k=f
  ·rw[if_pos hk,if_pos hk];exact .cons ⟨rfl,av⟩ t
  ·rw[if_neg hk,if_neg hk];exact .cons ⟨rfl,av'⟩ (bV.putF av t)
theorem bV.len{κ:Type}{gs:List (κ×V)}{fs:List (κ×W)}(h:bV K H M κ gs fs):gs.length=fs.length:=by
 have:=congrArg Cz h.keys
 simpa using this
end
section
variable {X:Cx}{C:Addr}{f m:Str}{pos apos cpos:Pos}{ta tv:aY}{o e value:Expr}{es:List Expr}{t:dE}{sp:bH}
def cY(C:Addr)(ta:aY)(f:Str):aY:=fun τ M R=>ta τ M fun x M1=>∃ a dx fs w,x=.ref a/\M1 a=some (.ins C dx fs)/\fs.lookup f=some w/\R w M1
theorem d4(c:gW X.K C)(n:f9 X.K C f)(he:E3 X o ta)(hb:Ik o f X.env (eval o X.env)=eval o X.env:=by rfl):E3 X (.Attribute o f pos) (cY C ta f):=
 (OY he hb).weak fun σ H Q z0=>z0.el fun τ M R as am h k=>⟨τ,M,_,as,am,h,fun x H1 wx M1 k1 am1 ax ⟨a,dx,fs,w,e1,e2,e3,r⟩=>by
  subst e1
  obtain rfl:=ax.inv
  obtain⟨gs,e4,q⟩:=am1 a _ e2
  obtain⟨v,e5,av⟩:=q.look e3
  exact⟨a,C,dx,gs,v,rfl,e4,c,n,e5,k _ _ _ _ k1 am1 av r⟩⟩
def jM(C:Addr)(ta:aY)(f:Str)(tv:aY):aI:=fun D τ M=>tv τ M fun y M1=>ta τ M1 fun x M2=>∃ a dx fs,x=.ref a/\M2 a=some (.ins C dx fs)/\fs.length < 1000/\D.nx τ (put M2 a (.ins C dx (cA f y fs)))
theorem j8(c:gW X.K C)(n:f9 X.K C f)(ha:E3 X o ta)(hv:E3 X value tv)(hs:Ir value (some (.Attribute o f apos)) pos.line X.env=pure false:=by rfl):P3 X (.Assign [.Attribute o f apos] value pos) (jM C ta f tv):=
 (OZ ha hv hs).weak fun D σ H z0=>z0.el fun τ M D' as am h k=>⟨τ,M,_,as,am,h,fun y H1 wy M1 k1 am1 ay h1=>⟨τ,M1,_,as.kp am k1,am1,h1,fun x H2 wx M2 k2 am2 ax ⟨a,dx,fs,e1,e2,hl,r⟩=>by
  subst e1
  obtain rfl:=ax.inv
  obtain⟨gs,e4,q⟩:=am2 a _ e2
  refine⟨a,C,dx,gs,rfl,e4,c,n,by rw[q.len];exact hl,?_⟩
  obtain⟨am3,k3⟩:=am2.write (o:=.ins C dx (cA f wy fs)) (u:=.ins C dx (L2.putF f y gs)) e2 ⟨_,cZ,((q.putF (ay.kp am1 k2))).go (nH am2 e2)⟩
  exact k.nx _ _ _ _ ((k1.trans k2).trans k3) am3 (((as.kp am k1).kp am1 k2).kp am2 k3) r⟩⟩
variable {k:Nat}{g:Addr}{fd:Bi}{ps:List Str}
def hW(C:Addr)(m:Str)(sp:bH)(ta:aY)(t:dE):aY:=fun τ M R=>ta τ M fun x M1=>∃ a dx fs,x=.ref a/\M1 a=some (.ins C dx fs)/\fs.lookup m=none/\t τ M1 fun ws M2=>sp (.ref a :: ws) M2 R
theorem V3{σ:SV}{H:Hp}{Q:VK}(h:up X.K (hW C m sp ta t) σ H Q):uV C m (fV X.K sp) [] E0 (up X.K ta) (nJ X.K t) σ H Q:=by
 obtain⟨τ,M,R,as,am,h,k⟩:=h
 refine⟨τ,M,_,as,am,h,fun x H1 wx M1 k1 am1 ax ⟨a,dx,fs,e1,e2,e3,h1⟩=>?_⟩
 subst e1
 obtain rfl:=ax.inv
 obtain⟨gs,e4,q⟩:=am1 a _ e2
 refine⟨a,dx,gs,rfl,e4,q.lookN e3,τ,M1,_,as.kp am k1,am1,h1,fun vs H2 ws M2 k2 am2 avs h2=>⟨.ref a :: ws,M2,R,am2,?_,h2,k.kp (k1.trans k2)⟩⟩
 rw[Ct]
 exact .cons (.ref a) avs
theorem lW{pl:Sem Bool}(c:gW X.K C)(hm:nE X.K C m g)(F:eV X.prog X.w X.K X.mg X.base e9 k g fd ps (fV X.K sp))(hr:cF k X.A)(hb:Binds X.K fd ps [])(he:E3 X o ta)(ha:A3 X (e :: es) t)
  (hst:Bg (e :: es) X.env=(false,eval e X.env) :: Bg es X.env:=by rfl) (hpl:(Gf pos (Bg es X.env)).any (·.1)=false:=by rfl)
  (ht:eval (.Call (.Attribute o m apos) (e :: es) [] pos) X.env=(do
   let ov <-eval o X.env
   Mc apos.atName
   let (f,first) <-Il [ov] (Md ov m pl)
   callWith pos f first (Gf pos (Bg (e :: es) X.env)) (backToKw pos (Kw [] X.env))):=by rfl) :
  E3 X (.Call (.Attribute o m apos) (e :: es) [] pos) (hW C m sp ta t):=(O9 (pl:=pl) he c hm F hr hb .nil lI ha hst hpl ht).weak fun _ _ _ h=>V3 h
theorem w5{pl:Sem Bool}(c:gW X.K C)(hm:nE X.K C m g)(F:eV X.prog X.w X.K X.mg X.base e9 k g fd ps (fV X.K sp))(hr:cF k X.A)(hb:Binds X.K fd ps [])(he:E3 X o ta)
  (ht:eval (.Call (.Attribute o m apos) [] [] pos) X.env=(do
   let ov <-eval o X.env
   Mc apos.atName
   let (f,first) <-Il [ov] (Md ov m pl)
   callWith pos f first (Gf pos (Bg [] X.env)) (backToKw pos (Kw [] X.env))):=by rfl) :
  E3 X (.Call (.Attribute o m apos) [] [] pos) (hW C m sp ta aD):=(PB (pl:=pl) he c hm F hr hb .nil lI ht).weak fun σ H Q h=>by
 obtain⟨τ,M,R,as,am,h,k⟩:=h
 refine⟨τ,M,_,as,am,h,fun x H1 wx M1 k1 am1 ax ⟨a,dx,fs,e1,e2,e3,h1⟩=>?_⟩
 subst e1
 obtain rfl:=ax.inv
 obtain⟨gs,e4,q⟩:=am1 a _ e2
 exact⟨a,dx,gs,rfl,e4,q.lookN e3,[.ref a],M1,R,am1,.cons (.ref a) .nil,h1,k.kp k1⟩
def sQ(C:Addr)(sp:bH)(t:dE):aY:=fun τ M R=>t τ M fun ws M1=>∀ a dx,M1 a=none->M1 dx=none->dx≠a->sp (.ref a :: ws) (put M1 a (.ins C dx [])) fun w M2=>w=.non/\R (.ref a) M2
theorem AM.made{K:Ab}{H:Hp}{M:Mm}{x dx:Addr}(am:AM K H M)(hx:H x=none)(hd:H dx=none)(ne:dx≠x):AM K (aR (aR H dx (.own x)) x (.ins C dx [])) (put M x (.ins C dx []))/\Kp H M (aR (aR H dx (.own x)) x (.ins C dx [])) (put M x (.ins C dx [])):=by
 obtain⟨am1,k1⟩:=am.tup (u:=.own x) hd
 have hx1:aR H dx (.own x) x=none:=by rw[bG (Cg ne)];exact hx
 obtain⟨am2,k2⟩:=am1.laid (o:=.ins C dx []) (u:=.ins C dx []) hx1 ⟨[],cZ,.nil⟩
 exact⟨am2,k1.trans k2⟩
theorem GK{H:Hp}{M:Mm}{R:K3}{Q:VK}{vs:List V}{ws:List W}(am:AM X.K H M)(avs:aL X.K H M vs ws)(h:∀ a dx,M a=none->M dx=none->dx≠a->sp (.ref a :: ws) (put M a (.ins C dx [])) fun w M2=>w=.non/\R (.ref a) M2)(k:Up X.K H M R Q) :
  ∀ x dx,H x=none->H dx=none->dx≠x->fV X.K sp (.ref x :: (vs ++ [])) (aR (aR H dx (.own x)) x (.ins C dx [])) (fun v H2=>v=.non/\Q (.ref x) H2) E0:=by
 intro x dx hx hd ne
 obtain⟨am1,k1⟩:=am.made (C:=C) hx hd ne
 refine⟨.ref x :: ws,_,_,am1,?_,h x dx (am.nonM hx) (am.nonM hd) ne,fun v H2 w M2 k2 am2 av r=>?_⟩
 ·rw[Ct];exact .cons (.ref x) (avs.kp am k1)
 ·obtain⟨rfl,r⟩:=r
  obtain rfl:=av.inv
  exact⟨rfl,k _ _ _ _ (k1.trans k2) am2 (.ref x) r⟩
theorem V4{x:Str}{p:Pos}(M:Mk X.K C g)(F:eV X.prog X.w X.K X.mg X.base e9 k g fd ps (fV X.K sp))(hr:cF (k + 1) X.A)(hg:Gl X x)(hm:X.mg x=some (.ref C))(hb:Binds X.K fd ps [])(ha:A3 X (e :: es) t)
  (hdb:(x == ("__debug__" : Str))=false:=by decide) (he:Bg (e :: es) X.env=(false,eval e X.env) :: Bg es X.env:=by rfl) (hpl:(Gf pos (Bg es X.env)).any (·.1)=false:=by rfl) :
  E3 X (.Call (.Name x p) (e :: es) [] pos) (sQ C sp t):=(PC M F hr hg hm hb .nil lI ha hdb he hpl).weak fun σ H Q z0=>z0.el fun τ M R as am h k=>⟨τ,M,_,as,am,h,fun vs H1 ws M1 k1 am1 avs h1=>GK am1 avs h1 (k.kp k1)⟩
theorem V5{x:Str}{p:Pos}(M:Mk X.K C g)(F:eV X.prog X.w X.K X.mg X.base e9 k g fd ps (fV X.K sp))(hr:cF (k + 1) X.A)(hg:Gl X x)(hm:X.mg x=some (.ref C))(hb:Binds X.K fd ps [])
  (hdb:(x == ("__debug__" : Str))=false:=by decide):E3 X (.Call (.Name x p) [] [] pos) (sQ C sp aD):=(PD M F hr hg hm hb .nil lI hdb).weak fun σ H Q z0=>z0.el fun τ M R as am h k=>GK am .nil h k
end
end L3
namespace L2
open PySem PySem.Spec PyProof.Rows
section
variable {prog:Bu}{w:Cm}{K:Type}[DecidableEq K]{knd:HeapKind prog w K}{A:Co}{E:Ae->Ag->Prop}{s:Ag}{d a:Addr}{k:K}{xs:List (K×Addr×Ae)}
theorem V6{y:Ae}{Q:Ae->Ag->Prop}(hu:knd.room A)(hkey:knd.is s.heap k a)(hm:s.heap.DictOfH knd d xs)(hsz:xs.length<=Ak)
  (h1:∀ p,Lf xs k=some p->Q p.2 {s with toks:=s.toks + knd.draws k})
  (h2:Lf xs k=none->∀ h',h'.DictOfH knd d (Mb xs k a y)->Ei d s.heap h'->Q y {s with heap:=h',toks:=s.toks + knd.draws k}) :
  Bh (Bq prog w) A (dictSetDefault d (.ref a) y) Q E s:=by
 obtain⟨o,es,ep,ho,hc,hd,he,his,hn⟩:=hm
 unfold dictSetDefault
 refine Dq (Ac (knd.pyHash hu hkey (Ac (wpAny_dictFind_heap (s:={s with toks:=s.toks + knd.draws k}) hu hkey ho hd he his hn (fun hno=>?_) fun j p hj=>?_))))
 ·have hk:=atKey_none_of_get hno
  have hnot:k∉xs.map (·.1):=not_mem_keys_of_get hno
  refine Ac (Jl (Ac (wpAny_updateDictKeys (hz:=by have e:=Lu he;lia) (s:={s with toks:=s.toks + knd.draws k}) ho hd (Am (h2 hk _ ⟨_,_,ep + 1,Gb _ ho (Obj.isFreed_of_dict (Jj hd _)),
   hc.mapDictKeys _,Jj hd _,?_,fun x hx=>?_,?_⟩ (El ..))))))
  ·rw[storedH_new hk]
   simp[he,entryOfKey]
  ·rw[storedH_new hk] at hx
   rcases Be.mp hx with q | q
   ·exact knd.keeps (his x q) ho hd (El ..)
   ·obtain rfl:=An.mp q
    exact knd.keeps hkey ho hd (El ..)
  ·rw[storedH_new hk,Bf,Ew]
   refine⟨hn,by simp,fun x hx y hy=>?_⟩
   simp only[Bc,Jp,An] at hy
   subst hy
   exact fun e=>hnot (e ▸ hx)
 ·refine Ac (Hq (s:={s with toks:=s.toks + knd.draws k}) ho hd ?_)
  rw[entry_at he j,hj]
  exact Ac (Jl (Am (h1 p (atKey_of_get hn hj))))
theorem GL:∀ {xs:List (K×Addr×Ae)} {j:Nat} {p:Addr×Ae},(xs.map (·.1)).Nodup->xs[j]? = some (k,p)->xs.eraseIdx j=xs.filter fun x=>decide (x.1≠k)
 | [],j,p,_,h=>by simp at h
 | x :: r,0,p,hn,h=>by
  have e:x=(k,p):=by simpa using h
  subst e
  rw[Bc,Dy] at hn
  rw[List.eraseIdx_zero,List.tail_cons,List.filter_cons_of_neg (by simp)]
  refine(List.filter_eq_self.mpr fun y hy=>?_).symm
  rw[decide_eq_true_eq]
  exact fun e=>hn.1 (Ba.mpr ⟨y,hy,e⟩)
 | x :: r,j + 1,p,hn,h=>by
  rw[Bc,Dy] at hn
  have hj:r[j]? = some (k,p):=by simpa using h
  have hx:x.1≠k:=fun e=>hn.1 (Ba.mpr ⟨(k,p),Bn hj,e.symm⟩)
  rw[List.eraseIdx_cons_succ,GL hn.2 hj,List.filter_cons_of_pos (by simpa using hx)]
theorem V7{v:Ae}{b:Addr}{Q:Option Ho->Ag->Prop}(hu:knd.room A)(hkey:knd.is s.heap k a)(hm:s.heap.DictOfH knd d xs)(hsz:xs.length<=Ak)(hv:Lf xs k=some (b,v))
  (h:∀ h',h'.DictOfH knd d (xs.filter fun x=>decide (x.1≠k))->Ei d s.heap h'->Q (some ⟨knd.hash k,.ref b,v⟩) {s with heap:=h',toks:=s.toks + knd.draws k}) :
  Bh (Bq prog w) A (Builtin.Dict.takeOut d (.ref a)) Q E s:=by
 obtain⟨o,es,ep,ho,hc,hd,he,his,hn⟩:=hm
 unfold Builtin.Dict.takeOut
 refine Dq (Ac (knd.pyHash hu hkey (Ac (wpAny_dictFind_heap (s:={s with toks:=s.toks + knd.draws k}) hu hkey ho hd he his hn (fun hno=>?_) fun j p hj=>?_))))
 ·rw[atKey_none_of_get hno] at hv;cases hv
 ·rw[atKey_of_get hn hj] at hv
  cases hv
  have hej:=GL hn hj
  refine Ac (Hq (s:={s with toks:=s.toks + knd.draws k}) ho hd ?_)
  rw[entry_at he j,hj]
  refine Ac (wpAny_updateDictKeys (hz:=by have e:=Lu he;lia) (s:={s with toks:=s.toks + knd.draws k}) ho hd (Am (h _ ⟨_,_,ep + 1,Gb _ ho (Obj.isFreed_of_dict (Jj hd _)),
   hc.mapDictKeys _,Jj hd _,?_,fun x hx=>knd.keeps (his x (Dh.mp hx).1) ho hd (El ..),?_⟩ (El ..))))
  ·rw[<-hej]
   have e2:(xs.eraseIdx j).map (entryOfKey knd)=(xs.map (entryOfKey knd)).eraseIdx j:=by simp[List.eraseIdx_eq_take_drop_succ,Kj,Jd]
   rw[e2,<-he]
   obtain⟨l⟩:=es
   simp
  ·exact hn.sublist (List.filter_sublist.map _)
end
section
variable {X:Cx}{pins:List (Addr×Obj)}{σ:St}{H:Hp}{s:Ag}{a b:Addr}{v:V}{r:Ae}{A:Co}{E:Ae->Ag->Prop}{kvs:List (List aG×V)}{k:List aG}
theorem KT.drop{xs:List (List aG×Addr×Ae)}(rel:KT H kvs xs)(k:List aG):KT H (mE kvs k) (xs.filter fun x=>decide (x.1≠k)):=by
 induction rel with
 | nil=>exact .nil
 | @cons p q ps qs h t ih=>
  unfold mE at ih ⊢
  rw[Em,Em,<-h.1]
  split
  ·exact .cons h ih
  ·exact ih
theorem V8{Q:Ae->Ag->Prop}(hu:A.units + 1 < Ff)(I:Inv X pins σ H s)(e:H a=some (.dT kvs))(eb:H b=some (.tup (k.map kV)))(rv:RelV v r)(hl:kvs.length < Ak)
  (h1:∀ v0 w' s',gA kvs k=some v0->Inv X pins σ H s'->RelV v0 w'->Q w' s') (h2:gA kvs k=none->∀ s',Inv X pins σ (aR H a (.dT (eY kvs k v))) s'->Q r s') :
  Bh (Bq X.prog X.w) A (call (.builtin "dict.setdefault") [.ref a,.ref b,r]) Q E s:=by
 obtain⟨z,hd,xs,rel,dd⟩:=rE I.hok e
 have hz:xs.length<=Ak:=by rw[<-Dw rel];exact z
 have hv:=rel.val k
 refine Kg PySem.F.slot_dict_setdefault dd.typeIs PySem.F.entry_dict_setdefault (PySem.F.args_dict_setdefault_3 _ _ _)
  (S:=fun A R s1=>(Fs (dD X.prog X.w)).room A.in1/\(Fs (dD X.prog X.w)).is s1.heap k b/\s1.heap.DictOfH (Fs (dD X.prog X.w)) a xs/\
   (∀ p,Lf xs k=some p->R (.ok (.ret p.2)) {s1 with toks:=s1.toks + (k.length + 1)})/\
   (Lf xs k=none->∀ h',h'.DictOfH (Fs (dD X.prog X.w)) a (Mb xs k b r)->Ei a s1.heap h'->R (.ok (.ret r)) {s1 with heap:=h',toks:=s1.toks + (k.length + 1)}))
  (.of_wp fun A R s1 ⟨q0,q1,q2,q3,q4⟩=>?_) ⟨Ep hu,jG I.hok eb,dd,fun p hp=>?_,fun hn h' dd' hs=>?_⟩
 ·unfold Mg.«dict.setdefault»
  refine Ac ?_
  unfold Builtin.Dict.keyAndDefault
  refine Ac (Jk q2.typeIs ?_)
  refine Am ?_
  dsimp only
  rw[if_neg (by rw[hd];exact Ap)]
  exact Ac (V6 q0 q1 q2 hz (fun p hp=>Am ⟨_,rfl,q3 p hp⟩) fun hn h' hm' hs'=>Am ⟨_,rfl,q4 hn h' hm' hs'⟩)
 ·rw[hp] at hv
  cases q:gA kvs k with
  | none=>rw[q] at hv;exact(show False from hv).elim
  | some v0=>rw[q] at hv;exact h1 v0 _ _ q (I.tok _) hv
 ·rw[hn] at hv
  have q:gA kvs k=none:=by
   cases q:gA kvs k with
   | none=>rfl
   | some v0=>rw[q] at hv;exact(show False from hv).elim
  have hl':(eY kvs k v).length<=Ak:=by have:=oX kvs k v;lia
  obtain⟨q1,es,ep,hq,g2,g3,g4,_,g5⟩:=dd'
  refine h2 q _ (oY (t':=s.toks + (k.length + 1)) I (by rw[e];exact True.intro) hs ⟨q1,hq⟩ ⟨hl',hd,_,(rel.put k eb rv).keeps fun c ys ec=>?_,q1,es,ep,hq,g2,g3,g4,g5⟩)
  rw[bG (qO ec e (fun z=>nomatch z))]
  exact ec
theorem V9{Q:Ae->Ag->Prop}(hu:A.units + 1 < Ff)(I:Inv X pins σ H s)(e:H a=some (.dT kvs))(eb:H b=some (.tup (k.map kV)))(l:gA kvs k=some v)
  (h:∀ w' s',Inv X pins σ (aR H a (.dT (mE kvs k))) s'->RelV v w'->Q w' s'):Bh (Bq X.prog X.w) A (call (.builtin "dict.pop") [.ref a,.ref b]) Q E s:=by
 obtain⟨z,hd,xs,rel,dd⟩:=rE I.hok e
 have hz:xs.length<=Ak:=by rw[<-Dw rel];exact z
 obtain⟨w',hw,rw'⟩:=fU.some_of (v:=v) (o:=(Lf xs k).map (·.2)) (by rw[<-l];exact rel.val k)
 obtain⟨⟨c,w2⟩,hc,rfl⟩:=Bk.mp hw
 refine Kg PySem.F.slot_dict_pop dd.typeIs PySem.F.entry_dict_pop (PySem.F.args_dict_pop_2 _ _)
  (S:=fun A R s1=>(Fs (dD X.prog X.w)).room A.in1/\(Fs (dD X.prog X.w)).is s1.heap k b/\s1.heap.DictOfH (Fs (dD X.prog X.w)) a xs/\
   ∀ h',h'.DictOfH (Fs (dD X.prog X.w)) a (xs.filter fun x=>decide (x.1≠k))->Ei a s1.heap h'->R (.ok (.ret w2)) {s1 with heap:=h',toks:=s1.toks + (k.length + 1)})
  (.of_wp fun A R s1 ⟨q0,q1,q2,q3⟩=>?_) ⟨Ep hu,jG I.hok eb,dd,fun h' dd' hs=>?_⟩
 ·unfold Mg.«dict.pop»
  refine Ac ?_
  unfold Builtin.Dict.keyAndDefault
  refine Ac (Jk q2.typeIs ?_)
  refine Am ?_
  dsimp only
  rw[if_neg (show ¬ ((keyPart (Value.ref b)).isSome=true) from Ap)]
  obtain⟨o,es,ep,ho,hc',hd',he,his,hn⟩:=id q2
  have hne:es.isEmpty=false:=by
   have h1:=Lu he
   cases xs with
   | nil=>cases hc
   | cons x r=>rw[Array.isEmpty_eq_false_iff];intro z;rw[z] at h1;simp at h1
  refine Ac (Hq ho hd' ?_)
  refine Ac (Am ?_)
  rw[hne,if_neg Ap]
  refine Ac (V7 q0 q1 q2 hz hc fun h' hm' hs'=>?_)
  rw[if_neg (by simp)]
  exact Ac (wpAny_letGo (Am ⟨_,rfl,q3 h' hm' hs'⟩))
 ·obtain⟨q1,es,ep,hq,g2,g3,g4,_,g5⟩:=dd'
  refine h w2 _ (oY (t':=s.toks + (k.length + 1)) I (by rw[e];exact True.intro) hs ⟨q1,hq⟩ ⟨Ao (Q3 kvs k) z,hd,_,(rel.drop k).keeps fun c ys ec=>?_,q1,es,ep,hq,g2,g3,g4,g5⟩) rw'
  rw[bG (qO ec e (fun z=>nomatch z))]
  exact ec
end
end L2
namespace L3
open PySem PySem.Spec PyProof.Rows L2
section
variable {X:Cx}
def sR:W->List W->Mm->K3->Prop
 | d,[y],M,R=>∃ o,fA M d y o/\R (o.getD .non) M
 | d,[y,v],M,R=>∃ o,fA M d y o/\R (o.getD v) M
 | _,_,_,_=>False
theorem w6(hu:X.A.units + 1 < Ff):iX X "dict.get" (jW X.K sR):=by
 rintro pins s σ H x xs v us Q I rx rs ⟨wx,ws,M,R,am,ax,axs,h,k⟩
 match ws,h with
 | [y],h=>
  obtain⟨z,rfl,az⟩:=axs.one
  obtain⟨o,g,r⟩:=h
  obtain⟨a,rfl,g2⟩:=rV am ax az g
  cases rx
  obtain⟨u,rfl,ru⟩:=rs.one
  rcases g2 with⟨rfl,g3⟩ | ⟨v0,w0,rfl,g3,av⟩
  ·exact DW hu I g3 ru fun w' s' I' rw'=>⟨_,H,I',rw',k.at am .non r⟩
  ·exact DW hu I g3 ru fun w' s' I' rw'=>⟨_,H,I',rw',k.at am av r⟩
 | [y,v1],h=>
  obtain⟨z,z1,rfl,az,az1⟩:=axs.two
  obtain⟨o,g,r⟩:=h
  obtain⟨a,rfl,g2⟩:=rV am ax az g
  cases rx
  obtain⟨u,u1,rfl,ru,ru1⟩:=vals2 rs
  rcases g2 with⟨rfl,g3⟩ | ⟨v0,w0,rfl,g3,av⟩
  ·exact DX hu I g3 ru ru1 fun w' s' I' rw'=>⟨_,H,I',rw',k.at am az1 r⟩
  ·exact DX hu I g3 ru ru1 fun w' s' I' rw'=>⟨_,H,I',rw',k.at am av r⟩
def pU:W->List W->Mm->K3->Prop
 | .ref a,[.tup ks,v],M,R=>∃ kvs k,M a=some (.dT kvs)/\ks=k.map wK/\kvs.length < Ak/\(∀ w,bA kvs k=some w->R w M)/\(bA kvs k=none->R v (put M a (.dT (cE kvs k v))))
 | _,_,_,_=>False
theorem GN(hu:X.A.units + 1 < Ff):iX X "dict.setdefault" (jW X.K pU):=by
 rintro pins s σ H x xs v us Q I rx rs ⟨wx,ws,M,R,am,ax,axs,h,k⟩
 match wx,ws,h with
 | .ref a,[.tup ks,v1],h=>
  obtain⟨z,z1,rfl,az,az1⟩:=axs.two
  obtain⟨kvs,kk,e,rfl,hl,h1,h2⟩:=h
  obtain rfl:=ax.inv
  cases rx
  obtain⟨u,u1,rfl,ru,ru1⟩:=vals2 rs
  obtain⟨gs,e1,q⟩:=am _ _ e
  cases az with
  | @tup b vs _ eb qb=>
   cases (show u=Value.ref b from ru)
   rw[qb.keys] at eb
   have lk:=rS q kk
   refine V8 hu I e1 eb ru1 (by rw[q.len];exact hl) (fun v0 w' s' e2 I' rw'=>?_) fun e2 s' I'=>?_
   ·rcases lk with⟨_,l2⟩ | ⟨v2,w2,l1,l2,av⟩
    ·rw[l2] at e2;cases e2
    ·rw[l2] at e2;cases e2
     exact⟨_,H,I',rw',k.at am av (h1 w2 l1)⟩
   ·rcases lk with⟨l1,l2⟩ | ⟨v2,w2,l1,l2,av⟩
    ·obtain⟨am3,k3⟩:=am.write (o:=.dT (cE kvs kk v1)) (u:=.dT (eY gs kk z1)) e ⟨_,cZ,(rT q kk az1).go (nH am e)⟩
     exact⟨_,_,I',ru1,k _ _ _ _ k3 am3 (az1.wr am e) (h2 l1)⟩
    ·rw[l2] at e2;cases e2
def i9{κ:Type}[DecidableEq κ](kvs:List (κ×W))(k:κ):List (κ×W):=kvs.filter fun kv=>decide (kv.1≠k)
theorem WA{κ:Type}[DecidableEq κ]{K:Ab}{H:Hp}{M:Mm}{gs:List (κ×V)}{kvs:List (κ×W)}(h:bV K H M κ gs kvs)(k:κ):bV K H M κ (mE gs k) (i9 kvs k):=by
 induction h with
 | nil=>exact .nil
 | @cons p q ps qs r t ih=>
  unfold mE i9 at ih ⊢
  rw[Em,Em,<-r.1]
  split
  ·exact .cons r ih
  ·exact ih
def GO:W->List W->Mm->K3->Prop
 | .ref a,[.tup ks],M,R=>∃ kvs k w,M a=some (.dT kvs)/\ks=k.map wK/\bA kvs k=some w/\R w (put M a (.dT (i9 kvs k)))
 | _,_,_,_=>False
theorem WB(hu:X.A.units + 1 < Ff):iX X "dict.pop" (jW X.K GO):=by
 rintro pins s σ H x xs v us Q I rx rs ⟨wx,ws,M,R,am,ax,axs,h,k⟩
 match wx,ws,h with
 | .ref a,[.tup ks],h=>
  obtain⟨z,rfl,az⟩:=axs.one
  obtain⟨kvs,kk,w,e,rfl,l,r⟩:=h
  obtain rfl:=ax.inv
  cases rx
  obtain⟨u,rfl,ru⟩:=rs.one
  obtain⟨gs,e1,q⟩:=am _ _ e
  cases az with
  | @tup b vs _ eb qb=>
   cases (show u=Value.ref b from ru)
   rw[qb.keys] at eb
   rcases rS q kk with⟨l1,l2⟩ | ⟨v2,w2,l1,l2,av⟩
   ·rw[l1] at l;cases l
   ·rw[l1] at l;cases l
    obtain⟨am3,k3⟩:=am.write (o:=.dT (i9 kvs kk)) (u:=.dT (mE gs kk)) e ⟨_,cZ,(WA q kk).go (nH am e)⟩
    exact V9 hu I e1 eb l2 fun w' s' I' rw'=>⟨_,_,I',rw',k _ _ _ _ k3 am3 (av.wr am e) r⟩
end
section
variable {K:Ab}{H:Hp}{M:Mm}
theorem WC(k:aG):AV K H M (kV k) (wK k):=by cases k <;> first | exact .int _ | exact .str _
theorem GP:∀ ks:List aG,aL K H M (ks.map kV) (ks.map wK)
 | []=>.nil
 | k :: r=>.cons (WC k) (GP r)
end
end L3
namespace PySem
namespace Zd
open PyProof.Rows L2 PySem.Spec Zt
section
variable {prog:Bu}{w:Cm}{A:Co}{E:Ae->Ag->Prop}{s:Ag}
variable {z TI TO i1 i2 l1 l2:Addr}{xs ys:Array Ae}{S1 S2:Nat->Heap->Prop}
abbrev TK(prog:Bu)(w:Cm):=Fs (dD prog w)
def allH(es:List (List aG×Addr×Ae))(ps:List (List aG×Addr×Ae)):List (List aG×Addr×Ae):=ps.foldl (fun es p=>Mb es p.1 p.2.1 p.2.2) es
theorem GQ(es:List (List aG×Addr×Ae))(k:List aG)(a:Addr)(v:Ae):(Mb es k a v).length<=es.length + 1:=by
 unfold Mb
 split
 ·rw[Aa];lia
 ·rw[Af,Bl];exact Ai _
theorem w9{h h':Heap}{k:List aG}{a:Addr}(x:(TK prog w).is h k a)(e:∀ o,h.get? a=some o->h'.get? a=some o):(TK prog w).is h' k a:=by
 obtain⟨o,items,n,ho,r⟩:=x
 exact⟨o,items,n,e o ho,r⟩
end
end Zd
end PySem
namespace L2
open PySem PySem.Spec PyProof.Rows
def mU(ks:List (List aG×V))(ps:List (List aG×V)):List (List aG×V):=ps.foldl (fun k p=>eY k p.1 p.2) ks
theorem WD{H:Hp}{qs:List (List aG×Addr×V)}{ps:List (List aG×Addr×Ae)}(h:Fn (fun(q:List aG×Addr×V) (p:List aG×Addr×Ae)=>q.1=p.1/\q.2.1=p.2.1/\RelV q.2.2 p.2.2) qs ps) :
  ∀ {kvs:List (List aG×V)} {es:List (List aG×Addr×Ae)},(∀ q∈qs,H q.2.1=some (.tup (q.1.map kV)))->KT H kvs es->KT H (mU kvs (qs.map fun q=>(q.1,q.2.2))) (Zd.allH es ps):=by
 induction h with
 | nil=>intro kvs es _ k;exact k
 | @cons q p qs ps r t ih=>
  intro kvs es hq k
  obtain⟨q1,q2,q3⟩:=q
  obtain⟨p1,p2,p3⟩:=p
  obtain⟨rfl,rfl,r3⟩:=r
  exact ih (fun z hz=>hq z (Av _ hz)) (k.put q1 (hq _ Bb) r3)
theorem GR:∀ (ps:List (List aG×V)) (ks:List (List aG×V)),(mU ks ps).length<=ks.length + ps.length
 | [],ks=>Ai _
 | p :: ps,ks=>by
  have h1:=GR ps (eY ks p.1 p.2)
  have h2:=oX ks p.1 p.2
  show(mU (eY ks p.1 p.2) ps).length<=ks.length + (ps.length + 1)
  lia
end L2
namespace L3
open PySem PySem.Spec PyProof.Rows L2
def nY(kvs:List (List aG×W))(ps:List (List aG×W)):List (List aG×W):=ps.foldl (fun kvs p=>cE kvs p.1 p.2) kvs
structure Dm(K:Ab)(C:Addr)(x qual:Str)(st:Stmt)(ps:List Str)(f:Addr)(fd:Bi):Prop where
 fn:jH K x qual st f fd
 me:nE K C x f
 bi:Binds K fd ps []
structure Di(K:Ab)(C:Addr)(x qual:Str)(st:Stmt)(ps:List Str)(f:Addr)(fd:Bi):Prop where
 fn:jH K x qual st f fd
 mak:Mk K C f
 bi:Binds K fd ps []
theorem WE{A:Co}{k:Nat}(hr:cF k A):A.units + 2 < Ff:=by have:=hr.un;lia
end L3
namespace L2
open PySem PySem.Spec PyProof.Rows
def gS(a b:Int×Int):Bool:=decide (a.1 < b.1) || (decide (a.1=b.1) && decide (a.2 < b.2))
section
variable {prog:Bu}{w:Cm}{A:Co}{E:Ae->Ag->Prop}{s:Ag}
theorem WG{a b:Addr}{oa ob:Obj}{xs ys:Array Ae}{na nb:Nat}{x1 x2 y1 y2:Int}{t1 t2 u1 u2:Tok}{Q:Ae->Ag->Prop}(hu:A.units + 1 < Ff)(hoa:s.heap.get? a=some oa)(hca:oa.cls=.type "tuple")(hda:oa.data=.seq xs na)(hob:s.heap.get? b=some ob)(hcb:ob.cls=.type "tuple")(hdb:ob.data=.seq ys nb)
  (ex:xs.toList=[.int x1 t1,.int x2 t2]) (ey:ys.toList=[.int y1 u1,.int y2 u2]) (h:Q (.bool (gS (x1,x2) (y1,y2))) s):Bh (Bq prog w) A (Ci .Lt (.ref a) (.ref b)) Q E s:=by
 have hTa:s.TypeIs (.ref a) "tuple":=⟨oa,hoa,hca⟩
 have hTb:s.TypeIs (.ref b) "tuple":=⟨ob,hob,hcb⟩
 show Bh _ _ (richCompare .Lt (.ref a) (.ref b)) Q E s
 refine wpAny_richCompare_same_room (op:=.Lt) hTa hTb PySem.F.slot_tuple_lt (Fi PySem.F.slot_tuple_lt hTa PySem.F.entry_tuple_lt ?_ (PySem.F.args_tuple_lt_2 _ _)) (Nat.lt_of_succ_lt hu)
 show Bh _ _ (isInstance (.ref b) (.type "tuple") >>= _) _ _ s
 refine Ac (Ld hTb isSubtype_tuple_tuple ?_)
 simp only[Jf,Ek,if_false]
 refine Ac (Kk hoa hda ?_)
 refine Ac (Kk hob hdb ?_)
 refine Ac ?_
 rw[ex,ey]
 show Bh _ _ (forIn [(Value.int x1 t1,Value.int y1 u1),(Value.int x2 t2,Value.int y2 u2)] _ _) _ _ s
 have hsz:xs.size=2/\ys.size=2:=by
  have h1:=congrArg Cz ex
  have h2:=congrArg Cz ey
  simp at h1 h2
  exact⟨h1,h2⟩
 refine wpAny_forIn_list _
  (fun rest q s'=>q.1=none/\s'=s/\(rest=[(Value.int x1 t1,Value.int y1 u1),(Value.int x2 t2,Value.int y2 u2)]\/(rest=[(Value.int x2 t2,Value.int y2 u2)]/\x1=y1)\/(rest=[]/\x1=y1/\x2=y2)))
  _ ?_ ?_ _ _ ⟨rfl,rfl,.inl rfl⟩
 ·rintro⟨u,v⟩ rest q s' ⟨hq,rfl,hc⟩
  rcases hc with z | ⟨z,e1⟩ | ⟨z,_⟩
  ·simp only[Dn,Dj] at z
   obtain⟨⟨rfl,rfl⟩,rfl⟩:=z
   refine Ac (Jm ?_)
   by_cases e1:x1=y1
   ·rw[show(x1 == y1)=true by simpa using e1]
    simp only[Jf,Ek,if_false]
    exact Am ⟨rfl,rfl,by simp[e1]⟩
   ·rw[show(x1 == y1)=false by simpa using e1]
    simp only[Lm,if_true]
    have e:gS (x1,x2) (y1,y2)=decide (x1 < y1):=by simp[gS,e1]
    rw[e] at h
    refine Ac (Jl (Ac (PyProof.Rows.lt_int ?_)))
    exact Ac (Am (Am (Am ⟨_,rfl,(fun e=>nomatch e),h⟩)))
  ·simp only[Dn,Dj] at z
   obtain⟨⟨rfl,rfl⟩,rfl⟩:=z
   refine Ac (Jm ?_)
   by_cases e2:x2=y2
   ·rw[show(x2 == y2)=true by simpa using e2]
    simp only[Jf,Ek,if_false]
    exact Am ⟨rfl,rfl,by simp[e1,e2]⟩
   ·rw[show(x2 == y2)=false by simpa using e2]
    simp only[Lm,if_true]
    have e:gS (x1,x2) (y1,y2)=decide (x2 < y2):=by simp[gS,e1]
    rw[e] at h
    refine Ac (Jl (Ac (PyProof.Rows.lt_int ?_)))
    exact Ac (Am (Am (Am ⟨_,rfl,(fun e=>nomatch e),h⟩)))
  ·cases z
 ·rintro⟨q1,q2⟩ s' ⟨hq,rfl,hc⟩
  simp only at hq
  subst hq
  rcases hc with z | ⟨z,_⟩ | ⟨_,e1,e2⟩
  ·cases z
  ·cases z
  ·refine Am ⟨_,rfl,(fun e=>nomatch e),?_⟩
   subst e1;subst e2
   have e:gS (x1,x2) (x1,x2)=decide (xs.size < ys.size):=by rw[hsz.1,hsz.2];simp[gS]
   rw[e] at h
   exact h
theorem WH{a b:Addr}{oa ob:Obj}{xs ys:Array Ae}{na nb:Nat}{x1 x2 y1 y2:Int}{t1 t2 u1 u2:Tok}{Q:Ae->Ag->Prop}(hu:A.units + 1 < Ff)(hoa:s.heap.get? a=some oa)(hca:oa.cls=.type "tuple")(hda:oa.data=.seq xs na)(hob:s.heap.get? b=some ob)(hcb:ob.cls=.type "tuple")(hdb:ob.data=.seq ys nb)
  (ex:xs.toList=[.int x1 t1,.int x2 t2]) (ey:ys.toList=[.int y1 u1,.int y2 u2]) (h:Q (.bool (gS (y1,y2) (x1,x2))) s):Bh (Bq prog w) A (Ci .Gt (.ref a) (.ref b)) Q E s:=by
 have hTa:s.TypeIs (.ref a) "tuple":=⟨oa,hoa,hca⟩
 have hTb:s.TypeIs (.ref b) "tuple":=⟨ob,hob,hcb⟩
 show Bh _ _ (richCompare .Gt (.ref a) (.ref b)) Q E s
 refine wpAny_richCompare_same_room (op:=.Gt) hTa hTb PySem.F.slot_tuple_gt (Fi PySem.F.slot_tuple_gt hTa PySem.F.entry_tuple_gt ?_ (PySem.F.args_tuple_gt_2 _ _)) (Nat.lt_of_succ_lt hu)
 show Bh _ _ (isInstance (.ref b) (.type "tuple") >>= _) _ _ s
 refine Ac (Ld hTb isSubtype_tuple_tuple ?_)
 simp only[Jf,Ek,if_false]
 refine Ac (Kk hoa hda ?_)
 refine Ac (Kk hob hdb ?_)
 refine Ac ?_
 rw[ex,ey]
 show Bh _ _ (forIn [(Value.int x1 t1,Value.int y1 u1),(Value.int x2 t2,Value.int y2 u2)] _ _) _ _ s
 have hsz:xs.size=2/\ys.size=2:=by
  have h1:=congrArg Cz ex
  have h2:=congrArg Cz ey
  simp at h1 h2
  exact⟨h1,h2⟩
 refine wpAny_forIn_list _
  (fun rest q s'=>q.1=none/\s'=s/\(rest=[(Value.int x1 t1,Value.int y1 u1),(Value.int x2 t2,Value.int y2 u2)]\/(rest=[(Value.int x2 t2,Value.int y2 u2)]/\x1=y1)\/(rest=[]/\x1=y1/\x2=y2)))
  _ ?_ ?_ _ _ ⟨rfl,rfl,.inl rfl⟩
 ·rintro⟨u,v⟩ rest q s' ⟨hq,rfl,hc⟩
  rcases hc with z | ⟨z,e1⟩ | ⟨z,_⟩
  ·simp only[Dn,Dj] at z
   obtain⟨⟨rfl,rfl⟩,rfl⟩:=z
   refine Ac (Jm ?_)
   by_cases e1:x1=y1
   ·rw[show(x1 == y1)=true by simpa using e1]
    simp only[Jf,Ek,if_false]
    exact Am ⟨rfl,rfl,by simp[e1]⟩
   ·rw[show(x1 == y1)=false by simpa using e1]
    simp only[Lm,if_true]
    have e:gS (y1,y2) (x1,x2)=decide (y1 < x1):=by simp[gS,Cg e1]
    rw[e] at h
    refine Ac (Jl (Ac (PyProof.Rows.gt_int ?_)))
    exact Ac (Am (Am (Am ⟨_,rfl,(fun e=>nomatch e),h⟩)))
  ·simp only[Dn,Dj] at z
   obtain⟨⟨rfl,rfl⟩,rfl⟩:=z
   refine Ac (Jm ?_)
   by_cases e2:x2=y2
   ·rw[show(x2 == y2)=true by simpa using e2]
    simp only[Jf,Ek,if_false]
    exact Am ⟨rfl,rfl,by simp[e1,e2]⟩
   ·rw[show(x2 == y2)=false by simpa using e2]
    simp only[Lm,if_true]
    have e:gS (y1,y2) (x1,x2)=decide (y2 < x2):=by simp[gS,e1]
    rw[e] at h
    refine Ac (Jl (Ac (PyProof.Rows.gt_int ?_)))
    exact Ac (Am (Am (Am ⟨_,rfl,(fun e=>nomatch e),h⟩)))
  ·cases z
 ·rintro⟨q1,q2⟩ s' ⟨hq,rfl,hc⟩
  simp only at hq
  subst hq
  rcases hc with z | ⟨z,_⟩ | ⟨_,e1,e2⟩
  ·cases z
  ·cases z
  ·refine Am ⟨_,rfl,(fun e=>nomatch e),?_⟩
   subst e1;subst e2
   have e:gS (x1,x2) (x1,x2)=decide (xs.size > ys.size):=by rw[hsz.1,hsz.2];simp[gS]
   rw[e] at h
   exact h
end
section
variable {X:Cx}
def rInsert:V->List V->Hp->VK->Prop:=fun x vs H Q=>∃ l xs y i,x=.ref l/\vs=[.int (i:Nat),y]/\H l=some (.lst xs)/\xs.length < Ak/\i<=xs.length/\Q .non (aR H l (.lst (xs.take i ++ y :: xs.drop i)))
theorem a5.splitAt:∀ {xs:List V} {us:List Ae} (i:Nat),a5 xs us->a5 (xs.take i) (us.take i)/\a5 (xs.drop i) (us.drop i)
 | _,_,0,h=>⟨.nil,h⟩
 | _,_,i + 1,.nil=>⟨.nil,.nil⟩
 | _,_,i + 1,.cons r t=>by
  obtain⟨h1,h2⟩:=a5.splitAt i t
  exact⟨.cons r h1,h2⟩
theorem WI:rB X "list.insert" rInsert:=by
 intro pins s σ H x vs v us Q I rx rv h
 obtain⟨l,xs,y,i,rfl,rfl,hH,hz,hi,q⟩:=h
 cases rx
 obtain⟨u1,u2,rfl,r1,r2⟩:=vals2 rv
 obtain⟨tk,rfl⟩:=r1
 obtain⟨z,its,n,r,hl,e⟩:=I.lstM hH
 have hlen:its.length=xs.length:=r.length.symm
 have hs:Ak=16777216:=Kv
 have hc0:¬ (!Builtin.List.listFitsIndex ((i:Nat):Int))=true:=by
  have h1:Builtin.List.listFitsIndex ((i:Nat):Int)=true:=by
   unfold Builtin.List.listFitsIndex
   rw[Cr,decide_eq_true_eq,decide_eq_true_eq]
   lia
  rw[h1];decide
 have hs1:its.toArray.size<=Ak:=by rw[Aw];lia
 generalize hj:((i:Nat):Int)=j at hc0 e ⊢
 have hm:=PySem.AutoSeq1.list_insert_list_int_val_1 l its.toArray n j tk u2 hc0 hs1
 refine Jn F.slot_list_insert ⟨_,e,rfl⟩ F.entry_list_insert (F.args_list_insert_3 _ _ _) hm ⟨e,?_⟩
 obtain⟨h1,h2⟩:=a5.splitAt i r
 refine⟨.non,_,I.lset (its':=its.take i ++ u2 :: its.drop i) hH e ?_ (h1.append (.cons r2 h2)) ?_,rfl,q⟩
 ·have hk:(if j < 0 then(j + (its.toArray.size:Int)).toNat else min j.toNat its.toArray.size)=i:=by
   rw[<-hj,if_neg (by lia),Cu,Aw];lia
  show(its.toArray.extract 0 (if j < 0 then(j + (its.toArray.size:Int)).toNat else min j.toNat its.toArray.size)).push u2 ++ its.toArray.extract (if j < 0 then(j + (its.toArray.size:Int)).toNat else min j.toNat its.toArray.size)=_
  rw[hk]
  apply Array.toList_inj.mp
  simp[Array.toList_append,Array.toList_push]
  rw[Gs (by rw[Ds];lia)]
 ·rw[Af,Ar,Bj,Ds]
  lia
end
end L2
namespace L3
open PySem PySem.Spec PyProof.Rows L2
section
variable {X:Cx}
def xA:R3:=fun x y M R=>∃ a b c d:Int,x=.tup [.int a,.int b]/\y=.tup [.int c,.int d]/\R (.bl (gS (a,b) (c,d))) M
def GS:R3:=fun x y M R=>∃ a b c d:Int,x=.tup [.int a,.int b]/\y=.tup [.int c,.int d]/\R (.bl (gS (c,d) (a,b))) M
theorem sS{pins:List (Addr×Obj)}{σ:SV}{H:Hp}{M:Mm}{s:Ag}{x:V}{v:Ae}{a b:Int}(I:Inv X pins σ H s)(rx:RelV x v)(ax:AV X.K H M x (.tup [.int a,.int b])):∃ p o its n t u,v=.ref p/\s.heap.get? p=some o/\o.cls=.type "tuple"/\o.data=.seq its n/\its.toList=[.int a t,.int b u]:=by
 cases ax with
 | @tup p xs _ e q=>
  cases (show v=Value.ref p from rx)
  obtain⟨y,z,rfl,ay,az⟩:=q.two
  obtain rfl:=ay.inv
  obtain rfl:=az.inv
  obtain⟨_,its,r,o,h1,h2,m,h3⟩:=(show c9 X.prog X.w H s.heap p (.tup [.int a,.int b]) from I.hok p _ e)
  obtain⟨u1,u2,rfl,r1,r2⟩:=vals2 r
  obtain⟨t1,rfl⟩:=r1
  obtain⟨t2,rfl⟩:=r2
  exact⟨p,o,_,m,t1,t2,rfl,h1,h2,h3,by simp⟩
theorem GU(hu:X.A.units + 1 < Ff):bD X (Ci .Lt) (cX X.K xA):=by
 rintro pins s σ H x y v u Q I rx ry ⟨wx,wy,M,R,am,ax,ay,⟨a,b,c,d,rfl,rfl,r⟩,k⟩
 obtain⟨p,o,its,n,t1,t2,rfl,h1,h2,h3,h4⟩:=sS I rx ax
 obtain⟨p',o',its',n',t1',t2',rfl,g1,g2,g3,g4⟩:=sS I ry ay
 exact WG hu h1 h2 h3 g1 g2 g3 h4 g4 ⟨.bl _,H,I,rfl,k.at am (.bl _) r⟩
theorem WJ(hu:X.A.units + 1 < Ff):bD X (Ci .Gt) (cX X.K GS):=by
 rintro pins s σ H x y v u Q I rx ry ⟨wx,wy,M,R,am,ax,ay,⟨a,b,c,d,rfl,rfl,r⟩,k⟩
 obtain⟨p,o,its,n,t1,t2,rfl,h1,h2,h3,h4⟩:=sS I rx ax
 obtain⟨p',o',its',n',t1',t2',rfl,g1,g2,g3,g4⟩:=sS I ry ay
 exact WH hu h1 h2 h3 g1 g2 g3 h4 g4 ⟨.bl _,H,I,rfl,k.at am (.bl _) r⟩
def GV:W->List W->Mm->K3->Prop
 | .ref l,[.int i,y],M,R=>∃ ws,M l=some (.lst ws)/\ws.length < Ak/\0<=i/\i<=ws.length/\R .non (put M l (.lst (ws.take i.toNat ++ y :: ws.drop i.toNat)))
 | _,_,_,_=>False
theorem GW{K:Ab}{H:Hp}{M:Mm}:∀ {vs:List V} {ws:List W} (i:Nat),aL K H M vs ws->aL K H M (vs.take i) (ws.take i)/\aL K H M (vs.drop i) (ws.drop i)
 | _,_,0,h=>⟨.nil,h⟩
 | _,_,i + 1,.nil=>⟨.nil,.nil⟩
 | _,_,i + 1,.cons r t=>by
  obtain⟨h1,h2⟩:=GW i t
  exact⟨.cons r h1,h2⟩
theorem WK:iX X "list.insert" (jW X.K GV):=by
 rintro pins s σ H x xs v us Q I rx rs ⟨wx,ws,M,R,am,ax,axs,h,k⟩
 match wx,ws,h with
 | .ref l,[.int i,y],h=>
  obtain⟨u,z,rfl,au,az⟩:=axs.two
  obtain rfl:=ax.inv
  obtain rfl:=au.inv
  obtain⟨ws,e,hl,h0,h1,r⟩:=h
  obtain⟨i,rfl⟩:=Dk h0
  obtain⟨vs,f,q⟩:=am.lst e
  obtain⟨q1,q2⟩:=GW i q
  rw[Cu] at r
  exact WI pins s σ H _ _ v us Q I rx rs ⟨l,vs,z,i,rfl,rfl,f,by rw[q.length];exact hl,by rw[q.length];lia,pD am k e (q1.append (.cons az q2)) .non r⟩
end
end L3
namespace Rg
open PySem PySem.Spec PyProof.Rows L2 L3
theorem nZ{κ:Type}[DecidableEq κ]{kvs:List (κ×W)}{k j:κ}{w:W}:bA (cE kvs k w) j=if k=j then some w else bA kvs j:=j6 kvs k j w
theorem mV{κ:Type}[DecidableEq κ](e:κ×W)(t:List (κ×W))(k:κ):bA (e :: t) k=if e.1=k then some e.2 else bA t k:=dS e t k
theorem sU{κ:Type}[DecidableEq κ]{k j:κ}:∀ {kvs:List (κ×W)},bA (i9 kvs k) j=if k=j then none else bA kvs j
 | []=>by unfold i9;rw[List.filter_nil];split <;> rfl
 | e :: t=>by
  have ih:=sU (k:=k) (j:=j) (kvs:=t)
  unfold i9 at ih ⊢
  rw[Em]
  by_cases h:e.1=k
  ·rw[if_neg (by simp[h]),ih,mV]
   by_cases hj:k=j
   ·rw[if_pos hj,if_pos hj]
   ·rw[if_neg hj,if_neg hj,if_neg (by rw[h];exact hj)]
  ·rw[if_pos (by simp[h]),mV,ih,mV]
   by_cases hj:k=j
   ·rw[if_pos hj,if_pos hj,if_neg (by rw[<-hj];exact h)]
   ·rw[if_neg hj,if_neg hj]
theorem xB{κ:Type}[DecidableEq κ](kvs:List (κ×W))(k:κ)(w:W):(cE kvs k w).length<=kvs.length + 1:=pN kvs k w
theorem GX{κ:Type}[DecidableEq κ]{k:κ}:∀ {kvs:List (κ×W)},(bA kvs k).isSome=true->(i9 kvs k).length < kvs.length
 | [],h=>by cases h
 | e :: t,h=>by
  unfold i9
  rw[Em]
  have hle:(t.filter fun kv=>decide (kv.1≠k)).length<=t.length:=Hd _ _
  by_cases he:e.1=k
  ·rw[if_neg (by simp[he]),Ar];lia
  ·rw[if_pos (by simp[he]),Ar,Ar]
   rw[mV,if_neg he] at h
   have:=GX h
   unfold i9 at this
   lia
structure eI{κ:Type}(kk:κ->List aG)(M0 M:Mm)(a:Addr)(kvs:List (List aG×W))(g:κ->Option (List W)):Prop where
 sub:L3.Sub M0 M
 new:M0 a=none
 at_:M a=some (.dT kvs)
 non:∀ k,g k=none->bA kvs (kk k)=none
 som:∀ k ws,g k=some ws->∃ p,bA kvs (kk k)=some (.ref p)/\p≠a/\M0 p=none/\M p=some (.lst ws)
 inj:∀ k j p,bA kvs (kk k)=some (.ref p)->bA kvs (kk j)=some (.ref p)->k=j
theorem gM{M0 M:Mm}{p:Addr}{o:MO}(h:L3.Sub M0 M)(n:M0 p=none):L3.Sub M0 (put M p o):=fun a u e=>by
 rw[aQ (fun z=>by rw[z,n] at e;cases e)];exact h a u e
section
variable {κ:Type}[DecidableEq κ]{kk:κ->List aG}{M0 M:Mm}{a p:Addr}{kvs:List (List aG×W)}{g:κ->Option (List W)}{o:MO}{k:κ}{ws:List W}
theorem eI.lift(h:eI kk M0 M a kvs g)(hp:M p=none\/∃ u,M0 p=some u):eI kk (put M0 p o) (put M p o) a kvs g:=by
 have ne:∀ {b:Addr},M0 b=none->(∃ u,M b=some u)->b≠p:=fun {b} h0 ⟨u,h1⟩ e=>by
  subst e
  rcases hp with z | ⟨v,z⟩
  ·rw[h1] at z;cases z
  ·rw[h0] at z;cases z
 refine⟨Sub.put h.sub,?_,?_,h.non,fun k ws e=>?_,h.inj⟩
 ·rw[aQ (ne h.new ⟨_,h.at_⟩)];exact h.new
 ·rw[aQ (ne h.new ⟨_,h.at_⟩)];exact h.at_
 ·obtain⟨q,h1,h2,h3,h4⟩:=h.som k ws e
  have:=ne h3 ⟨_,h4⟩
  exact⟨q,h1,h2,by rw[aQ this];exact h3,by rw[aQ this];exact h4⟩
theorem eI.more(h:eI kk M0 M a kvs g)(hp:M p=none):eI kk M0 (put M p o) a kvs g:=by
 have ne:∀ {b:Addr},(∃ u,M b=some u)->b≠p:=fun {b} ⟨u,h1⟩ e=>by subst e;rw[hp] at h1;cases h1
 refine⟨gM h.sub (h.sub.non hp),h.new,by rw[aQ (ne ⟨_,h.at_⟩)];exact h.at_,h.non,fun k ws e=>?_,h.inj⟩
 obtain⟨q,h1,h2,h3,h4⟩:=h.som k ws e
 exact⟨q,h1,h2,h3,by rw[aQ (ne ⟨_,h4⟩)];exact h4⟩
theorem eI.has(h:eI kk M0 M a kvs g)(e:g k=some ws):∃ p,bA kvs (kk k)=some (.ref p)/\M p=some (.lst ws):=by
 obtain⟨q,h1,_,_,h4⟩:=h.som k ws e
 exact⟨q,h1,h4⟩
theorem eI.look(h:eI kk M0 M a kvs g)(k:κ):(bA kvs (kk k)).isSome=(g k).isSome:=by
 cases e:g k with
 | none=>rw[h.non k e];rfl
 | some ws=>obtain⟨q,h1,_⟩:=h.has e;rw[h1];rfl
theorem eI.wr(h:eI kk M0 M a kvs g)(hk:bA kvs (kk k)=some (.ref p)):eI kk M0 (put M p (.lst ws)) a kvs (fun j=>if k=j then some ws else g j):=by
 obtain⟨ws0,e0⟩:∃ ws0,g k=some ws0:=by
  cases e:g k with
  | none=>rw[h.non k e] at hk;cases hk
  | some ws=>exact⟨_,rfl⟩
 obtain⟨q,h1,h2,h3,h4⟩:=h.som k ws0 e0
 rw[hk] at h1
 cases h1
 refine⟨gM h.sub h3,h.new,by rw[aQ (Cg h2)];exact h.at_,fun j e=>?_,fun j us e=>?_,h.inj⟩
 ·by_cases hj:k=j
  ·rw[if_pos hj] at e;cases e
  ·rw[if_neg hj] at e;exact h.non j e
 ·by_cases hj:k=j
  ·rw[if_pos hj] at e;cases e
   subst hj
   exact⟨p,hk,h2,h3,aT⟩
  ·rw[if_neg hj] at e
   obtain⟨q,g1,g2,g3,g4⟩:=h.som j us e
   refine⟨q,g1,g2,g3,?_⟩
   rw[aQ (fun z=>hj (h.inj k j p hk (by rw[<-z];exact g1)))];exact g4
theorem eI.add(hkk:∀ k j,kk k=kk j->k=j)(h:eI kk M0 M a kvs g)(hg:g k=none)(hp:M p=none):eI kk M0 (put (put M p (.lst ws)) a (.dT (cE kvs (kk k) (.ref p)))) a (cE kvs (kk k) (.ref p)) (fun j=>if k=j then some ws else g j):=by
 have ne:∀ {b:Addr},(∃ u,M b=some u)->b≠p:=fun {b} ⟨u,h1⟩ e=>by subst e;rw[hp] at h1;cases h1
 have hpa:p≠a:=Cg (ne ⟨_,h.at_⟩)
 have refs:∀ j q,bA kvs (kk j)=some (.ref q)->∃ u,M q=some u:=fun j q e=>by
  cases eg:g j with
  | none=>rw[h.non j eg] at e;cases e
  | some us=>
   obtain⟨q',g1,_,_,g4⟩:=h.som j us eg
   rw[e] at g1;cases g1
   exact⟨_,g4⟩
 refine⟨gM (gM h.sub (h.sub.non hp)) h.new,h.new,aT,fun j e=>?_,fun j us e=>?_,fun i j q e1 e2=>?_⟩
 ·by_cases hj:k=j
  ·rw[if_pos hj] at e;cases e
  ·rw[if_neg hj] at e
   rw[nZ,if_neg (fun z=>hj (hkk _ _ z))];exact h.non j e
 ·by_cases hj:k=j
  ·rw[if_pos hj] at e;cases e
   subst hj
   exact⟨p,by rw[nZ,if_pos rfl],hpa,h.sub.non hp,by rw[aQ hpa,aT]⟩
  ·rw[if_neg hj] at e
   obtain⟨q,g1,g2,g3,g4⟩:=h.som j us e
   exact⟨q,by rw[nZ,if_neg (fun z=>hj (hkk _ _ z))];exact g1,g2,g3,by rw[aQ g2,aQ (ne ⟨_,g4⟩)];exact g4⟩
 ·rw[nZ] at e1 e2
  by_cases h1:kk k=kk i
  ·by_cases h2:kk k=kk j
   ·exact(hkk _ _ h1).symm.trans (hkk _ _ h2)
   ·rw[if_pos h1] at e1;rw[if_neg h2] at e2;cases e1
    obtain⟨u,z⟩:=refs j p e2;rw[hp] at z;cases z
  ·by_cases h2:kk k=kk j
   ·rw[if_neg h1] at e1;rw[if_pos h2] at e2;cases e2
    obtain⟨u,z⟩:=refs i p e1;rw[hp] at z;cases z
   ·rw[if_neg h1] at e1;rw[if_neg h2] at e2
    exact h.inj i j q e1 e2
theorem eI.del(hkk:∀ k j,kk k=kk j->k=j)(h:eI kk M0 M a kvs g):eI kk M0 (put M a (.dT (i9 kvs (kk k)))) a (i9 kvs (kk k)) (fun j=>if k=j then none else g j):=by
 refine⟨gM h.sub h.new,h.new,aT,fun j e=>?_,fun j us e=>?_,fun i j q e1 e2=>?_⟩
 ·rw[sU]
  by_cases hj:k=j
  ·rw[if_pos (by rw[hj])]
  ·rw[if_neg hj] at e
   rw[if_neg (fun z=>hj (hkk _ _ z))];exact h.non j e
 ·by_cases hj:k=j
  ·rw[if_pos hj] at e;cases e
  ·rw[if_neg hj] at e
   obtain⟨q,g1,g2,g3,g4⟩:=h.som j us e
   exact⟨q,by rw[sU,if_neg (fun z=>hj (hkk _ _ z))];exact g1,g2,g3,by rw[aQ g2];exact g4⟩
 ·rw[sU] at e1 e2
  split at e1
  ·cases e1
  ·split at e2
   ·cases e2
   ·exact h.inj i j q e1 e2
theorem eI.same{g':κ->Option (List W)}(h:eI kk M0 M a kvs g)(e:∀ k,g' k=g k):eI kk M0 M a kvs g':=by
 have:g'=g:=funext e
 rw[this];exact h
end
structure Cc where
 q:Addr
 s:Addr
 f:Addr
 g:Addr
 p:Addr
 h:Addr
 i:Addr
 c:Addr
 t:Addr
def cW(c:aJ):W:=.tup [.int c.1,.int c.2]
def cK(c:aJ):List aG:=[Sum.inl c.1,Sum.inl c.2]
theorem WL(c:aJ):cW c=.tup ((cK c).map wK):=rfl
theorem GY:∀ a b:aJ,cK a=cK b->a=b:=fun a b h=>by
 unfold cK at h
 simp only[Dn,Jw,and_true] at h
 exact Prod.ext h.1 h.2
def fZ(cut:List Int):W:=.tup (cut.map W.int)
def jN(x:Nat×List Int):W:=.tup [.int x.1,fZ x.2]
section
variable {α:Type}
theorem sW{κ β:Type}[DecidableEq κ]{t:List (κ×β)}{k:κ}(h:∀ e∈t,e.1≠k):aH t k=none:=by
 induction t with
 | nil=>rfl
 | cons e t ih=>rw[dS,if_neg (h e Bb)];exact ih fun x hx=>h x (Av _ hx)
theorem sX{a b:aJ}(h:cL a b=true):a≠b:=fun e=>by subst e;exact pL h
theorem GZ(c:aJ)(x:α)(d:aJ):∀ {q:List (aJ×List α)},gR q->aH (dU c x q) d=if c=d then some ((aH q c).getD [] ++ [x]) else aH q d
 | [],_=>by rw[dU,dS];rfl
 | (e,xs) :: r,h=>by
  obtain⟨_,h2,h3⟩:=h
  rw[dU]
  by_cases h1:cL c e=true
  ·rw[if_pos h1,dS,GZ c x d h3,dS,dS,if_neg (Cg (sX h1))]
   by_cases hd:e=d
   ·rw[if_pos hd,if_pos hd,if_neg (fun z=>sX h1 (z.trans hd.symm))]
   ·rw[if_neg hd,if_neg hd]
  ·rw[if_neg h1]
   by_cases h4:e=c
   ·subst h4
    rw[if_pos rfl,dS,dS,dS,if_pos rfl]
    by_cases hd:e=d
    ·rw[if_pos hd,if_pos hd];rfl
    ·rw[if_neg hd,if_neg hd,if_neg hd]
   ·rw[if_neg h4,dS]
    have hn:aH ((e,xs) :: r) c=none:=sW fun z hz=>by
     rcases Ay.mp hz with y | y
     ·rw[y];exact h4
     ·intro e1
      have:=h2 z y
      rw[e1] at this
      exact h1 this
    rw[hn];rfl
def pos(c:aJ):List aJ->Nat
 | []=>0
 | d :: r=>if cL c d=true then pos c r + 1 else 0
theorem G0(c:aJ):∀ cs:List aJ,pos c cs<=cs.length
 | []=>Ai _
 | d :: r=>by
  rw[pos]
  split
  ·have:=G0 c r;simp;lia
  ·simp
theorem xC(c:aJ)(x:α):∀ {q:List (aJ×List α)},gR q->(aH q c).isSome=false->(dU c x q).map (·.1)=(q.map (·.1)).take (pos c (q.map (·.1))) ++ c :: (q.map (·.1)).drop (pos c (q.map (·.1)))
 | [],_,_=>rfl
 | (e,xs) :: r,h,hn=>by
  obtain⟨_,h2,h3⟩:=h
  rw[dS] at hn
  by_cases h4:e=c
  ·rw[if_pos h4] at hn;cases hn
  ·rw[if_neg h4] at hn
   rw[dU,Bc,pos]
   by_cases h1:cL c e=true
   ·rw[if_pos h1,if_pos h1,Bc,xC c x h3 hn];rfl
   ·rw[if_neg h1,if_neg h1,if_neg h4];rfl
theorem G2(c:aJ)(x:α):∀ {q:List (aJ×List α)},gR q->(aH q c).isSome=true->(dU c x q).map (·.1)=q.map (·.1)
 | [],_,h=>by cases h
 | (e,xs) :: r,h,hn=>by
  obtain⟨_,h2,h3⟩:=h
  rw[dS] at hn
  rw[dU]
  by_cases h1:cL c e=true
  ·rw[if_neg (Cg (sX h1))] at hn
   rw[if_pos h1,Bc,G2 c x h3 hn];rfl
  ·rw[if_neg h1]
   by_cases h4:e=c
   ·rw[if_pos h4];rfl
   ·rw[if_neg h4] at hn
    obtain⟨ys,hy⟩:=Cq.mp hn
    have:∃ z∈r,z.1=c:=by
     have:∀ {t:List (aJ×List α)},aH t c=some ys->∃ z∈t,z.1=c:=by
      intro t
      induction t with
      | nil=>intro e;cases e
      | cons b t ih=>
       intro e
       rw[dS] at e
       by_cases hb:b.1=c
       ·exact⟨b,Bb,hb⟩
       ·rw[if_neg hb] at e
        obtain⟨z,h1,h2⟩:=ih e
        exact⟨z,Av _ h1,h2⟩
     exact this hy
    obtain⟨z,hz,e1⟩:=this
    have:=h2 z hz
    rw[e1] at this
    exact absurd this h1
theorem xD:∀ {q:List (aJ×List α)},gR q->q.length<=(a6 q).length
 | [],_=>Ai _
 | (e,xs) :: r,h=>by
  obtain⟨h1,_,h3⟩:=h
  have:=xD h3
  have:=Fb.mpr h1
  rw[a6,Af,Aa,Ar];lia
theorem G3:∀ {q:List (aJ×List α)} {c:aJ},((aH q c).getD []).length<=(a6 q).length
 | [],_=>Ai _
 | (e,xs) :: r,c=>by
  rw[dS,a6,Af,Aa]
  split
  ·show xs.length<=_;lia
  ·have:=G3 (q:=r) (c:=c);lia
theorem G4:∀ {q q':List (aJ×List α)} {c:aJ} {x:α},gR q->hV q=some (c,x,q')->∃ r ys,q=r ++ [(c,ys ++ [x])]/\q'=(if ys.isEmpty then r else r ++ [(c,ys)])
 | [],q',c,x,_,h=>by cases h
 | [(d,xs)],q',c,x,hf,h=>by
  obtain⟨h1,_,_⟩:=hf
  rcases Ed xs with z | ⟨ys,y,z⟩
  ·exact absurd z h1
  ·rw[Ee] at z
   subst z
   simp[hV] at h
   obtain⟨rfl,rfl,rfl⟩:=h
   refine⟨[],ys,rfl,?_⟩
   cases ys <;> simp
 | e :: e2 :: r,q',c,x,hf,h=>by
  obtain⟨_,_,h3⟩:=hf
  rw[hV] at h
  split at h
  ·cases h
  ·rename_i d1 x1 q1 e1
   simp only[Fy,Dj] at h
   obtain⟨rfl,rfl,rfl⟩:=h
   obtain⟨r',ys,z1,z2⟩:=G4 h3 e1
   refine⟨e :: r',ys,by rw[z1];rfl,?_⟩
   rw[z2]
   split <;> rfl
theorem sY{κ β:Type}[DecidableEq κ]{t:List (κ×β)}{k:κ}{v:β}(h:∀ e∈t,e.1≠k)(j:κ):aH (t ++ [(k,v)]) j=if k=j then some v else aH t j:=by
 rw[wR]
 by_cases hj:k=j
 ·subst hj;rw[if_pos rfl,if_pos rfl,sW h];rfl
 ·rw[if_neg hj,if_neg hj,Option.or_none]
theorem G5:∀ {r:List (aJ×List α)} {c:aJ} {ys:List α},gR (r ++ [(c,ys)])->∀ e∈r,e.1≠c
 | [],_,_,_,e,h=>nomatch h
 | b :: r,c,ys,h,e,he=>by
  obtain⟨_,h2,h3⟩:=h
  rcases Ay.mp he with z | z
  ·rw[z];exact Cg (sX (h2 (c,ys) (by simp)))
  ·exact G5 h3 e z
theorem G6:∀ {q:List (aJ×List α)},gR q->(q.map (·.1)).Pairwise fun a b=>cL b a=true
 | [],_=>.nil
 | (e,xs) :: r,h=>by
  obtain⟨_,h2,h3⟩:=h
  rw[Bc,List.pairwise_cons]
  refine⟨fun a ha=>?_,G6 h3⟩
  obtain⟨z,hz,rfl⟩:=Ba.mp ha
  exact h2 z hz
end
theorem G7{c:aJ}:∀ {cs:List aJ} {k:Nat},k<=cs.length->(∀ i d,i < k->cs[i]? = some d->cL c d=true)->(∀ i d,k<=i->cs[i]? = some d->cL c d=false)->pos c cs=k
 | [],k,h,_,_=>by simp at h;subst h;rfl
 | d :: r,k,h,h1,h2=>by
  rw[pos]
  cases k with
  | zero=>rw[if_neg (by rw[h2 0 d (Ai _) rfl];decide)]
  | succ k=>
   rw[if_pos (h1 0 d (by lia) rfl),G7 (k:=k) (by simpa using h) (fun i e hi he=>h1 (i + 1) e (by lia) (by simpa using he)) fun i e hi he=>h2 (i + 1) e (by lia) (by simpa using he)]
structure Aq where
 o:Addr
 d:Addr
 c:Addr
 w:Addr
def qf(A:Aq):List (Str×W):=[("costs",.ref A.c),("waiting",.ref A.w)]
theorem n5{A:Aq}:Bz ("costs" : Str) (qf A)=some (W.ref A.c):=by kernel_rfl
theorem n6{A:Aq}:Bz ("waiting" : Str) (qf A)=some (W.ref A.w):=by kernel_rfl
theorem WM{A:Aq}:Bz ("place_of" : Str) (qf A)=none:=by kernel_rfl
theorem WN{A:Aq}:Bz ("put" : Str) (qf A)=none:=by kernel_rfl
theorem WO{A:Aq}:Bz ("take" : Str) (qf A)=none:=by kernel_rfl
theorem WQ{A:Aq}:Bz ("is_done" : Str) (qf A)=none:=by kernel_rfl
structure Qm(C:Cc)(M0 M:Mm)(A:Aq)(cs:List aJ):Prop where
 sub:L3.Sub M0 M
 no:M0 A.o=none
 nc:M0 A.c=none
 ne:A.o≠A.c
 ob:M A.o=some (.ins C.q A.d (qf A))
 co:M A.c=some (.lst (cs.map cW))
abbrev Qu:=List (aJ×List (Nat×List Int))
abbrev wG(q:Qu):aJ->Option (List W):=fun c=>(aH q c).map fun xs=>xs.map jN
structure QR(C:Cc)(M0 M:Mm)(A:Aq)(q:Qu):Prop where
 fall:gR q
 ex:∃ M1 kvs,Qm C M0 M1 A (q.map (·.1))/\eI cK M1 M A.w kvs (wG q)/\kvs.length<=q.length
theorem Qm.lift{C:Cc}{M0 M:Mm}{A:Aq}{cs:List aJ}{p:Addr}{o:MO}(h:Qm C M0 M A cs)(hp:M p=none\/∃ u,M0 p=some u):Qm C (put M0 p o) (put M p o) A cs:=by
 have ne:∀ {b:Addr},M0 b=none->(∃ u,M b=some u)->b≠p:=fun {b} h0 ⟨u,h1⟩ e=>by
  subst e
  rcases hp with z | ⟨v,z⟩
  ·rw[h1] at z;cases z
  ·rw[h0] at z;cases z
 have n1:=ne h.no ⟨_,h.ob⟩
 have n2:=ne h.nc ⟨_,h.co⟩
 exact⟨Sub.put h.sub,by rw[aQ n1];exact h.no,by rw[aQ n2];exact h.nc,h.ne,by rw[aQ n1];exact h.ob,by rw[aQ n2];exact h.co⟩
theorem Qm.costs{C:Cc}{M0 M:Mm}{A:Aq}{cs cs':List aJ}(h:Qm C M0 M A cs):Qm C M0 (put M A.c (.lst (cs'.map cW))) A cs':=
 ⟨gM h.sub h.nc,h.no,h.nc,h.ne,by rw[aQ h.ne];exact h.ob,aT⟩
theorem QR.lift{C:Cc}{M0 M:Mm}{A:Aq}{q:Qu}{p:Addr}{o:MO}(h:QR C M0 M A q)(hp:M p=none\/∃ u,M0 p=some u):QR C (put M0 p o) (put M p o) A q:=by
 obtain⟨M1,kvs,h1,h2,h3⟩:=h.ex
 refine⟨h.fall,put M1 p o,kvs,h1.lift ?_,h2.lift ?_,h3⟩
 ·rcases hp with z | z
  ·exact .inl (h2.sub.non z)
  ·exact .inr z
 ·rcases hp with z | ⟨u,z⟩
  ·exact .inl z
  ·exact .inr ⟨u,h1.sub _ _ z⟩
theorem QR.more{C:Cc}{M0 M:Mm}{A:Aq}{q:Qu}{p:Addr}{o:MO}(h:QR C M0 M A q)(hp:M p=none):QR C M0 (put M p o) A q:=by
 obtain⟨M1,kvs,h1,h2,h3⟩:=h.ex
 exact⟨h.fall,M1,kvs,h1,h2.more hp,h3⟩
theorem QR.sub{C:Cc}{M0 M:Mm}{A:Aq}{q:Qu}(h:QR C M0 M A q):L3.Sub M0 M:=by
 obtain⟨M1,kvs,h1,h2,h3⟩:=h.ex
 exact h1.sub.trans h2.sub
theorem QR.ob{C:Cc}{M0 M:Mm}{A:Aq}{q:Qu}(h:QR C M0 M A q):M A.o=some (.ins C.q A.d (qf A)):=by
 obtain⟨M1,kvs,h1,h2,h3⟩:=h.ex
 exact h2.sub _ _ h1.ob
theorem QR.co{C:Cc}{M0 M:Mm}{A:Aq}{q:Qu}(h:QR C M0 M A q):M A.c=some (.lst ((q.map (·.1)).map cW)):=by
 obtain⟨M1,kvs,h1,h2,h3⟩:=h.ex
 exact h2.sub _ _ h1.co
def G8(C:Cc):bH:=fun ws M R=>∃ M0 a dx,ws=[.ref a]/\M=put M0 a (.ins C.q dx [])/\M0 a=none/\∀ M' (A:Aq),A.o=a->QR C M0 M' A []->R .non M'
def G9(C:Cc):bH:=fun ws M R=>∃ M0 A q,ws=[.ref A.o]/\QR C M0 M A q/\R (.bl (decide (q=[]))) M
def HA(C:Cc):bH:=fun ws M R=>∃ (A:Aq) (cs:List aJ) (c:aJ),ws=[.ref A.o,cW c]/\M A.o=some (.ins C.q A.d (qf A))/\M A.c=some (.lst (cs.map cW))/\cs.Pairwise (fun a b=>cL b a=true)/\cs.length < 10000000/\R (.int (pos c cs:Nat)) M
def xE(C:Cc):bH:=fun ws M R=>∃ M0 A q c x,ws=[.ref A.o,cW c,jN x]/\QR C M0 M A q/\(a6 (dU c x q)).length < 10000000/\∀ M',QR C M0 M' A (dU c x q)->R .non M'
def HB(C:Cc):bH:=fun ws M R=>∃ M0 A q c x q',ws=[.ref A.o]/\QR C M0 M A q/\hV q=some (c,x,q')/\∀ M',QR C M0 M' A q'->R (.tup [cW c,jN x]) M'
abbrev WR:List Str:=["self"]
def WS(C:Cc):aI:=
   (aN (jM C.q (aA 0) "costs" (iC aD))
   (jM C.q (aA 0) "waiting" lN))
abbrev WT:List Str:=["self"]
def WU(C:Cc):aI:=
   (bS (aE (rEq false) (bY dA (aB (cY C.q (aA 0) "costs") aD)) (vC (.int 0))))
abbrev WV:List Str:=["self","cost","thing"]
def WW(C:Cc):aI:=
   (aN (cN (bU (aE (rIn true) (aA 1) (cY C.q (aA 0) "waiting")))
    (aN (iZ (iC aD) (j3 (cY C.q (aA 0) "waiting") (aA 1)))
   (cR (cQ "list" GV (cY C.q (aA 0) "costs") (aB (hW C.q "place_of" (HA C) (aA 0) (aB (aA 1) aD)) (aB (aA 1) aD)))))
    eN)
   (cR (cQ "list" d8 (aE aW (cY C.q (aA 0) "waiting") (aA 1)) (aB (aA 2) aD))))
abbrev WX:List Str:=["self","cost","low","high","middle"]
def WY(C:Cc):aI:=
   (bB 2 (vC (.int 0)))
def WZ(C:Cc):aI:=
   (bB 3 (bY dA (aB (cY C.q (aA 0) "costs") aD)))
def W0(C:Cc):aI:=
   (aN (bB 4 (aE fR (aE dH (aA 2) (aA 3)) (vC (.int 2))))
   (cN (bU (aE GS (aE aW (cY C.q (aA 0) "costs") (aA 4)) (aA 1)))
    (bB 2 (aE dH (aA 4) (vC (.int 1))))
    (bB 3 (aA 4))))
def W2(C:Cc):aI:=
   (pH (bU (aE lL (aA 2) (aA 3))) (W0 C))
def W4(C:Cc):aI:=
   (bS (aA 2))
def W5(C:Cc):aI:=(aN (WY C) (aN (WZ C) (aN (W2 C) (W4 C))))
abbrev W6:List Str:=["self","cost","things","thing"]
def W7(C:Cc):aI:=
   (bB 1 (aE aW (cY C.q (aA 0) "costs") (jI jJ (vC (.int 1)))))
def W8(C:Cc):aI:=
   (bB 2 (aE aW (cY C.q (aA 0) "waiting") (aA 1)))
def W9(C:Cc):aI:=
   (bB 3 (rP "list" rPop (aA 2)))
def XA(C:Cc):aI:=
   (cN (bU (aE (rEq false) (bY dA (aB (aA 2) aD)) (vC (.int 0))))
    (aN (cR (rP "list" rPop (cY C.q (aA 0) "costs")))
   (cR (cQ "dict" GO (cY C.q (aA 0) "waiting") (aB (aA 1) aD))))
    eN)
def XB(C:Cc):aI:=
   (bS (bK (aB (aA 1) (aB (aA 3) aD))))
def XC(C:Cc):aI:=(aN (W7 C) (aN (W8 C) (aN (W9 C) (aN (XA C) (XB C)))))
theorem z1:1<=Ak:=by decide
theorem z2:2<=Ak:=by decide
theorem z3:3<=Ak:=by decide
theorem z4:4<=Ak:=by decide
theorem bC{b:Bool}{P Q:Prop}(h1:b=true->P)(h2:b=false->Q):if b=true then P else Q:=by cases b;exact h2 rfl;exact h1 rfl
theorem xF{w:W}{ws:List W}{M:Mm}{R:List W->(Mm->Prop)->Mm->Prop}(e:w=.rl ws)(h:R ws (fun _=>True) M):L3.nS w M R:=by rw[e];exact h
theorem mW{M:Mm}{a:Addr}{kvs:List (List aG×W)}{k:List aG}{w:W}{R:K3}(h:M a=some (.dT kvs))(hl:bA kvs k=some w)(r:R w M):L3.aW (.ref a) (.tup (k.map wK)) M R:=⟨w,.inr ⟨kvs,k,h,rfl,hl.symm⟩,r⟩
theorem eT{M:Mm}{a:Addr}{ws:List W}(h:M a=some (.lst ws)):kK "list" (.ref a) M:=.inl ⟨rfl,_,h⟩
theorem pV{M:Mm}{a:Addr}{kvs:List (List aG×W)}(h:M a=some (.dT kvs)):kK "dict" (.ref a) M:=.inr ⟨rfl,.inr ⟨_,h⟩⟩
theorem XD{C:Cc}{ws:List W}{M:Mm}{R:K3}(h:G9 C ws M R):WU C (bI R) (bP WT ws) M:=by
 obtain⟨M0,A,q,rfl,hq,r⟩:=h
 refine⟨_,rfl,A.o,A.d,qf A,_,rfl,hq.ob,n5,.inl ⟨_,hq.co,M,Sub.refl _,?_⟩⟩
 show R (.bl (decide (((Ji cW (q.map fun x=>x.1)).length:Int)=0))) M
 have e:decide (((Ji cW (q.map fun x=>x.1)).length:Int)=0)=decide (q=[]):=by
  cases q <;> simp
  lia
 rw[e];exact r
theorem XE{C:Cc}{ws:List W}{M:Mm}{R:K3}(h:G8 C ws M R):WS C (bI R) (bP WR ws) M:=by
 obtain⟨M0,a,dx,rfl,rfl,ha,r⟩:=h
 refine⟨Cd _,fun p hp=>?_⟩
 have hpa:p≠a:=fun e=>by rw[e,aT] at hp;cases hp
 have hp0:M0 p=none:=by rw[aQ hpa] at hp;exact hp
 refine⟨_,rfl,a,dx,[],rfl,by rw[aQ (Cg hpa),aT],by decide,fun w hw=>?_⟩
 have hwa:w≠a:=fun e=>by rw[e,aT] at hw;cases hw
 have hwp:w≠p:=fun e=>by rw[e,aQ hpa,aT] at hw;cases hw
 have hw0:M0 w=none:=by rw[aQ hwa,aQ hwp,aQ hwa] at hw;exact hw
 refine⟨_,rfl,a,dx,cA "costs" (.ref p) [],rfl,by rw[aQ (Cg hwa),aT],(show(1:Nat) < 1000 by decide),_,Sub.refl _,r _ ⟨a,dx,p,w⟩ rfl ⟨trivial,put (put M0 p (.lst [])) a (.ins C.q dx (qf ⟨a,dx,p,w⟩)),[],⟨gM (gM (Sub.refl _) hp0) ha,ha,hp0,Cg hpa,aT,by rw[aQ hpa,aT];rfl⟩,?_,Ai _⟩⟩
 have e:put (put (put (put (put M0 a (.ins C.q dx [])) p (.lst [])) a (.ins C.q dx (cA "costs" (.ref p) []))) w (.dT [])) a (.ins C.q dx (cA "waiting" (.ref w) (cA "costs" (.ref p) [])))=put (put (put M0 p (.lst [])) a (.ins C.q dx (qf ⟨a,dx,p,w⟩))) w (.dT []):=by
  have eq:cA "waiting" (.ref w) (cA "costs" (.ref p) [])=qf ⟨a,dx,p,w⟩:=by
   show(if (("costs" : Str)=("waiting" : Str)) then _ else _)=_
   rw[if_neg (by decide +kernel)];rfl
  rw[eq]
  funext b
  unfold put
  by_cases h1:b=a <;> by_cases h2:b=w <;> by_cases h3:b=p <;> simp_all
 rw[e]
 exact⟨gM (Sub.refl _) (by rw[aQ hwa,aQ hwp];exact hw0),by rw[aQ hwa,aQ hwp];exact hw0,aT,(fun _ _=>rfl),(fun k ws e=>nomatch e),(fun k j p e=>nomatch e)⟩
theorem XF{C:Cc}{ws:List W}{M:Mm}{R:K3}(h:HA C ws M R):W5 C (bI R) (bP WX ws) M:=by
 obtain⟨A,cs,c,rfl,ho,hc,pw,hl,r⟩:=h
 refine⟨_,rfl,A.o,A.d,qf A,_,rfl,ho,n5,.inl ⟨_,hc,?_⟩⟩
 refine⟨fun m τ M'=>∃ lo hi:Nat,∃ o,τ=[some (.ref A.o),some (cW c),some (.int lo),some (.int hi),o]/\M'=M/\lo<=hi/\hi<=cs.length/\(∀ i d,i < lo->cs[i]? = some d->cL c d=true)/\(∀ i d,hi<=i->cs[i]? = some d->cL c d=false)/\m=hi - lo,⟨_,0,cs.length,none,by rw[Aa];rfl,rfl,Cd _,Ai _,(fun i d hi=>absurd hi (Nat.not_lt_zero _)),(fun i d hi e=>by rw[Iy hi] at e;cases e),rfl⟩,?_⟩
 rintro m τ M' ⟨lo,hi,o,rfl,rfl,h1,h2,h3,h4,rfl⟩
 refine⟨_,rfl,_,rfl,_,rfl,bC (fun hb=>?_) fun hb=>?_⟩
 ·have hlt:=of_decide_eq_true hb
  refine⟨_,rfl,_,rfl,⟨by decide,by decide⟩,?_⟩
  obtain⟨mid,hm⟩:∃ mid,mid=(lo + hi) / 2:=⟨_,rfl⟩
  have em:((lo:Int) + (hi:Int)) / 2=(mid:Nat):=by lia
  dsimp only
  rw[em]
  obtain⟨d,hd⟩:∃ d,cs[mid]? = some d:=⟨_,Ax (by lia)⟩
  refine⟨_,rfl,A.o,A.d,qf A,_,rfl,ho,n5,_,rfl,.inl ⟨_,cW d,hc,iL (by rw[Au,hd];rfl),_,rfl,d.1,d.2,c.1,c.2,rfl,rfl,_,rfl,?_⟩⟩
  have pg:∀ i j a b,i < j->cs[i]? = some a->cs[j]? = some b->cL b a=true:=fun i j a b hij hi' hj'=>by
   obtain⟨q1,e1⟩:=Ah.mp hi'
   obtain⟨q2,e2⟩:=Ah.mp hj'
   rw[<-e1,<-e2]
   exact Kb.mp pw i j q1 q2 hij
  show if cL c d=true then _ else _
  by_cases hcd:cL c d=true
  ·rw[if_pos hcd]
   refine⟨_,rfl,_,_,?_,Sub.refl _,mid + 1,hi,_,rfl,rfl,by lia,h2,fun i e hi' he=>?_,h4,rfl⟩
   ·lia
   ·by_cases hi2:i < mid
    ·exact pM hcd (Le.of_lt (pg i mid e d hi2 he hd))
    ·have:i=mid:=by lia
     rw[this,hd] at he;cases he;exact hcd
  ·rw[if_neg hcd]
   refine⟨_,rfl,_,_,?_,Sub.refl _,lo,mid,_,rfl,rfl,by lia,by lia,h3,fun i e hi' he=>?_,rfl⟩
   ·lia
   ·by_cases hi2:mid < i
    ·have h5:=pg mid i d e hi2 hd he
     cases h6:cL c e with
     | false=>rfl
     | true=>exact absurd (pM h6 (Le.of_lt h5)) hcd
    ·have:i=mid:=by lia
     rw[this,hd] at he;cases he
     simpa using hcd
 ·have hlt:=of_decide_eq_false hb
  have:lo=hi:=by lia
  subst this
  refine⟨_,rfl,_,Sub.refl _,?_⟩
  rw[<-G7 (c:=c) (cs:=cs) (k:=lo) h2 h3 h4];exact r
theorem XG{C:Cc}{ws:List W}{M:Mm}{R:K3}(h:xE C ws M R):WW C (bI R) (bP WV ws) M:=by
 obtain⟨M0,A,q,c,x,rfl,hq,hl,r⟩:=h
 have hle:=sF c x q
 have hf:=hq.fall
 have hql:=xD hf
 have hil:=G3 (q:=q) (c:=c)
 have hfp:=wU c x hf
 obtain⟨M1,kvs,m1,t1,l1⟩:=hq.ex
 refine⟨_,rfl,_,rfl,A.o,A.d,qf A,_,rfl,hq.ob,n6,.inr ⟨_,.inr ⟨kvs,cK c,t1.at_,WL c,rfl⟩,_,rfl,?_⟩⟩
 rw[t1.look c]
 have wgp:∀ j,wG (dU c x q) j=if c=j then some (((aH q c).getD []).map jN ++ [jN x]) else wG q j:=fun j=>by
  show(aH (dU c x q) j).map _=_
  rw[GZ c x j hf]
  by_cases hj:c=j
  ·rw[if_pos hj,if_pos hj,Ks,Bf];rfl
  ·rw[if_neg hj,if_neg hj]
 cases hg:aH q c with
 | some xs=>
  have hgw:wG q c=some (xs.map jN):=by show(aH q c).map _=_;rw[hg];rfl
  rw[hgw]
  rw[hg] at hil wgp
  have hil:xs.length<=(a6 q).length:=hil
  refine bC (fun h=>nomatch (show false=true from h)) fun _=>?_
  obtain⟨p,hp1,hp2⟩:=t1.has hgw
  have hold:=G2 c x hf (by rw[hg];rfl)
  refine⟨_,rfl,A.o,A.d,qf A,_,rfl,hq.ob,n6,_,rfl,mW t1.at_ hp1 ⟨eT hp2,_,rfl,_,hp2,eR (by rw[Aa];lia),_,Sub.refl _,r _ ⟨hfp,M1,kvs,?_,(t1.wr hp1).same wgp,?_⟩⟩⟩
  ·rw[hold];exact m1
  ·have:=congrArg Cz hold
   rw[Aa,Aa] at this
   rw[this];exact l1
 | none=>
  have hgw:wG q c=none:=by show(aH q c).map _=_;rw[hg];rfl
  rw[hgw]
  rw[hg] at wgp
  refine bC (fun _=>⟨Cd _,fun p hp=>?_⟩) fun h=>nomatch (show true=false from h)
  have t2:=t1.add GY (ws:=[]) hgw hp
  have hpo:A.o≠p:=fun e=>by rw[<-e,hq.ob] at hp;cases hp
  have hll:((q.map (·.1)).map cW).length=q.length:=by rw[Aa,Aa]
  have hpl:=G0 c (q.map (·.1))
  rw[Aa] at hpl
  refine⟨_,rfl,A.o,A.d,qf A,_,rfl,by rw[aQ hpo];exact hq.ob,n6,_,rfl,nV (k:=cK c) (kvs:=kvs) (by rw[aQ (fun e=>by rw[<-e,t1.at_] at hp;cases hp)];exact t1.at_) (eR (by lia)) ?_⟩
  refine⟨_,rfl,A.o,A.d,qf A,_,rfl,t2.sub _ _ m1.ob,n5,eT (t2.sub _ _ m1.co),?_⟩
  have t3:=t2.lift (p:=A.c) (o:=.lst ((((q.map (·.1)).take (pos c (q.map (·.1))) ++ c :: (q.map (·.1)).drop (pos c (q.map (·.1)))).map cW))) (.inr ⟨_,m1.co⟩)
  have m3:=m1.costs (cs':=(q.map (·.1)).take (pos c (q.map (·.1))) ++ c :: (q.map (·.1)).drop (pos c (q.map (·.1))))
  refine⟨_,rfl,A.o,A.d,qf A,rfl,t2.sub _ _ m1.ob,WM,_,rfl,A,q.map (·.1),c,rfl,t2.sub _ _ m1.ob,t2.sub _ _ m1.co,G6 hf,by rw[Aa];lia,_,rfl,_,t2.sub _ _ m1.co,eR (by rw[hll];lia),by lia,by rw[hll];lia,?_⟩
  have ew:((q.map (·.1)).map cW).take (Int.toNat (pos c (q.map (·.1)):Nat)) ++ cW c :: ((q.map (·.1)).map cW).drop (Int.toNat (pos c (q.map (·.1)):Nat))=(((q.map (·.1)).take (pos c (q.map (·.1))) ++ c :: (q.map (·.1)).drop (pos c (q.map (·.1)))).map cW):=by
   rw[Cu,Bf,Bc,Kj,Jd]
  rw[ew]
  obtain⟨p',hp1,hp2⟩:=t3.has (k:=c) (ws:=[]) (by rw[if_pos rfl])
  refine⟨_,rfl,A.o,A.d,qf A,_,rfl,t3.sub _ _ m3.ob,n6,_,rfl,mW t3.at_ hp1 ⟨eT hp2,_,rfl,_,hp2,eR (by simp),_,Sub.refl _,r _ ⟨hfp,_,_,?_,(t3.wr hp1).same (fun j=>?_),?_⟩⟩⟩
  ·rw[xC c x hf (by rw[hg];rfl)];exact m3
  ·rw[wgp j]
   by_cases hj:c=j
   ·rw[if_pos hj,if_pos hj];rfl
   ·rw[if_neg hj,if_neg hj,if_neg hj]
  ·have h1:=congrArg Cz (xC c x hf (by rw[hg];rfl))
   have h2:=xB kvs (cK c) (W.ref p)
   rw[Aa,Af,Ar,Bj,Ds,Aa] at h1
   lia
theorem XH{C:Cc}{ws:List W}{M:Mm}{R:K3}(h:HB C ws M R):XC C (bI R) (bP W6 ws) M:=by
 obtain⟨M0,A,q,c,x,q',rfl,hq,ht,r⟩:=h
 have hf:=hq.fall
 have ⟨_,_,_,e0,hf',_,_,_,_⟩:=mT hf (fun e=>by rw[e] at ht;cases ht)
 rw[ht] at e0
 cases e0
 obtain⟨M1,kvs,m1,t1,l1⟩:=hq.ex
 obtain⟨r0,ys,e1,e2⟩:=G4 hf ht
 have hnl:∀ e∈r0,e.1≠c:=by rw[e1] at hf;exact G5 hf
 have hgw:wG q c=some (ys.map jN ++ [jN x]):=by
  show(aH q c).map _=_
  rw[e1,sY hnl,if_pos rfl,Ks,Bf];rfl
 obtain⟨p,hp1,hp2⟩:=t1.has hgw
 have hc:M A.c=some (.lst (((r0.map (·.1)).map cW) ++ [cW c])):=by rw[hq.co,e1];simp
 refine⟨_,rfl,A.o,A.d,qf A,_,rfl,hq.ob,n5,.inl ⟨_,_,hc,DL _ _,_,rfl,A.o,A.d,qf A,_,rfl,hq.ob,n6,_,rfl,mW t1.at_ hp1 ⟨_,rfl,eT hp2,⟨_,_,hp2,_,rfl,.inl ⟨_,aT,_,rfl,?_⟩⟩⟩⟩⟩
 have t2:=t1.wr (ws:=ys.map jN) hp1
 cases ys with
 | nil=>
  refine bC (fun _=>?_) fun h=>nomatch (show true=false from h)
  have hm1:M1 A.c=some (.lst (((r0.map (·.1)).map cW) ++ [cW c])):=by rw[m1.co,e1];simp
  have m2:=m1.costs (cs':=r0.map (·.1))
  have t3:=t2.lift (p:=A.c) (o:=.lst ((r0.map (·.1)).map cW)) (.inr ⟨_,hm1⟩)
  have t4:=t3.del (k:=c) GY
  refine⟨_,rfl,A.o,A.d,qf A,_,rfl,t2.sub _ _ m1.ob,n5,eT (t2.sub _ _ hm1),_,_,t2.sub _ _ hm1,_,rfl,A.o,A.d,qf A,_,rfl,t3.sub _ _ m2.ob,n6,pV t3.at_,_,rfl,_,cK c,_,t3.at_,rfl,hp1,?_⟩
  refine⟨_,rfl,_,rfl,z2,_,Sub.refl _,r _ ⟨hf',_,_,?_,t4.same (fun j=>?_),?_⟩⟩
  ·rw[e2];exact m2
  ·show(aH q' j).map _=_
   rw[e2,if_pos (by rfl:([]:List (Nat×List Int)).isEmpty=true)]
   by_cases hj:c=j
   ·subst hj;rw[if_pos rfl,sW hnl];rfl
   ·rw[if_neg hj,if_neg hj]
    show _=(aH q j).map _
    rw[e1,sY hnl,if_neg hj]
  ·have h1:=GX (kvs:=kvs) (k:=cK c) (by rw[hp1];rfl)
   rw[e1,Af,Bl] at l1
   rw[e2,if_pos (by rfl:([]:List (Nat×List Int)).isEmpty=true)];lia
 | cons y ys=>
  refine bC (fun h=>?_) fun _=>?_
  ·have h:=of_decide_eq_true (show decide (((Ji jN (y :: ys)).length:Int)=0)=true from h)
   rw[Bc,Ar] at h
   lia
  refine⟨_,rfl,_,rfl,z2,_,Sub.refl _,r _ ⟨hf',_,_,?_,t2.same (fun j=>?_),?_⟩⟩
  ·rw[e2,if_neg (by simp)];rw[e1] at m1;simpa using m1
  ·show(aH q' j).map _=_
   rw[e2,if_neg (by simp),sY hnl]
   by_cases hj:c=j
   ·rw[if_pos hj,if_pos hj];rfl
   ·rw[if_neg hj,if_neg hj]
    show _=(aH q j).map _
    rw[e1,sY hnl,if_neg hj]
  ·rw[e1] at l1;rw[e2,if_neg (by simp)];simpa using l1
def pW:bH:=fun ws M R=>∃ rs:List aV,ws=[.rl (rs.map eS)]/\rs.length<=400/\aZ ((namesOf rs).map W.str) M R
def HC:bH:=fun ws M R=>∃ (r:aV) (rs:List aV),ws=[.rl ((r :: rs).map eS)]/\R (.str r.name) M
abbrev XI:List Str:=["grammar","found","rule"]
def XJ:aI:=
   (bB 1 wA)
def XM:aI:=
   (iZ (vC (.bl true)) (j3 (aA 1) (aE aW (aA 2) (vC (.int 0)))))
def XN:aI:=
   (fS (dG eO (aA 0)) (bW 2) XM)
def XO:aI:=
   (bS (bY v8 (aB (aA 1) aD)))
def XQ:aI:=(aN XJ (aN XN XO))
abbrev XR:List Str:=["grammar"]
def XS:aI:=
   (bS (aE aW (aE aW (aA 0) (vC (.int 0))) (vC (.int 0))))
end Rg
namespace L3
open PySem PySem.Spec PyProof.Rows L2
theorem zeW{n:Bool}{i j:Str}{M:Mm}{R:K3}:L3.rIn n (.str i) (.str j) M R=R (.bl (if n then !occ i j else occ i j)) M:=rfl
theorem zeX{n:Bool}{i:Str}{ws:List W}{M:Mm}{R:K3}:L3.rIn n (.str i) (.rl ws) M R=(fL (.str i)=true/\ws.all fL=true/\R (.bl (if n then !inW (.str i) ws else inW (.str i) ws)) M):=rfl
end L3
namespace Rg
open PySem PySem.Spec PyProof.Rows L2 L3
theorem XT{P Q:Prop}(h:P):if true=true then P else Q:=h
def fF(t:Str):aG×W:=(Sum.inr t,.bl true)
theorem xG(acc:List Str)(t:Str):cE (acc.map fF) (Sum.inr t:aG) (.bl true)=(fB acc t).map fF:=by
 unfold cE fB
 have e:((acc.map fF).any fun kv=>decide (kv.1=Sum.inr t))=decide (t∈acc):=by
  rw[List.any_map,Dr]
  simp[fF,Jv]
 rw[e]
 by_cases h:t∈acc
 ·rw[if_pos (decide_eq_true h),if_pos h,Bv]
  refine Hx fun u hu=>?_
  simp[fF,Jv]
 ·rw[if_neg (by simpa using h),if_neg h,Bf];rfl
theorem fP{ws:List W}{M:Mm}{R:List W->(Mm->Prop)->Mm->Prop}(h:R ws (fun _=>True) M):eO (.rl ws) M R:=h
theorem XU{ws:List W}{M:Mm}{R:K3}(h:pW ws M R):XQ (bI R) (bP XI ws) M:=by
 obtain⟨rs,rfl,hl,r⟩:=h
 refine fun p hp=>⟨_,rfl,fP (nR (fun i τ M'=>∃ o,τ=[some (.rl (rs.map eS)),some (.ref p),o]/\M'=put M p (.dK ((namesOf (rs.take i)).map fF))) ⟨_,rfl,rfl⟩ (fun _ _ _ _ _=>trivial) ?_ ?_)⟩
 ·rintro i w τ M' hw ⟨o,rfl,rfl⟩
  rw[Au] at hw
  obtain⟨q,hq,rfl⟩:=Bk.mp hw
  have hi:i < rs.length:=(Ah.mp hq).1
  have e:namesOf (rs.take (i + 1))=fB (namesOf (rs.take i)) q.name:=by
   rw[Eu,hq]
   unfold namesOf mR
   simp
  have hlen:(namesOf (rs.take i)).length<=i:=by
   have:=sE ((rs.take i).map aV.name) []
   unfold namesOf mR
   simp at this
   simp;lia
  refine⟨_,rfl,_,rfl,_,rfl,FZ aT (by rw[Aa];exact eR (by lia)) ⟨_,Sub.refl _,_,rfl,?_⟩⟩
  rw[fJ,xG,e]
 ·rintro τ M' ⟨o,rfl,rfl⟩
  rw[Aa,Ck]
  refine⟨_,rfl,.inr ⟨_,aT,fun q hq=>?_⟩⟩
  have hpq:q≠p:=fun e=>by subst e;rw[aT] at hq;cases hq
  rw[aQ hpq] at hq
  refine⟨_,?_,r q hq⟩
  rw[Bv]
  exact Sub.put (Sub.new hp)
theorem XW{ws:List W}{M:Mm}{R:K3}(h:HC ws M R):XS (bI R) (bP XR ws) M:=by
 obtain⟨q,rs,rfl,r⟩:=h
 exact⟨_,rfl,_,iL (j:=0) rfl,_,rfl,_,Sub.refl _,r⟩
theorem XX{t:Str}{ts:List Str}:inW (.str t) (ts.map W.str)=decide (t∈ts):=by
 unfold inW
 rw[List.any_map,Dr,List.any_eq_true,decide_eq_true_eq]
 exact⟨fun⟨x,h,e⟩=>eq_of_beq (show(x == t)=true from e) ▸ h,fun h=>⟨t,h,beq_self_eq_true t⟩⟩
theorem XY(ts:List Str):(ts.map W.str).all fL=true:=by
 rw[List.all_map,Iz];intro t _;rfl
def eK(k:Str×Int):List aG:=[Sum.inr k.1,Sum.inl k.2]
def jA(z:Int×aJ):W:=.tup [.int z.1,cW z.2]
def jB(y:bZ):W:=.tup [.int y.1,fZ y.2.1,cW y.2.2]
def j9(k:K4):List aG:=[Sum.inl k.1,Sum.inl k.2.1,Sum.inl k.2.2.1,Sum.inl k.2.2.2]
def fK(f:a7):List aG:=[Sum.inr f.1,Sum.inl f.2.1,Sum.inl f.2.2]
def fG(e:aJ×Nat×List Int):W:=.tup [cW e.1,.int e.2.1,fZ e.2.2]
theorem sZ:∀ a b:Str×Int,eK a=eK b->a=b:=fun a b h=>by
 unfold eK at h
 simp only[Dn,Jw,Sum.inr.injEq,and_true] at h
 exact Prod.ext h.1 h.2
theorem tB:∀ a b:K4,j9 a=j9 b->a=b:=fun a b h=>by
 unfold j9 at h
 simp only[Dn,Jw,and_true,Int.natCast_inj] at h
 obtain⟨a1,a2,a3,a4⟩:=a
 obtain⟨b1,b2,b3,b4⟩:=b
 simp only at h
 obtain⟨h1,h2,h3,h4⟩:=h
 rw[h1,h2,h3,h4]
theorem jO:∀ a b:a7,fK a=fK b->a=b:=fun a b h=>by
 unfold fK at h
 simp only[Dn,Jw,Sum.inr.injEq,and_true] at h
 obtain⟨a1,a2,a3⟩:=a
 obtain⟨b1,b2,b3⟩:=b
 simp only at h
 obtain⟨h1,h2,h3⟩:=h
 rw[h1,h2,h3]
section
variable {κ β:Type}[DecidableEq κ]{kk:κ->List aG}{f:β->W}
abbrev dX(kk:κ->List aG)(f:β->W)(t:List (κ×β)):List (List aG×W):=t.map fun e=>(kk e.1,f e.2)
theorem jC(hkk:∀ a b,kk a=kk b->a=b)(t:List (κ×β))(k:κ):bA (dX kk f t) (kk k)=(aH t k).map f:=by
 induction t with
 | nil=>rfl
 | cons e t ih=>
  show bA ((kk e.1,f e.2) :: dX kk f t) (kk k)=_
  rw[mV,dS,ih]
  by_cases h:e.1=k
  ·rw[if_pos (by rw[h]),if_pos h];rfl
  ·rw[if_neg (fun z=>h (hkk _ _ z)),if_neg h]
theorem xH(hkk:∀ a b,kk a=kk b->a=b)(t:List (κ×β))(k:κ)(v:β):cE (dX kk f t) (kk k) (f v)=dX kk f (cS t k v):=by
 unfold cE cS
 rw[show((dX kk f t).any fun kv=>decide (kv.1=kk k))=(bA (dX kk f t) (kk k)).isSome from kR _ _,jC hkk,kR]
 cases aH t k with
 | none=>simp
 | some w=>
  simp only[Ks,Option.isSome_some,if_true,Bv]
  apply Hx
  intro e _
  simp only[Jv]
  by_cases h:e.1=k
  ·rw[if_pos (by rw[h]),if_pos h]
  ·rw[if_neg (fun z=>h (hkk _ _ z)),if_neg h]
end
structure Env where
 rs:List aV
 own:List (aG×W)
 stp:List (List aG×W)
structure Ad where
 s:Addr
 d:Addr
 Q:Aq
 r:Addr
 b:Addr
 e:Addr
 g:Addr
def sf(E:Env)(A:Ad):List (Str×W):=[("grammar",(cJ E.rs)),("own",(.dk E.own)),("steps",(.dt E.stp)),("queue",(.ref A.Q.o)),("reached",(.ref A.r)),("best",(.ref A.b)),("ends",(.ref A.e)),("begun",(.ref A.g))]
theorem HD{E:Env}{A:Ad}:Bz ("grammar" : Str) (sf E A)=some (cJ E.rs):=by kernel_rfl
theorem XZ{E:Env}{A:Ad}:Bz ("own" : Str) (sf E A)=some (W.dk E.own):=by kernel_rfl
theorem X0{E:Env}{A:Ad}:Bz ("steps" : Str) (sf E A)=some (W.dt E.stp):=by kernel_rfl
theorem xJ{E:Env}{A:Ad}:Bz ("queue" : Str) (sf E A)=some (W.ref A.Q.o):=by kernel_rfl
theorem tD{E:Env}{A:Ad}:Bz ("reached" : Str) (sf E A)=some (W.ref A.r):=by kernel_rfl
theorem xK{E:Env}{A:Ad}:Bz ("best" : Str) (sf E A)=some (W.ref A.b):=by kernel_rfl
theorem HE{E:Env}{A:Ad}:Bz ("ends" : Str) (sf E A)=some (W.ref A.e):=by kernel_rfl
theorem HF{E:Env}{A:Ad}:Bz ("begun" : Str) (sf E A)=some (W.ref A.g):=by kernel_rfl
theorem tE{E:Env}{A:Ad}:Bz ("reach" : Str) (sf E A)=none:=by kernel_rfl
theorem X1{E:Env}{A:Ad}:Bz ("take_next" : Str) (sf E A)=none:=by kernel_rfl
theorem X2{E:Env}{A:Ad}:Bz ("step_by_name" : Str) (sf E A)=none:=by kernel_rfl
theorem X3{E:Env}{A:Ad}:Bz ("settle" : Str) (sf E A)=none:=by kernel_rfl
structure Mn(C:Cc)(E:Env)(M0 M:Mm)(A:Ad)(rc:List (K4×aJ))(bs:bE):Prop where
 sub:L3.Sub M0 M
 ns:M0 A.s=none
 nr:M0 A.r=none
 nb:M0 A.b=none
 sr:A.s≠A.r
 sb:A.s≠A.b
 rb:A.r≠A.b
 os:M A.s=some (.ins C.s A.d (sf E A))
 or:M A.r=some (.dT (dX j9 cW rc))
 ob:M A.b=some (.dT (dX fK fG bs))
abbrev eG(t:List ((Str×Int)×List (Int×aJ))):Str×Int->Option (List W):=fun k=>(aH t k).map fun xs=>xs.map jA
abbrev gG(t:List ((Str×Int)×List bZ)):Str×Int->Option (List W):=fun k=>(aH t k).map fun xs=>xs.map jB
def Kept(M:Mm):Option (Addr×List W)->Prop
 | none=>True
 | some x=>M x.1=some (.lst x.2)
structure SK(C:Cc)(E:Env)(M0 M:Mm)(A:Ad)(st:SS)(kp:Option (Addr×List W)):Prop where
 ex:∃ M1 M2 M3 e g,Mn C E M0 M1 A st.reached st.best/\eI eK M1 M2 A.e e (eG st.ends)/\eI eK M2 M3 A.g g (gG st.begun)/\QR C M3 M A.Q st.q/\e.length<=st.ends.length/\g.length<=st.begun.length/\Kept M3 kp
abbrev SR(C:Cc)(E:Env)(M0 M:Mm)(A:Ad)(st:SS):Prop:=SK C E M0 M A st none
section
variable {C:Cc}{E:Env}{M0 M:Mm}{A:Ad}{st:SS}{kp:Option (Addr×List W)}
theorem SK.os(h:SK C E M0 M A st kp):M A.s=some (.ins C.s A.d (sf E A)):=by
 obtain⟨M1,M2,M3,e,g,h1,h2,h3,h4,_⟩:=h.ex
 exact h4.sub _ _ (h3.sub _ _ (h2.sub _ _ h1.os))
theorem SK.or(h:SK C E M0 M A st kp):M A.r=some (.dT (dX j9 cW st.reached)):=by
 obtain⟨M1,M2,M3,e,g,h1,h2,h3,h4,_⟩:=h.ex
 exact h4.sub _ _ (h3.sub _ _ (h2.sub _ _ h1.or))
theorem SK.ob(h:SK C E M0 M A st kp):M A.b=some (.dT (dX fK fG st.best)):=by
 obtain⟨M1,M2,M3,e,g,h1,h2,h3,h4,_⟩:=h.ex
 exact h4.sub _ _ (h3.sub _ _ (h2.sub _ _ h1.ob))
theorem SK.fall(h:SK C E M0 M A st kp):gR st.q:=by
 obtain⟨M1,M2,M3,e,g,h1,h2,h3,h4,_⟩:=h.ex
 exact h4.fall
theorem SK.free(h:SK C E M0 M A st kp):SR C E M0 M A st:=by
 obtain⟨M1,M2,M3,e,g,h1,h2,h3,h4,h5,h6,_⟩:=h.ex
 exact⟨M1,M2,M3,e,g,h1,h2,h3,h4,h5,h6,trivial⟩
theorem SK.kept{p:Addr}{ws:List W}(h:SK C E M0 M A st (some (p,ws))):M p=some (.lst ws):=by
 obtain⟨M1,M2,M3,e,g,h1,h2,h3,h4,h5,h6,h7⟩:=h.ex
 exact h4.sub _ _ h7
theorem Mn.rput{M1:Mm}{rc:List (K4×aJ)}{bs:bE}(h:Mn C E M0 M1 A rc bs)(rc':List (K4×aJ)):Mn C E M0 (put M1 A.r (.dT (dX j9 cW rc'))) A rc' bs:=
 ⟨gM h.sub h.nr,h.ns,h.nr,h.nb,h.sr,h.sb,h.rb,by rw[aQ h.sr];exact h.os,aT,by rw[aQ (Cg h.rb)];exact h.ob⟩
theorem Mn.bput{M1:Mm}{rc:List (K4×aJ)}{bs:bE}(h:Mn C E M0 M1 A rc bs)(bs':bE):Mn C E M0 (put M1 A.b (.dT (dX fK fG bs'))) A rc bs':=
 ⟨gM h.sub h.nb,h.ns,h.nr,h.nb,h.sr,h.sb,h.rb,by rw[aQ h.sb];exact h.os,by rw[aQ h.rb];exact h.or,aT⟩
theorem SK.rput(h:SK C E M0 M A st kp)(rc':List (K4×aJ)):SK C E M0 (put M A.r (.dT (dX j9 cW rc'))) A {st with reached:=rc'} kp:=by
 obtain⟨M1,M2,M3,e,g,h1,h2,h3,h4,h5,h6,h7⟩:=h.ex
 have k2:=h2.sub _ _ h1.or
 have k3:=h3.sub _ _ k2
 refine⟨_,_,_,e,g,h1.rput rc',h2.lift (.inr ⟨_,h1.or⟩),h3.lift (.inr ⟨_,k2⟩),h4.lift (.inr ⟨_,k3⟩),h5,h6,?_⟩
 cases kp with
 | none=>trivial
 | some x=>
  have h7:M3 x.1=some (.lst x.2):=h7
  show put M3 A.r _ x.1=some (.lst x.2)
  rw[aQ (fun z=>by rw[z,k3] at h7;cases h7)];exact h7
theorem SK.bput(h:SR C E M0 M A st)(bs':bE):SR C E M0 (put M A.b (.dT (dX fK fG bs'))) A {st with best:=bs'}:=by
 obtain⟨M1,M2,M3,e,g,h1,h2,h3,h4,h5,h6,h7⟩:=h.ex
 have k2:=h2.sub _ _ h1.ob
 have k3:=h3.sub _ _ k2
 exact⟨_,_,_,e,g,h1.bput bs',h2.lift (.inr ⟨_,h1.ob⟩),h3.lift (.inr ⟨_,k2⟩),h4.lift (.inr ⟨_,k3⟩),h5,h6,trivial⟩
theorem SK.que(h:SK C E M0 M A st kp):∃ M3,QR C M3 M A.Q st.q/\∀ M' q',QR C M3 M' A.Q q'->SK C E M0 M' A {st with q:=q'} kp:=by
 obtain⟨M1,M2,M3,e,g,h1,h2,h3,h4,h5,h6,h7⟩:=h.ex
 exact⟨M3,h4,fun M' q' hq=>⟨M1,M2,M3,e,g,h1,h2,h3,hq,h5,h6,h7⟩⟩
theorem HG{κ β:Type}[DecidableEq κ]{t:List (κ×β)}{k:κ}{v:β}(h:(aH t k).isSome=true):(cS t k v).length=t.length:=by
 unfold cS
 rw[kR,if_pos h,Aa]
theorem tF{κ β:Type}[DecidableEq κ]{t:List (κ×β)}{k:κ}{v:β}(h:aH t k=none):cS t k v=t ++ [(k,v)]:=by
 unfold cS
 rw[kR,h,if_neg (by simp)]
theorem tG{γ:Type}(f:γ->W)(t:List ((Str×Int)×List γ))(k:Str×Int)(z:γ)(j:Str×Int):((aH (e8 t k z) j).map fun xs=>xs.map f)=if k=j then some (((aH t k).getD []).map f ++ [f z]) else(aH t j).map fun xs=>xs.map f:=by
 unfold e8
 rw[j6]
 by_cases h:k=j
 ·rw[if_pos h,if_pos h,Ks,Bf];rfl
 ·rw[if_neg h,if_neg h]
theorem SK.epush(h:SR C E M0 M A st){k:Str×Int}{z:Int×aJ}{R:K3}(hn:st.ends.length < 10000000)(hl:((aH st.ends k).getD []).length < 10000000)(r:∀ M',SR C E M0 M' A {st with ends:=e8 st.ends k z}->R .non M') :
  ∃ kvs,M A.e=some (.dT kvs)/\kvs.length < Ak/\∀ p,M p=none->put M p (.lst []) A.e=some (.dT kvs)/\(∀ w,bA kvs (eK k)=some w->kK "list" w (put M p (.lst []))/\d8 w [jA z] (put M p (.lst [])) R)/\
   (bA kvs (eK k)=none->kK "list" (.ref p) (put (put M p (.lst [])) A.e (.dT (cE kvs (eK k) (.ref p))))/\d8 (.ref p) [jA z] (put (put M p (.lst [])) A.e (.dT (cE kvs (eK k) (.ref p)))) R):=by
 obtain⟨M1,M2,M3,e,g,h1,h2,h3,h4,h5,h6,h7⟩:=h.ex
 have ha:M A.e=some (.dT e):=h4.sub _ _ (h3.sub _ _ h2.at_)
 refine⟨e,ha,eR (by lia),fun p hp=>⟨by rw[aQ (fun z=>by rw[<-z,ha] at hp;cases hp)];exact ha,fun w hw=>?_,fun hw=>?_⟩⟩
 ·obtain⟨xs,hx⟩:∃ xs,aH st.ends k=some xs:=by
   cases q:aH st.ends k with
   | none=>have:=h2.non k (by show(aH _ _).map _=_;rw[q];rfl);rw[hw] at this;cases this
   | some xs=>exact⟨_,rfl⟩
  have hxw:eG st.ends k=some (xs.map jA):=by show(aH _ _).map _=_;rw[hx];rfl
  obtain⟨p',hp1,hp2⟩:=h2.has hxw
  rw[hw] at hp1;cases hp1
  have k3:=h3.sub _ _ hp2
  have h4':=h4.more (o:=.lst []) hp
  have k4:=h4'.sub _ _ k3
  rw[hx] at hl
  refine⟨eT k4,_,k4,eR (by rw[Aa];exact hl),r _ ⟨_,_,_,e,g,h1,(h2.wr (ws:=xs.map jA ++ [jA z]) hw).same fun j=>?_,h3.lift (.inr ⟨_,hp2⟩),h4'.lift (.inr ⟨_,k3⟩),?_,h6,trivial⟩⟩
  ·refine(tG _ _ k z j).trans ?_;rw[hx];rfl
  ·show _<=(cS _ _ _).length
   rw[HG (by rw[hx];rfl)];exact h5
 ·have hx:aH st.ends k=none:=by
   cases q:aH st.ends k with
   | none=>rfl
   | some xs=>obtain⟨p',hp1,_⟩:=h2.has (k:=k) (ws:=xs.map jA) (by show(aH _ _).map _=_;rw[q];rfl);rw[hw] at hp1;cases hp1
  have hxw:eG st.ends k=none:=by show(aH _ _).map _=_;rw[hx];rfl
  have p3:=h4.sub.non hp
  have p2:=h3.sub.non p3
  have t2:=h2.add sZ (ws:=[]) hxw p2
  have hpa:p≠A.e:=fun z=>by rw[z,ha] at hp;cases hp
  have t3:=(h3.lift (o:=.lst []) (.inl p3)).lift (p:=A.e) (o:=.dT (cE e (eK k) (.ref p))) (.inr ⟨.dT e,by rw[aQ (Cg hpa)];exact h2.at_⟩)
  have t4:=(h4.lift (o:=.lst []) (.inl hp)).lift (p:=A.e) (o:=.dT (cE e (eK k) (.ref p))) (.inr ⟨.dT e,by rw[aQ (Cg hpa)];exact h3.sub _ _ h2.at_⟩)
  have lp:bA (cE e (eK k) (.ref p)) (eK k)=some (.ref p):=by rw[nZ,if_pos rfl]
  have g2:put (put M2 p (.lst [])) A.e (.dT (cE e (eK k) (.ref p))) p=some (.lst []):=by rw[aQ hpa,aT]
  have k3:=t3.sub _ _ g2
  have k4:=t4.sub _ _ k3
  refine⟨eT k4,_,k4,eR (by simp),r _ ⟨_,_,_,_,g,h1,(t2.wr (ws:=[jA z]) lp).same fun j=>?_,t3.lift (.inr ⟨_,g2⟩),t4.lift (.inr ⟨_,k3⟩),?_,h6,trivial⟩⟩
  ·refine(tG _ _ k z j).trans ?_
   rw[hx]
   by_cases hj:k=j
   ·rw[if_pos hj,if_pos hj];rfl
   ·rw[if_neg hj,if_neg hj,if_neg hj]
  ·show _<=(cS _ _ _).length
   rw[tF hx,Af,Bl]
   have:=xB e (eK k) (W.ref p)
   lia
theorem SK.gpush(h:SR C E M0 M A st){k:Str×Int}{z:bZ}{R:K3}(hn:st.begun.length < 10000000)(hl:((aH st.begun k).getD []).length < 10000000)(r:∀ M',SR C E M0 M' A {st with begun:=e8 st.begun k z}->R .non M') :
  ∃ kvs,M A.g=some (.dT kvs)/\kvs.length < Ak/\∀ p,M p=none->put M p (.lst []) A.g=some (.dT kvs)/\(∀ w,bA kvs (eK k)=some w->kK "list" w (put M p (.lst []))/\d8 w [jB z] (put M p (.lst [])) R)/\
   (bA kvs (eK k)=none->kK "list" (.ref p) (put (put M p (.lst [])) A.g (.dT (cE kvs (eK k) (.ref p))))/\d8 (.ref p) [jB z] (put (put M p (.lst [])) A.g (.dT (cE kvs (eK k) (.ref p)))) R):=by
 obtain⟨M1,M2,M3,e,g,h1,h2,h3,h4,h5,h6,h7⟩:=h.ex
 have ha:M A.g=some (.dT g):=h4.sub _ _ h3.at_
 refine⟨g,ha,eR (by lia),fun p hp=>⟨by rw[aQ (fun z=>by rw[<-z,ha] at hp;cases hp)];exact ha,fun w hw=>?_,fun hw=>?_⟩⟩
 ·obtain⟨xs,hx⟩:∃ xs,aH st.begun k=some xs:=by
   cases q:aH st.begun k with
   | none=>have:=h3.non k (by show(aH _ _).map _=_;rw[q];rfl);rw[hw] at this;cases this
   | some xs=>exact⟨_,rfl⟩
  have hxw:gG st.begun k=some (xs.map jB):=by show(aH _ _).map _=_;rw[hx];rfl
  obtain⟨p',hp1,hp2⟩:=h3.has hxw
  rw[hw] at hp1;cases hp1
  have h4':=h4.more (o:=.lst []) hp
  have k4:=h4'.sub _ _ hp2
  rw[hx] at hl
  refine⟨eT k4,_,k4,eR (by rw[Aa];exact hl),r _ ⟨_,_,_,e,g,h1,h2,(h3.wr (ws:=xs.map jB ++ [jB z]) hw).same fun j=>?_,h4'.lift (.inr ⟨_,hp2⟩),h5,?_,trivial⟩⟩
  ·refine(tG _ _ k z j).trans ?_;rw[hx];rfl
  ·show _<=(cS _ _ _).length
   rw[HG (by rw[hx];rfl)];exact h6
 ·have hx:aH st.begun k=none:=by
   cases q:aH st.begun k with
   | none=>rfl
   | some xs=>obtain⟨p',hp1,_⟩:=h3.has (k:=k) (ws:=xs.map jB) (by show(aH _ _).map _=_;rw[q];rfl);rw[hw] at hp1;cases hp1
  have hxw:gG st.begun k=none:=by show(aH _ _).map _=_;rw[hx];rfl
  have p3:=h4.sub.non hp
  have t3:=h3.add sZ (ws:=[]) hxw p3
  have hpa:p≠A.g:=fun z=>by rw[z,ha] at hp;cases hp
  have t4:=(h4.lift (o:=.lst []) (.inl hp)).lift (p:=A.g) (o:=.dT (cE g (eK k) (.ref p))) (.inr ⟨.dT g,by rw[aQ (Cg hpa)];exact h3.at_⟩)
  have lp:bA (cE g (eK k) (.ref p)) (eK k)=some (.ref p):=by rw[nZ,if_pos rfl]
  have g2:put (put M3 p (.lst [])) A.g (.dT (cE g (eK k) (.ref p))) p=some (.lst []):=by rw[aQ hpa,aT]
  have k4:=t4.sub _ _ g2
  refine⟨eT k4,_,k4,eR (by simp),r _ ⟨_,_,_,e,_,h1,h2,(t3.wr (ws:=[jB z]) lp).same fun j=>?_,t4.lift (.inr ⟨_,g2⟩),h5,?_,trivial⟩⟩
  ·refine(tG _ _ k z j).trans ?_
   rw[hx]
   by_cases hj:k=j
   ·rw[if_pos hj,if_pos hj];rfl
   ·rw[if_neg hj,if_neg hj,if_neg hj]
  ·show _<=(cS _ _ _).length
   rw[tF hx,Af,Bl]
   have:=xB g (eK k) (W.ref p)
   lia
theorem SK.ends_at(h:SR C E M0 M A st)(k:Str×Int):∃ kvs,M A.e=some (.dT kvs)/\((bA kvs (eK k)=none/\aH st.ends k=none)\/∃ p xs,bA kvs (eK k)=some (.ref p)/\aH st.ends k=some xs/\SK C E M0 M A st (some (p,xs.map jA))):=by
 obtain⟨M1,M2,M3,e,g,h1,h2,h3,h4,h5,h6,h7⟩:=h.ex
 refine⟨e,h4.sub _ _ (h3.sub _ _ h2.at_),?_⟩
 cases q:aH st.ends k with
 | none=>exact .inl ⟨h2.non k (by show(aH _ _).map _=_;rw[q];rfl),rfl⟩
 | some xs=>
  obtain⟨p,hp1,hp2⟩:=h2.has (k:=k) (ws:=xs.map jA) (by show(aH _ _).map _=_;rw[q];rfl)
  exact .inr ⟨p,xs,hp1,rfl,M1,M2,M3,e,g,h1,h2,h3,h4,h5,h6,h3.sub _ _ hp2⟩
theorem SK.begun_at(h:SR C E M0 M A st)(k:Str×Int):∃ kvs,M A.g=some (.dT kvs)/\((bA kvs (eK k)=none/\aH st.begun k=none)\/∃ p xs,bA kvs (eK k)=some (.ref p)/\aH st.begun k=some xs/\SK C E M0 M A st (some (p,xs.map jB))):=by
 obtain⟨M1,M2,M3,e,g,h1,h2,h3,h4,h5,h6,h7⟩:=h.ex
 refine⟨g,h4.sub _ _ h3.at_,?_⟩
 cases q:aH st.begun k with
 | none=>exact .inl ⟨h3.non k (by show(aH _ _).map _=_;rw[q];rfl),rfl⟩
 | some xs=>
  obtain⟨p,hp1,hp2⟩:=h3.has (k:=k) (ws:=xs.map jB) (by show(aH _ _).map _=_;rw[q];rfl)
  exact .inr ⟨p,xs,hp1,rfl,M1,M2,M3,e,g,h1,h2,h3,h4,h5,h6,hp2⟩
theorem SK.eput(h:SR C E M0 M A st){nm:Str}{b:Int}{z:Int×aJ}{R:K3}{τ:S3}{tk:aY}{t:dE}(e0:τ[0]? = some (some (.ref A.s)))(ek:∀ M1 Q,Q (W.tup [.str nm,.int b]) M1->tk τ M1 Q)(et:∀ M1 Q,Q [jA z] M1->t τ M1 Q)(hn:st.ends.length < 10000000)(hl:((aH st.ends (nm,b)).getD []).length < 10000000)(r:∀ M',SR C E M0 M' A {st with ends:=e8 st.ends (nm,b) z}->R .non M') :
  cQ "list" d8 (cQ "dict" pU (cY C.s (aA 0) "ends") (aB tk (aB (iC aD) aD))) t τ M R:=by
 obtain⟨kvs,h1,h2,h3⟩:=h.epush hn hl r
 refine⟨_,e0,A.s,A.d,_,_,rfl,h.os,HE,pV h1,ek _ _ ⟨Cd _,fun p hp=>?_⟩⟩
 obtain⟨h4,h5,h6⟩:=h3 p hp
 exact⟨kvs,eK (nm,b),h4,rfl,h2,fun w hw=>⟨(h5 w hw).1,et _ _ (h5 w hw).2⟩,fun hn=>⟨(h6 hn).1,et _ _ (h6 hn).2⟩⟩
theorem SK.gput(h:SR C E M0 M A st){nm:Str}{b:Int}{z:bZ}{R:K3}{τ:S3}{tk:aY}{t:dE}(e0:τ[0]? = some (some (.ref A.s)))(ek:∀ M1 Q,Q (W.tup [.str nm,.int b]) M1->tk τ M1 Q)(et:∀ M1 Q,Q [jB z] M1->t τ M1 Q)(hn:st.begun.length < 10000000)(hl:((aH st.begun (nm,b)).getD []).length < 10000000)(r:∀ M',SR C E M0 M' A {st with begun:=e8 st.begun (nm,b) z}->R .non M') :
  cQ "list" d8 (cQ "dict" pU (cY C.s (aA 0) "begun") (aB tk (aB (iC aD) aD))) t τ M R:=by
 obtain⟨kvs,h1,h2,h3⟩:=h.gpush hn hl r
 refine⟨_,e0,A.s,A.d,_,_,rfl,h.os,HF,pV h1,ek _ _ ⟨Cd _,fun p hp=>?_⟩⟩
 obtain⟨h4,h5,h6⟩:=h3 p hp
 exact⟨kvs,eK (nm,b),h4,rfl,h2,fun w hw=>⟨(h5 w hw).1,et _ _ (h5 w hw).2⟩,fun hn=>⟨(h6 hn).1,et _ _ (h6 hn).2⟩⟩
end
def pX:bH:=fun ws M R=>∃ ts:List Str,ws=[.rl (ts.map W.str)]/\ts.length<=400/\R (.dk ((ts.foldl fB []).map fF)) M
def ownOf(rs:List aV):List (aG×W):=((namesOf rs).foldl fB []).map fF
def xM:bH:=fun ws M R=>∃ a b:aJ,ws=[cW a,cW b]/\R (cW (eA a b)) M
structure Sm(st:SS)(k:Nat):Prop where
 q:(a6 st.q).length + k < 10000000
 r:st.reached.length + k < 10000000
def pY(C:Cc):bH:=fun ws M R=>∃ (E:Env) (M0:Mm) (A:Ad) (st:SS) (n:Nat) (cut:List Int) (c:aJ) (kp:Option (Addr×List W)),ws=[.ref A.s,.int n,fZ cut,cW c]/\SK C E M0 M A st kp/\cut≠[]/\Sm st 1/\∀ M',SK C E M0 M' A (reach st n cut c) kp->R .non M'
def HH(C:Cc):bH:=fun ws M R=>∃ (E:Env) (M0:Mm) (A:Ad) (st:SS) (n:Nat) (cut:List Int) (c:aJ) (part:Str),ws=[.ref A.s,.int n,fZ cut,cW c,.tup [.str part,.int (cut.getLastD 0)]]/\SR C E M0 M A st/\cut≠[]/\cut.length < 1000/\Sm st ((aH st.ends (part,cut.getLastD 0)).getD []).length/\st.begun.length < 10000000/\((aH st.begun (part,cut.getLastD 0)).getD []).length < 10000000/\∀ M',SR C E M0 M' A (fT st n cut c part)->R .non M'
def HI(C:Cc):bH:=fun ws M R=>∃ (G:Sr) (E:Env) (M0:Mm) (A:Ad) (st:SS) (n:Nat) (cut:List Int) (c:aJ),ws=[.ref A.s,.int n,fZ cut,cW c]/\SR C E M0 M A st/\G.rs=E.rs/\n < E.rs.length/\cut≠[]/\(∀ key,∀ y∈(aH st.begun key).getD [],y.2.1.length < 1000/\y.2.1≠[])/\Sm st ((aH st.begun (c8 G n,cut.headD 0)).getD []).length/\st.best.length < 10000000/\st.ends.length < 10000000/\((aH st.ends (c8 G n,cut.headD 0)).getD []).length < 10000000/\∀ M',SR C E M0 M' A (settle G st n cut c)->R .non M'
structure HJ(G:Sr)(E:Env):Prop where
 rs:G.rs=E.rs
 own:∀ t,(bA E.own (Sum.inr t:aG)).isSome=G.own t
 stp:∀ t p,(bA E.stp (eK (t,p))=none/\G.steps t p=[])\/bA E.stp (eK (t,p))=some (.rl ((G.steps t p).map fun z=>.tup [.int z.1,.int z.2]))
structure Rm(G:Sr)(st:SS):Prop where
 item:∀ c n cut q',hV st.q=some (c,(n,cut),q')->cut≠[]/\cut.length < 1000/\n < G.rs.length/\∃ d,aH st.reached (bN n cut)=some d
 bg:∀ key,∀ y∈(aH st.begun key).getD [],y.2.1.length < 1000/\y.2.1≠[]
 b:st.best.length < 10000000
 e:st.ends.length < 10000000
 g:st.begun.length < 10000000
 el:∀ key,((aH st.ends key).getD []).length < 10000000/\Sm st ((aH st.ends key).getD []).length
 gl:∀ key,((aH st.begun key).getD []).length < 10000000/\Sm st ((aH st.begun key).getD []).length
 sl:∀ t p,Sm st (G.steps t p).length
def HK(C:Cc):bH:=fun ws M R=>∃ (G:Sr) (E:Env) (M0:Mm) (A:Ad) (st:SS),ws=[.ref A.s]/\SR C E M0 M A st/\HJ G E/\st.q≠[]/\Rm G st/\∀ M',SR C E M0 M' A (kT G st)->R .non M'
def HL(C:Cc):bH:=fun ws M R=>∃ (M0:Mm) (s dx:Addr) (rs:List aV) (stp:List (List aG×W)),ws=[.ref s,cJ rs,.dt stp]/\rs.length<=100/\M=put M0 s (.ins C.s dx [])/\M0 s=none/\∀ M' (A:Ad),A.s=s->SR C ⟨rs,ownOf rs,stp⟩ M0 M' A gL->R .non M'
def xN(G:Sr):Nat->SS
 | 0=>j7 G
 | n + 1=>kT G (xN G n)
def dC(G:Sr)(B:bE):Prop:=∃ (S I0:Nat) (st:SS) (P:List bZ) (cur:aJ) (T:Nat),All G S I0 st P cur T/\st.q=[]/\st.best=B/\st=xN G T
def xO(C:Cc):bH:=fun ws M R=>∃ (G:Sr) (E:Env) (V:List Int) (L S:Nat),ws=[cJ E.rs,.rl (G.places.map W.int),.dt E.stp,.rl ((Cw G.rs.length).map fun n=>.int (G.wt n))]/\E.rs.length<=100/\E.own=ownOf E.rs/\HJ G E/\nX G/\pR G V G.rs.length L/\L < 1000/\G.places.length<=1000/\(∀ t p,(G.steps t p).length<=S)/\
 (i8 G).length + G.rs.length * ((L + 1) * (V.length * V.length)) * (S + V.length) + G.rs.length * ((L + 1) * (V.length * V.length)) + V.length + S + 1 < 10000000/\∀ B,dC G B->iN (dX fK fG B) M R
abbrev X4:List Str:=["things"]
def X5:aI:=
   (bS (bY GJ (aB (cM (fW (dG eO (aA 0)) (bW 0) i5 (bK (aB (aA 0) (aB (vC (.bl true)) aD))) [none])) aD)))
abbrev X6:List Str:=["cost","other"]
def X7:aI:=
   (bS (bK (aB (aE dH (aE aW (aA 0) (vC (.int 0))) (aE aW (aA 1) (vC (.int 0)))) (aB (aE dH (aE aW (aA 0) (vC (.int 1))) (aE aW (aA 1) (vC (.int 1)))) aD))))
abbrev X8:List Str:=["self","grammar","steps"]
def X9(C:Cc):aI:=
   (jM C.s (aA 0) "grammar" (aA 1))
def YA(C:Cc):aI:=
   (jM C.s (aA 0) "own" (bJ pX (aB (cM (bJ pW (aB (aA 1) aD))) aD)))
def YB(C:Cc):aI:=
   (jM C.s (aA 0) "steps" (aA 2))
def HM(C:Cc):aI:=
   (jM C.s (aA 0) "queue" (sQ C.q (G8 C) aD))
def YC(C:Cc):aI:=
   (jM C.s (aA 0) "reached" lN)
def YD(C:Cc):aI:=
   (jM C.s (aA 0) "best" lN)
def YE(C:Cc):aI:=
   (jM C.s (aA 0) "ends" lN)
def YF(C:Cc):aI:=
   (jM C.s (aA 0) "begun" lN)
def YG(C:Cc):aI:=(aN (X9 C) (aN (YA C) (aN (YB C) (aN (HM C) (aN (YC C) (aN (YD C) (aN (YE C) (YF C))))))))
abbrev YH:List Str:=["self","number","cut","cost","key"]
def YI(C:Cc):aI:=
   (aN (bB 4 (bK (aB (aA 1) (aB (bY dA (aB (aA 2) aD)) (aB (aE aW (aA 2) (vC (.int 0))) (aB (aE aW (aA 2) (jI jJ (vC (.int 1)))) aD))))))
   (cN (rN (bU (aE (rIn true) (aA 4) (cY C.s (aA 0) "reached"))) (bU (aE xA (aA 3) (aE aW (cY C.s (aA 0) "reached") (aA 4)))))
    (aN (iZ (aA 3) (j3 (cY C.s (aA 0) "reached") (aA 4)))
   (cR (hW C.q "put" (xE C) (cY C.s (aA 0) "queue") (aB (aA 3) (aB (bK (aB (aA 1) (aB (aA 2) aD))) aD)))))
    eN))
abbrev YJ:List Str:=["self","taken","cost","number","cut","parts","end","price"]
def YK(C:Cc):aI:=
   (bB 1 (hW C.q "take" (HB C) (cY C.s (aA 0) "queue") aD))
def YL(C:Cc):aI:=
   (bB 2 (aE aW (aA 1) (vC (.int 0))))
def YM(C:Cc):aI:=
   (bB 3 (aE aW (aE aW (aA 1) (vC (.int 1))) (vC (.int 0))))
def YN(C:Cc):aI:=
   (bB 4 (aE aW (aE aW (aA 1) (vC (.int 1))) (vC (.int 1))))
def YO(C:Cc):aI:=
   (cN (bU (aE xA (aE aW (cY C.s (aA 0) "reached") (bK (aB (aA 3) (aB (bY dA (aB (aA 4) aD)) (aB (aE aW (aA 4) (vC (.int 0))) (aB (aE aW (aA 4) (jI jJ (vC (.int 1)))) aD)))))) (aA 2)))
    wB
    eN)
def YQ(C:Cc):aI:=
   (bB 5 (aE aW (aE aW (cY C.s (aA 0) "grammar") (aA 3)) (vC (.int 1))))
def YR(C:Cc):aI:=
   (cN (bU (aE vW (bY dA (aB (aA 4) aD)) (bY dA (aB (aA 5) aD))))
    (cR (hW C.s "settle" (HI C) (aA 0) (aB (aA 3) (aB (aA 4) (aB (aA 2) aD)))))
    (cN (bU (aE (rIn false) (aE aW (aA 5) (aE mL (bY dA (aB (aA 4) aD)) (vC (.int 1)))) (cY C.s (aA 0) "own")))
    (cR (hW C.s "step_by_name" (HH C) (aA 0) (aB (aA 3) (aB (aA 4) (aB (aA 2) (aB (bK (aB (aE aW (aA 5) (aE mL (bY dA (aB (aA 4) aD)) (vC (.int 1)))) (aB (aE aW (aA 4) (jI jJ (vC (.int 1)))) aD))) aD))))))
    (fS (dG nS (cQ "dict" sR (cY C.s (aA 0) "steps") (aB (bK (aB (aE aW (aA 5) (aE mL (bY dA (aB (aA 4) aD)) (vC (.int 1)))) (aB (aE aW (aA 4) (jI jJ (vC (.int 1)))) aD))) (aB (fX aD) aD)))) (kP 2 (gC (bW 6) (gC (bW 7) kO)))
    (cR (hW C.s "reach" (pY C) (aA 0) (aB (aA 3) (aB (aE dH (aA 4) (bK (aB (aA 6) aD))) (aB (bK (aB (aE dH (aE aW (aA 2) (vC (.int 0))) (aA 7)) (aB (aE aW (aA 2) (vC (.int 1))) aD))) aD))))))))
def YS(C:Cc):aI:=(aN (YK C) (aN (YL C) (aN (YM C) (aN (YN C) (aN (YO C) (aN (YQ C) (YR C)))))))
abbrev YT:List Str:=["self","number","cut","cost","key","end","more"]
def YU(C:Cc):aI:=
   (aN (cR (cQ "list" d8 (cQ "dict" pU (cY C.s (aA 0) "begun") (aB (aA 4) (aB (iC aD) aD))) (aB (bK (aB (aA 1) (aB (aA 2) (aB (aA 3) aD)))) aD)))
   (fS (dG nS (cQ "dict" sR (cY C.s (aA 0) "ends") (aB (aA 4) (aB (fX aD) aD)))) (kP 2 (gC (bW 5) (gC (bW 6) kO)))
    (cR (hW C.s "reach" (pY C) (aA 0) (aB (aA 1) (aB (aE dH (aA 2) (bK (aB (aA 5) aD))) (aB (bJ xM (aB (aA 3) (aB (aA 6) aD))) aD)))))))
abbrev YV:List Str:=["self","number","cut","cost","key","fact","other","before","paid"]
def YW(C:Cc):aI:=
   (bB 4 (bK (aB (aE aW (aE aW (cY C.s (aA 0) "grammar") (aA 1)) (vC (.int 0))) (aB (aE aW (aA 2) (vC (.int 0))) aD))))
def YX(C:Cc):aI:=
   (bB 5 (aE dH (aA 4) (bK (aB (aE aW (aA 2) (jI jJ (vC (.int 1)))) aD))))
def YY(C:Cc):aI:=
   (cN (bU (aE (rIn false) (aA 5) (cY C.s (aA 0) "best")))
    wB
    eN)
def YZ(C:Cc):aI:=
   (iZ (bK (aB (aA 3) (aB (aA 1) (aB (aA 2) aD)))) (j3 (cY C.s (aA 0) "best") (aA 5)))
def Y0(C:Cc):aI:=
   (cR (cQ "list" d8 (cQ "dict" pU (cY C.s (aA 0) "ends") (aB (aA 4) (aB (iC aD) aD))) (aB (bK (aB (aE aW (aA 2) (jI jJ (vC (.int 1)))) (aB (aA 3) aD))) aD)))
def Y1(C:Cc):aI:=
   (cR (hW C.s "reach" (pY C) (aA 0) (aB (aA 6) (aB (aE dH (aA 7) (bK (aB (aE aW (aA 2) (jI jJ (vC (.int 1)))) aD))) (aB (bJ xM (aB (aA 8) (aB (aA 3) aD))) aD)))))
def Y2(C:Cc):aI:=
   (fS (dG nS (cQ "dict" sR (cY C.s (aA 0) "begun") (aB (aA 4) (aB (fX aD) aD)))) (kP 3 (gC (bW 6) (gC (bW 7) (gC (bW 8) kO)))) (Y1 C))
def Y3(C:Cc):aI:=(aN (YW C) (aN (YX C) (aN (YY C) (aN (YZ C) (aN (Y0 C) (Y2 C))))))
abbrev Y4:List Str:=["grammar","places","steps","weights","search","number","place"]
def Y5(C:Cc):aI:=
   (bB 4 (sQ C.s (HL C) (aB (aA 0) (aB (aA 2) aD))))
def Y6(C:Cc):aI:=
   (fS (dG eO (aA 1)) (bW 6)
    (cR (hW C.s "reach" (pY C) (aA 4) (aB (aA 5) (aB (bK (aB (aA 6) aD)) (aB (bK (aB (aE aW (aA 3) (aA 5)) (aB (vC (.int 1)) aD))) aD))))))
def Y7(C:Cc):aI:=
   (fS (pI (aB (bY dA (aB (aA 0) aD)) aD)) (bW 5) (Y6 C))
def Y8(C:Cc):aI:=
   (cR (hW C.s "take_next" (HK C) (aA 4) aD))
def Y9(C:Cc):aI:=
   (pH (vL (rL (hW C.q "is_done" (G9 C) (cY C.s (aA 4) "queue") aD))) (Y8 C))
def ZA(C:Cc):aI:=
   (bS (cY C.s (aA 4) "best"))
def ZC(C:Cc):aI:=(aN (Y5 C) (aN (Y7 C) (aN (Y9 C) (ZA C))))
theorem HN:∀ (ts acc:List Str),sO (acc.map fF) (ts.map fF)=(ts.foldl fB acc).map fF
 | [],acc=>rfl
 | t :: r,acc=>by
  show sO (cE (acc.map fF) (Sum.inr t) (.bl true)) (r.map fF)=_
  rw[xG,HN,Dz]
theorem ZD{ws:List W}{M:Mm}{R:K3}(h:pX ws M R):X5 (bI R) (bP X4 ws) M:=by
 obtain⟨ts,rfl,hl,r⟩:=h
 have l:(ts.map W.str).length<=Ak:=eP (by rw[Aa];exact Ao hl (by decide))
 refine⟨_,rfl,fP (nT (rest:=[]) (fun w=>.tup [w,.bl true]) l (fun _ _=>trivial) (fun w hw M' C sb h1=>⟨_,rfl,z2,h1⟩) (aZ.frz ⟨ts.map fF,?_,by rw[Aa];exact l,_,Sub.refl _,?_⟩))⟩
 ·unfold sP
  rw[Bv,Bv];rfl
 ·rw[show([]:List (aG×W))=([]:List Str).map fF from rfl,HN]
  exact r
theorem ZE{ws:List W}{M:Mm}{R:K3}(h:xM ws M R):X7 (bI R) (bP X6 ws) M:=by
 obtain⟨a,b,rfl,r⟩:=h
 exact⟨_,rfl,_,rfl,_,rfl,_,rfl,_,rfl,_,rfl,_,rfl,_,rfl,z2,_,Sub.refl _,r⟩
variable {α:Type}
theorem xP{cut:List Int}(h:cut≠[]):cC (cut.map W.int) 0=some (.int (cut.headD 0)):=by
 cases cut with
 | nil=>exact absurd rfl h
 | cons a t=>exact UZ _ _
theorem mX{cut:List Int}(h:cut≠[]):cC (cut.map W.int) (-1)=some (.int (cut.getLastD 0)):=by
 rcases Ed cut with z | ⟨a,b,z⟩
 ·exact absurd z h
 ·rw[z,Ee,Bf]
  refine(DL _ _).trans ?_
  simp[Ht]
theorem HP{n:Nat}{cut:List Int}:W.tup [.int n,.int (cut.map W.int).length,.int (cut.headD 0),.int (cut.getLastD 0)]=.tup ((j9 (bN n cut)).map wK):=by
 rw[Aa];rfl
theorem ZF{M:Mm}{a:Addr}{t:List (K4×aJ)}{n:Nat}{cut:List Int}{d:aJ}{R:K3}(h:M a=some (.dT (dX j9 cW t)))(hd:aH t (bN n cut)=some d)(r:R (cW d) M):L3.aW (.ref a) (.tup [.int n,.int (cut.map W.int).length,.int (cut.headD 0),.int (cut.getLastD 0)]) M R:=by rw[HP];exact mW h (by rw[jC tB,hd];rfl) r
theorem HQ{C:Cc}{E:Env}{M0 M:Mm}{A:Ad}{st:SS}{n:Nat}{cut:List Int}{c:aJ}{R:K3}{kp:Option (Addr×List W)}(hs:SK C E M0 M A st kp)(sm:Sm st 1)(r:∀ M',SK C E M0 M' A {st with reached:=cS st.reached (bN n cut) c,q:=dU c (n,cut) st.q} kp->R .non M') :
  aN (iZ (aA 3) (j3 (cY C.s (aA 0) "reached") (aA 4))) (cR (hW C.q "put" (xE C) (cY C.s (aA 0) "queue") (aB (aA 3) (aB (bK (aB (aA 1) (aB (aA 2) aD))) aD)))) (bI R) [some (W.ref A.s),some (W.int n),some (fZ cut),some (cW c),some (W.tup (Ji wK (j9 (bN n cut))))] M:=by
 have h1:=sm.q
 have h2:=sm.r
 refine⟨_,rfl,_,rfl,A.s,A.d,_,_,rfl,hs.os,tD,_,rfl,nV hs.or (eR (by rw[Aa];lia)) ?_⟩
 rw[xH tB]
 have hs1:=hs.rput (cS st.reached (bN n cut) c)
 obtain⟨M3,hq,back⟩:=hs1.que
 exact⟨_,rfl,A.s,A.d,_,_,rfl,hs1.os,xJ,A.Q.o,A.Q.d,qf A.Q,rfl,hq.ob,WN,_,rfl,_,rfl,_,rfl,z2,M3,A.Q,_,c,(n,cut),rfl,hq,(by rw[sF];exact h1),fun M' h'=>⟨M',Sub.refl _,r M' (back M' _ h')⟩⟩
theorem ZG{C:Cc}{ws:List W}{M:Mm}{R:K3}(h:pY C ws M R):YI C (bI R) (bP YH ws) M:=by
 obtain⟨E,M0,A,st,n,cut,c,kp,rfl,hs,hcut,sm,r⟩:=h
 refine xI rfl (xI rfl (xI rfl ⟨_,xP hcut,xI rfl ⟨_,mX hcut,z4,?_⟩⟩))
 rw[HP]
 refine xI rfl (xI rfl ⟨A.s,A.d,_,xI rfl ⟨hs.os,tD,.inr ⟨_,.inr ⟨_,_,hs.or,rfl,rfl⟩,xI rfl ?_⟩⟩⟩)
 rw[jC tB]
 cases hr:aH st.reached (bN n cut) with
 | none=>
  refine bC (fun _=>XT (HQ hs sm fun M' h'=>r M' ?_)) fun h=>nomatch (show true=false from h)
  unfold reach;rw[hr];exact h'
 | some d=>
  refine bC (fun h=>nomatch (show false=true from h)) fun _=>xI rfl (xI rfl ⟨A.s,A.d,_,xI rfl ⟨hs.os,tD,xI rfl (mW hs.or (by rw[jC tB,hr];rfl) ⟨c.1,c.2,d.1,d.2,rfl,rfl,xI rfl (bC (fun hl=>HQ hs sm fun M' h'=>r M' ?_) fun hl=>⟨M,Sub.refl _,r M ?_⟩)⟩)⟩⟩)
  ·unfold reach;rw[hr];simp only;rw[if_pos (show cL c d=true from hl)];exact h'
  ·unfold reach;rw[hr];simp only;rw[if_neg (ne_true_of_eq_false (show cL c d=false from hl))];exact hs
theorem Sm.reach{st:SS}{k:Nat}(h:Sm st (k + 1))(n:Nat)(cut:List Int)(c:aJ):Sm (Rg.reach st n cut c) k:=by
 obtain⟨j,h1,h2,h3⟩:=GB st n cut c
 have:=h.q
 have:=h.r
 exact⟨by lia,by lia⟩
theorem Sm.le{st:SS}{k j:Nat}(h:Sm st k)(hj:j<=k):Sm st j:=⟨by have:=h.q;lia,by have:=h.r;lia⟩
def eX(f:α->Nat×List Int×aJ)(xs:List α)(st:SS):SS:=xs.foldl (fun st x=>reach st (f x).1 (f x).2.1 (f x).2.2) st
theorem tH{f:α->Nat×List Int×aJ}{xs:List α}{st:SS}{i:Nat}{x:α}(h:xs[i]? = some x):eX f (xs.take (i + 1)) st=reach (eX f (xs.take i) st) (f x).1 (f x).2.1 (f x).2.2:=by
 unfold eX
 rw[Eu,h,Ip];rfl
theorem n8{f:α->Nat×List Int×aJ}:∀ {xs:List α} {st:SS} {k:Nat},Sm st (xs.length + k)->Sm (eX f xs st) k
 | [],st,k,h=>by simp at h;exact h
 | x :: xs,st,k,h=>by
  show Sm (eX f xs (reach st (f x).1 (f x).2.1 (f x).2.2)) k
  exact n8 (Sm.reach (by rw[Ar] at h;exact h.le (by lia)) _ _ _)
theorem pZ{f:α->Nat×List Int×aJ}:∀ {xs:List α} {st:SS},(eX f xs st).ends=st.ends/\(eX f xs st).begun=st.begun/\(eX f xs st).best=st.best
 | [],st=>⟨rfl,rfl,rfl⟩
 | x :: xs,st=>by
  have h1:=pZ (f:=f) (xs:=xs) (st:=reach st (f x).1 (f x).2.1 (f x).2.2)
  have h2:∀ n cut c,(reach st n cut c).ends=st.ends/\(reach st n cut c).begun=st.begun/\(reach st n cut c).best=st.best:=by
   intro n cut c
   unfold reach
   split
   ·split <;> exact⟨rfl,rfl,rfl⟩
   ·exact⟨rfl,rfl,rfl⟩
  obtain⟨a1,a2,a3⟩:=h2 (f x).1 (f x).2.1 (f x).2.2
  exact⟨h1.1.trans a1,h1.2.1.trans a2,h1.2.2.trans a3⟩
theorem ZH{C:Cc}{ws:List W}{M:Mm}{R:K3}(h:HH C ws M R):YU C (bI R) (bP YT ws) M:=by
 obtain⟨E,M0,A,st,n,cut,c,part,rfl,hs,hcut,hcl,sm,hb,hb2,r⟩:=h
 refine SK.gput hs (z:=(n,cut,c)) rfl (fun M1 Q h=>xI rfl h) (fun M1 Q h=>xI rfl (xI rfl (xI rfl ⟨z3,h⟩))) hb hb2 fun M1 hs1=>?_
 have hf:=hs1.ends_at (part,cut.getLastD 0)
 obtain⟨kvs,he,hc⟩:=hf
 refine xI rfl ⟨A.s,A.d,_,xI rfl ⟨hs1.os,HE,pV he,xI rfl ⟨Cd _,_,.inr ⟨kvs,eK (part,cut.getLastD 0),he,rfl,rfl⟩,?_⟩⟩⟩
 rcases hc with⟨h1,h2⟩ | ⟨p,xs,h1,h2,hk⟩
 ·rw[h1]
  refine xF rfl (nR (fun i τ M'=>M'=M1) rfl (fun _ _ _ _ _=>trivial) (fun i w τ M' hw=>nomatch hw) fun τ M' e=>⟨_,Sub.refl _,r _ ?_⟩)
  rw[e]
  unfold fT
  rw[show aH st.ends (part,cut.getLastD 0)=none from h2]
  exact hs1
 ·rw[h1]
  obtain⟨f,hf⟩:∃ f:Int×aJ->Nat×List Int×aJ,f=fun z=>(n,cut ++ [z.1],eA c z.2):=⟨_,rfl⟩
  obtain⟨st1,hst1⟩:∃ st1,st1 = {st with begun:=e8 st.begun (part,cut.getLastD 0) (n,cut,c)}:=⟨_,rfl⟩
  rw[<-hst1] at hk
  have sm1:Sm st1 xs.length:=by
   rw[show aH st.ends (part,cut.getLastD 0)=some xs from h2] at sm
   rw[hst1];exact⟨sm.q,sm.r⟩
  refine⟨_,hk.kept,nR (fun i τ M'=>∃ o5 o6,τ=[some (.ref A.s),some (.int n),some (fZ cut),some (cW c),some (.tup [.str part,.int (cut.getLastD 0)]),o5,o6]/\SK C E M0 M' A (eX f (xs.take i) st1) (some (p,xs.map jA))) ⟨_,xI rfl hk⟩ (fun i τ M' _ ⟨_,_,_,h⟩=>h.kept) ?_ ?_⟩
  ·rintro i w τ M' hw ⟨o5,o6,rfl,hk'⟩
   rw[Au] at hw
   obtain⟨z,hz,rfl⟩:=Bk.mp hw
   have hi:=(Ah.mp hz).1
   have smi:Sm (eX f (xs.take i) st1) 1:=n8 (sm1.le (by rw[Bj];lia))
   have e1:W.tup (Ji W.int cut ++ [W.int z.1])=fZ (cut ++ [z.1]):=by unfold fZ;rw[Bf];rfl
   refine⟨rfl,rfl,xI rfl ⟨A.s,A.d,xI rfl ⟨hk'.os,tE,xI rfl (xI rfl (xI rfl ⟨z1,by simpa using hcut,by rw[Aa];exact Ao hcl (eP (by decide)),xI rfl (xI rfl ⟨c,z.2,rfl,E,M0,A,_,n,cut ++ [z.1],eA c z.2,_,by rw[e1],hk',by simp,smi,fun M2 hk2=>⟨M2,Sub.refl _,_,xI rfl ?_⟩⟩)⟩))⟩⟩⟩
   rw[tH hz,hf]
   rw[hf] at hk2
   exact hk2
  ·rintro τ M' ⟨o5,o6,rfl,hk'⟩
   rw[Aa,Ck] at hk'
   refine⟨_,Sub.refl _,r _ ?_⟩
   unfold fT
   rw[show aH st.ends (part,cut.getLastD 0)=some xs from h2]
   rw[hst1,hf] at hk'
   exact hk'.free
end Rg
namespace Rg
open PySem PySem.Spec PyProof.Rows L2 L3
theorem tI{rs:List aV}{n:Nat}(h:n < rs.length):∃ r,rs[n]? = some r/\cC (rs.map eS) (n:Int)=some (eS r):=by
 refine⟨rs[n],Ax h,iL ?_⟩
 rw[Au,Ax h];rfl
theorem ZI{bs:bE}{k:a7}{v:aJ×Nat×List Int}(h:aH bs k=none):cE (dX fK fG bs) (fK k) (fG v)=dX fK fG (bs ++ [(k,v)]):=by
 rw[xH jO,tF h]
theorem ZJ{C:Cc}{ws:List W}{M:Mm}{R:K3}(h:HI C ws M R):Y3 C (bI R) (bP YV ws) M:=by
 obtain⟨G,E,M0,A,st,n,cut,c,rfl,hs,hG,hn,hcut,hbg,sm,hb,he,hel,r⟩:=h
 obtain⟨ru,hr1,hr2⟩:=tI hn
 have hfn:c8 G n=ru.name:=by unfold c8;rw[hG,hr1]
 have hfact:cP G n cut=(ru.name,cut.headD 0,cut.getLastD 0):=by unfold cP;rw[hfn]
 rw[hfn] at sm hel
 refine xI rfl ⟨A.s,A.d,_,xI rfl ⟨hs.os,HD,xI rfl ⟨_,hr2,xI rfl (xI rfl ⟨_,xP hcut,z2,xI rfl (xI rfl ⟨_,mX hcut,z1,(fun h=>nomatch h),z3,xI rfl (xI rfl ⟨A.s,A.d,_,xI rfl ⟨hs.os,xK,.inr ⟨_,.inr ⟨_,fK (ru.name,cut.headD 0,cut.getLastD 0),hs.ob,rfl,rfl⟩,xI rfl ?_⟩⟩⟩)⟩)⟩)⟩⟩⟩
 rw[jC jO]
 cases hbst:aH st.best (ru.name,cut.headD 0,cut.getLastD 0) with
 | some v=>
  refine bC (fun _=>⟨M,Sub.refl _,r M ?_⟩) fun h=>nomatch (show true=false from h)
  unfold settle;rw[hfact,hbst];exact hs
 | none=>
  refine bC (fun h=>nomatch (show false=true from h)) fun _=>xI rfl (xI rfl (xI rfl ⟨z3,xI rfl ⟨A.s,A.d,_,xI rfl ⟨hs.os,xK,xI rfl (nV (k:=fK (ru.name,cut.headD 0,cut.getLastD 0)) hs.ob (eR (by rw[Aa];exact hb)) ?_)⟩⟩⟩))
  rw[show cE (dX fK fG st.best) _ (W.tup [cW c,W.int n,fZ cut])=_ from ZI (v:=(c,n,cut)) hbst]
  have hs1:=hs.bput (st.best ++ [((ru.name,cut.headD 0,cut.getLastD 0),c,n,cut)])
  refine SK.eput hs1 (nm:=ru.name) (b:=cut.headD 0) (z:=(cut.getLastD 0,c)) rfl (fun M1 Q h=>xI rfl h) (fun M1 Q h=>xI rfl ⟨_,mX hcut,xI rfl ⟨z2,h⟩⟩) he hel fun M1 hs2=>?_
  obtain⟨st1,hst1⟩:∃ st1:SS,st1 = {st with best:=st.best ++ [((ru.name,cut.headD 0,cut.getLastD 0),c,n,cut)],ends:=e8 st.ends (ru.name,cut.headD 0) (cut.getLastD 0,c)}:=⟨_,rfl⟩
  have hs2:SR C E M0 M1 A st1:=by rw[hst1];exact hs2
  have hset:∀ xs,(aH st.begun (ru.name,cut.headD 0)).getD []=xs->settle G st n cut c=eX (fun y:bZ=>(y.1,y.2.1 ++ [cut.getLastD 0],eA y.2.2 c)) xs st1:=fun xs hx=>by
   unfold settle
   rw[hfact,hbst,hfn,hx,hst1];rfl
  have hbeg:st1.begun=st.begun:=by rw[hst1]
  obtain⟨kvs,hg,hc⟩:=hs2.begun_at (ru.name,cut.headD 0)
  refine xI rfl ⟨A.s,A.d,_,xI rfl ⟨hs2.os,HF,pV hg,xI rfl ⟨Cd _,_,.inr ⟨kvs,eK (ru.name,cut.headD 0),hg,rfl,rfl⟩,?_⟩⟩⟩
  rcases hc with⟨h1,h2⟩ | ⟨p,xs,h1,h2,hk⟩
  ·rw[h1]
   refine xF rfl (nR (fun i τ M'=>M'=M1) rfl (fun _ _ _ _ _=>trivial) (fun i w τ M' hw=>nomatch hw) fun τ M' e=>⟨_,Sub.refl _,r _ ?_⟩)
   rw[hset [] (by rw[hbeg] at h2;rw[h2];rfl),e]
   exact hs2
  ·rw[h1]
   rw[hbeg] at h2
   obtain⟨f,hf⟩:∃ f:bZ->Nat×List Int×aJ,f=fun y=>(y.1,y.2.1 ++ [cut.getLastD 0],eA y.2.2 c):=⟨_,rfl⟩
   have sm1:Sm st1 xs.length:=by
    rw[h2] at sm
    rw[hst1];exact⟨sm.q,sm.r⟩
   refine⟨_,hk.kept,nR (fun i τ M'=>∃ o6 o7 o8,τ=[some (.ref A.s),some (.int n),some (fZ cut),some (cW c),some (.tup [.str ru.name,.int (cut.headD 0)]),some (.tup ([.str ru.name,.int (cut.headD 0)] ++ [.int (cut.getLastD 0)])),o6,o7,o8]/\SK C E M0 M' A (eX f (xs.take i) st1) (some (p,xs.map jB))) ⟨_,_,xI rfl hk⟩ (fun i τ M' _ ⟨_,_,_,_,h⟩=>h.kept) ?_ ?_⟩
   ·rintro i w τ M' hw ⟨o6,o7,o8,rfl,hk'⟩
    rw[Au] at hw
    obtain⟨y,hy,rfl⟩:=Bk.mp hw
    have hi:=(Ah.mp hy).1
    obtain⟨hyl,hyn⟩:=hbg (ru.name,cut.headD 0) y (by rw[h2];exact Bn hy)
    refine⟨rfl,rfl,xI rfl ⟨A.s,A.d,xI rfl ⟨hk'.os,tE,xI rfl (xI rfl (xI rfl ⟨_,mX hcut,z1,by simpa using hyn,by rw[Aa];exact eP (Ao hyl (by decide)),xI rfl (xI rfl ⟨y.2.2,c,rfl,E,M0,A,_,y.1,y.2.1 ++ [cut.getLastD 0],eA y.2.2 c,_,by rw[fZ,Bf];rfl,hk',by simp,n8 (sm1.le (by rw[Bj];lia)),fun M2 hk2=>⟨M2,Sub.refl _,_,_,xI rfl ?_⟩⟩)⟩))⟩⟩⟩
    rw[tH hy,hf]
    rw[hf] at hk2
    exact hk2
   ·rintro τ M' ⟨o6,o7,o8,rfl,hk'⟩
    rw[Aa,Ck] at hk'
    refine⟨_,Sub.refl _,r _ ?_⟩
    rw[hset xs (by rw[h2];rfl),<-hf]
    exact hk'.free
theorem ZK{C:Cc}{ws:List W}{M:Mm}{R:K3}(h:HK C ws M R):YS C (bI R) (bP YJ ws) M:=by
 obtain⟨G,E,M0,A,st,rfl,hs,ev,hq,rm,r⟩:=h
 obtain⟨c,x,q',e1,f1,m1,l1,_,_⟩:=mT hs.fall hq
 obtain⟨n,cut⟩:=x
 obtain⟨hcut,hcl,hn,d,hd⟩:=rm.item c n cut q' e1
 obtain⟨M3,hQ,back⟩:=hs.que
 refine xI rfl ⟨A.s,A.d,_,xI rfl ⟨hs.os,xJ,A.Q.o,A.Q.d,xI rfl ⟨hQ.ob,WO,M3,A.Q,_,c,(n,cut),q',rfl,hQ,e1,fun M1 hQ1=>?_⟩⟩⟩
 have hs1:=back M1 q' hQ1
 have smq:∀ k,Sm st k->Sm {st with q:=q'} k:=fun k h=>⟨by have:=h.q;show(a6 q').length + k < _;lia,h.r⟩
 have ht:kT G st=if cL d c=true then {st with q:=q'} else process G {st with q:=q'} n cut c:=by
  unfold kT
  simp only[e1,hd]
 obtain⟨st1,hst1⟩:∃ st1:SS,st1 = {st with q:=q'}:=⟨_,rfl⟩
 have b1:st1.begun=st.begun:=by rw[hst1]
 have b2:st1.ends=st.ends:=by rw[hst1]
 have b3:st1.best=st.best:=by rw[hst1]
 have b4:st1.reached=st.reached:=by rw[hst1]
 rw[<-hst1] at hs1 smq ht
 clear hst1
 refine xI rfl (xI rfl (xI rfl (xI rfl (xI rfl (xI rfl (xI rfl (xI rfl (xI rfl ⟨A.s,A.d,_,xI rfl ⟨hs1.os,tD,xI rfl (xI rfl (xI rfl ⟨_,xP hcut,xI rfl ⟨_,mX hcut,z4,ZF hs1.or (by rw[b4];exact hd) (xI rfl ⟨d.1,d.2,c.1,c.2,rfl,rfl,xI rfl (bC (fun hl=>?_) fun hl=>?_)⟩)⟩⟩))⟩⟩))))))))
 ·rw[ht,if_pos (show cL d c=true from hl)] at r
  exact⟨M1,Sub.refl _,r M1 hs1⟩
 rw[ht,if_neg (ne_true_of_eq_false (show cL d c=false from hl))] at r
 rw[ev.rs] at hn
 obtain⟨ru,hr1,hr2⟩:=tI hn
 have hpart:dW G n cut=ru.parts[cut.length - 1]?:=by unfold dW;rw[ev.rs,hr1]
 have hpos:=Fb.mpr hcut
 have hlm:(Ji W.int cut).length=cut.length:=Aa _
 have hlp:(Ji W.str ru.parts).length=ru.parts.length:=Aa _
 refine xI rfl ⟨A.s,A.d,_,xI rfl ⟨hs1.os,HD,xI rfl ⟨_,hr2,xI rfl (xI rfl (xI rfl (xI rfl (bC (fun hlen=>?_) fun hlen=>?_))))⟩⟩⟩
 ·have hlen:=of_decide_eq_true hlen
  rw[hlm,hlp] at hlen
  have hp:dW G n cut=none:=by rw[hpart];exact Iy (by lia)
  refine xI rfl ⟨A.s,A.d,xI rfl ⟨hs1.os,X3,xI rfl (xI rfl (xI rfl ⟨G,E,M0,A,st1,n,cut,c,rfl,hs1,ev.rs,hn,hcut,by rw[b1];exact rm.bg,by rw[b1];exact smq _ (rm.gl _).2,by rw[b3];exact rm.b,by rw[b2];exact rm.e,by rw[b2];exact(rm.el _).1,fun M2 hs2=>⟨M2,Sub.refl _,r M2 ?_⟩⟩))⟩⟩
  unfold process;rw[hp];exact hs2
 have hlen:=of_decide_eq_false hlen
 rw[hlm,hlp] at hlen
 obtain⟨part,hp⟩:∃ part,ru.parts[cut.length - 1]? = some part:=⟨_,Ax (by lia)⟩
 rw[hp] at hpart
 have hat:cC (ru.parts.map W.str) ((Ji W.int cut).length - 1)=some (.str part):=by
  rw[hlm,show((cut.length:Int) - 1)=((cut.length - 1:Nat):Int) by lia]
  exact iL (by rw[Au,hp];rfl)
 have hpr:process G st1 n cut c=if G.own part=true then fT st1 n cut c part else eX (fun z:Int×Int=>(n,cut ++ [z.1],(c.1 + z.2,c.2))) (G.steps part (cut.getLastD 0)) st1:=by
  unfold process;rw[hpart];rfl
 rw[hpr] at r
 refine xI rfl (xI rfl ⟨_,hat,xI rfl ⟨A.s,A.d,_,xI rfl ⟨hs1.os,XZ,_,⟨Sum.inr part,rfl,rfl⟩,xI rfl (bC (fun ho=>?_) fun ho=>?_)⟩⟩⟩)
 ·rw[if_pos ((ev.own part).symm.trans ho)] at r
  exact xI rfl ⟨A.s,A.d,xI rfl ⟨hs1.os,X2,xI rfl (xI rfl (xI rfl (xI rfl (xI rfl ⟨_,hat,xI rfl ⟨_,mX hcut,z2,E,M0,A,st1,n,cut,c,part,rfl,hs1,hcut,hcl,by rw[b2];exact smq _ (rm.el _).2,by rw[b1];exact rm.g,by rw[b1];exact(rm.gl _).1,fun M2 hs2=>⟨M2,Sub.refl _,r M2 hs2⟩⟩⟩))))⟩⟩
 rw[if_neg (ne_true_of_eq_false ((ev.own part).symm.trans ho))] at r
 obtain⟨xs,hxs⟩:∃ xs,xs=G.steps part (cut.getLastD 0):=⟨_,rfl⟩
 have sm1:Sm st1 xs.length:=by rw[hxs];exact smq _ (rm.sl _ _)
 have hval:(bA E.stp (eK (part,cut.getLastD 0))).getD (.rl [])=.rl (xs.map fun z=>.tup [.int z.1,.int z.2]):=by
  rw[hxs]
  rcases ev.stp part (cut.getLastD 0) with⟨h1,h2⟩ | h1
  ·rw[h1,h2];rfl
  ·rw[h1];rfl
 rw[<-hxs] at r
 refine xI rfl ⟨A.s,A.d,_,xI rfl ⟨hs1.os,X0,rfl,xI rfl (xI rfl ⟨_,hat,xI rfl ⟨_,mX hcut,z2,Cd _,_,⟨eK (part,cut.getLastD 0),rfl,rfl⟩,xF hval (iT (fun i τ M'=>∃ o6 o7,τ=[some (.ref A.s),some (.tup [cW c,jN (n,cut)]),some (cW c),some (.int n),some (fZ cut),some (.tup (ru.parts.map W.str)),o6,o7]/\SR C E M0 M' A (eX (fun z:Int×Int=>(n,cut ++ [z.1],(c.1 + z.2,c.2))) (xs.take i) st1)) ⟨_,xI rfl hs1⟩ ?_ ?_)⟩⟩)⟩⟩
 ·rintro i w τ M' hw ⟨o6,o7,rfl,hk⟩ D hD
  rw[Au] at hw
  obtain⟨z,hz,rfl⟩:=Bk.mp hw
  have hi:=(Ah.mp hz).1
  exact⟨rfl,rfl,xI rfl ⟨A.s,A.d,xI rfl ⟨hk.os,tE,xI rfl (xI rfl (xI rfl ⟨z1,by simpa using hcut,by rw[hlm];exact Ao hcl (eP (by decide)),xI rfl (xI rfl (xI rfl (xI rfl (xI rfl ⟨z2,E,M0,A,_,n,cut ++ [z.1],(c.1 + z.2,c.2),_,by rw[fZ,Bf];rfl,hk,by simp,n8 (sm1.le (by rw[Bj];lia)),fun M2 hk2=>hD _ _ ⟨_,xI rfl (by rw[tH hz];exact hk2)⟩⟩))))⟩))⟩⟩⟩
 ·rintro τ M' ⟨o6,o7,rfl,hk⟩
  rw[Aa,Ck] at hk
  exact⟨_,Sub.refl _,r _ hk⟩
theorem ZL{E:Env}{A:Ad}:cA "begun" (.ref A.g) (cA "ends" (.ref A.e) (cA "best" (.ref A.b) (cA "reached" (.ref A.r) (cA "queue" (.ref A.Q.o) ([("grammar",(cJ E.rs)),("own",(W.dk E.own)),("steps",(W.dt E.stp))]:List (Str×W))))))=sf E A:=by kernel_rfl
theorem tJ{C:Cc}{B Mt:Mm}{A:Aq}{q:Qu}{s dx p:Addr}{fs fs':List (Str×W)}(hQ:QR C B Mt A q)(hB:B s=some (.ins C.s dx fs))(hp:Mt p=none):p≠s/\B p=none/\put Mt p (.dT []) s=some (.ins C.s dx fs)/\QR C (put (put B p (.dT [])) s (.ins C.s dx fs')) (put (put Mt p (.dT [])) s (.ins C.s dx fs')) A q:=by
 have hs:=hQ.sub _ _ hB
 have ne:p≠s:=fun e=>by rw[e,hs] at hp;cases hp
 exact⟨ne,hQ.sub.non hp,by rw[aQ (Cg ne)];exact hs,(hQ.lift (.inl hp)).lift (.inr ⟨_,by rw[aQ (Cg ne)];exact hB⟩)⟩
theorem p5(f:Str)(w:W):∀ fs:List (Str×W),(cA f w fs).length<=fs.length + 1
 | []=>Ai _
 | (k,x) :: r=>by
  rw[cA]
  split
  ·simp
  ·have:=p5 f w r
   simp only[Ar];lia
theorem ZM{C:Cc}{ws:List W}{M:Mm}{R:K3}(h:HL C ws M R):YG C (bI R) (bP X8 ws) M:=by
 obtain⟨M0,s,dx,rs,stp,rfl,hl,rfl,h0,r⟩:=h
 refine xI rfl (xI rfl ⟨s,dx,xI rfl ⟨aT,by decide,?_⟩⟩)
 rw[fJ]
 have e2:∀ w:W,cA "own" w (cA "grammar" (cJ rs) [])=([("grammar",cJ rs),("own",w)]:List (Str×W)):=fun w=>by kernel_rfl
 have e3:∀ w:W,cA "steps" w ([("grammar",cJ rs),("own",.dk (ownOf rs))]:List (Str×W))=([("grammar",cJ rs),("own",.dk (ownOf rs)),("steps",w)]:List (Str×W)):=fun w=>by kernel_rfl
 refine xI rfl ⟨rs,rfl,Ao hl (by decide),aZ.frz ⟨namesOf rs,rfl,?_,xI rfl ⟨s,dx,xI rfl ⟨aT,(show(1:Nat) < 1000 by decide),xI rfl (xI rfl ⟨s,dx,xI rfl ⟨aT,?_,?_⟩⟩)⟩⟩⟩⟩
 ·have:=sE (rs.map aV.name) []
  rw[Aa] at this
  unfold namesOf mR
  simp at this
  simp;lia
 ·rw[e2];exact(show(2:Nat) < 1000 by decide)
 rw[fJ,fJ,e2]
 show HM C _ _ (put M0 s (.ins C.s dx (cA "steps" (.dt stp) [("grammar",cJ rs),("own",.dk (ownOf rs))])))
 rw[e3]
 refine fun a da ha hda hne=>?_
 have hsa:s≠a:=fun e=>by rw[<-e,aT] at ha;cases ha
 obtain⟨F3,hF3⟩:∃ F:List (Str×W),F=([("grammar",cJ rs),("own",.dk (ownOf rs)),("steps",.dt stp)]:List (Str×W)):=⟨_,rfl⟩
 rw[<-hF3] at ha hda ⊢
 refine⟨_,a,da,rfl,rfl,ha,fun M1 Aq hAq hQ=>⟨rfl,xI rfl ⟨s,dx,F3,rfl,hQ.sub _ _ aT,by rw[hF3];exact(show(3:Nat) < 1000 by decide),?_⟩⟩⟩
 have hQ1:=hQ.lift (p:=s) (o:=.ins C.s dx (cA "queue" (.ref a) F3)) (.inr ⟨_,aT⟩)
 rw[fJ] at hQ1
 obtain⟨F4,hF4⟩:∃ F:List (Str×W),F=cA "queue" (.ref a) F3:=⟨_,rfl⟩
 have l4:F4.length<=4:=by rw[hF4];have:=p5 "queue" (.ref a) F3;rw[hF3] at this ⊢;exact this
 rw[<-hF4] at hQ1 ⊢
 obtain⟨Mt,hMt⟩:∃ m,m=put M1 s (.ins C.s dx F4):=⟨_,rfl⟩
 rw[<-hMt] at hQ1 ⊢
 refine fun p1 hp1=>?_
 obtain⟨n1,b1,o1,hQ2⟩:=tJ (fs':=cA "reached" (.ref p1) F4) hQ1 aT hp1
 refine xI rfl ⟨s,dx,F4,rfl,o1,by lia,fun p2 hp2=>?_⟩
 obtain⟨n2,b2,o2,hQ3⟩:=tJ (fs':=cA "best" (.ref p2) (cA "reached" (.ref p1) F4)) hQ2 aT hp2
 have l5:=p5 "reached" (.ref p1) F4
 refine xI rfl ⟨s,dx,xI rfl ⟨o2,by lia,fun p3 hp3=>?_⟩⟩
 obtain⟨n3,b3,o3,hQ4⟩:=tJ (fs':=cA "ends" (.ref p3) (cA "best" (.ref p2) (cA "reached" (.ref p1) F4))) hQ3 aT hp3
 have l6:=p5 "best" (.ref p2) (cA "reached" (.ref p1) F4)
 refine xI rfl ⟨s,dx,xI rfl ⟨o3,by lia,fun p4 hp4=>?_⟩⟩
 obtain⟨n4,b4,o4,hQ5⟩:=tJ (fs':=cA "begun" (.ref p4) (cA "ends" (.ref p3) (cA "best" (.ref p2) (cA "reached" (.ref p1) F4)))) hQ4 aT hp4
 have l7:=p5 "ends" (.ref p3) (cA "best" (.ref p2) (cA "reached" (.ref p1) F4))
 refine xI rfl ⟨s,dx,xI rfl ⟨o4,by lia,_,Sub.refl _,r _ ⟨s,dx,Aq,p1,p2,p3,p4⟩ rfl ?_⟩⟩
 obtain⟨A,hA⟩:∃ A:Ad,A=⟨s,dx,Aq,p1,p2,p3,p4⟩:=⟨_,rfl⟩
 obtain⟨E,hE⟩:∃ E:Env,E=⟨rs,ownOf rs,stp⟩:=⟨_,rfl⟩
 have hsf:cA "begun" (.ref p4) (cA "ends" (.ref p3) (cA "best" (.ref p2) (cA "reached" (.ref p1) F4)))=sf E A:=by
  rw[<-ZL,hF4,hF3,hA,hE,<-hAq]
 rw[hsf] at hQ5 ⊢
 rw[<-hA,<-hE]
 have c21:p2≠p1:=fun e=>by rw[e,aQ n1,aT] at b2;cases b2
 have c31:p3≠p1:=fun e=>by rw[e,aQ n1,aQ (Cg c21),aQ n1,aT] at b3;cases b3
 have c32:p3≠p2:=fun e=>by rw[e,aQ n2,aT] at b3;cases b3
 have c41:p4≠p1:=fun e=>by rw[e,aQ n1,aQ (Cg c31),aQ n1,aQ (Cg c21),aQ n1,aT] at b4;cases b4
 have c42:p4≠p2:=fun e=>by rw[e,aQ n2,aQ (Cg c32),aQ n2,aT] at b4;cases b4
 have c43:p4≠p3:=fun e=>by rw[e,aQ n3,aT] at b4;cases b4
 have z1:M0 p1=none:=by rw[aQ n1] at b1;exact b1
 have z2:M0 p2=none:=by rw[aQ n2,aQ c21,aQ n2] at b2;exact b2
 have z3:M0 p3=none:=by rw[aQ n3,aQ c32,aQ n3,aQ c31,aQ n3] at b3;exact b3
 have z4:M0 p4=none:=by rw[aQ n4,aQ c43,aQ n4,aQ c42,aQ n4,aQ c41,aQ n4] at b4;exact b4
 obtain⟨N1,hN1⟩:∃ m,m=put (put (put M0 s (.ins C.s dx (sf E A))) p1 (.dT [])) p2 (.dT []):=⟨_,rfl⟩
 have hB:put (put (put (put (put (put (put (put (put M0 s (.ins C.s dx F4)) p1 (.dT [])) s (.ins C.s dx (cA "reached" (.ref p1) F4))) p2 (.dT [])) s (.ins C.s dx (cA "best" (.ref p2) (cA "reached" (.ref p1) F4)))) p3 (.dT [])) s (.ins C.s dx (cA "ends" (.ref p3) (cA "best" (.ref p2) (cA "reached" (.ref p1) F4))))) p4 (.dT [])) s (.ins C.s dx (sf E A))=put (put N1 p3 (.dT [])) p4 (.dT []):=by
  rw[hN1]
  funext b
  unfold put
  by_cases g0:b=s
  ·subst g0;simp[Cg n1,Cg n2,Cg n3,Cg n4]
  ·simp only[if_neg g0]
 rw[hB] at hQ5
 have mn:Mn C E M0 N1 A [] []:=by
  rw[hN1,hA]
  exact⟨gM (gM (gM (Sub.refl _) h0) z1) z2,h0,z1,z2,Cg n1,Cg n2,Cg c21,by rw[aQ (Cg n2),aQ (Cg n1),aT],by rw[aQ (Cg c21),aT];rfl,by rw[aT];rfl⟩
 have y3:N1 p3=none:=by rw[hN1,aQ c32,aQ c31,aQ n3];exact z3
 have y4:N1 p4=none:=by rw[hN1,aQ c42,aQ c41,aQ n4];exact z4
 have t1:eI eK N1 (put N1 p3 (.dT [])) A.e [] (eG []):=by rw[hA];exact⟨Sub.new y3,y3,aT,(fun _ _=>rfl),(fun k ws e=>nomatch e),(fun k j p e=>nomatch e)⟩
 have x4:put N1 p3 (.dT []) p4=none:=by rw[aQ c43];exact y4
 have t2:eI eK (put N1 p3 (.dT [])) (put (put N1 p3 (.dT [])) p4 (.dT [])) A.g [] (gG []):=by rw[hA];exact⟨Sub.new x4,x4,aT,(fun _ _=>rfl),(fun k ws e=>nomatch e),(fun k j p e=>nomatch e)⟩
 have hAQ:A.Q=Aq:=by rw[hA]
 rw[<-hAQ] at hQ5
 exact⟨N1,_,_,[],[],mn,t1,t2,hQ5,Ai _,Ai _,trivial⟩
structure Ln(st:SS)(T:Nat):Prop where
 b:st.best.length<=T
 e:st.ends.length<=T
 g:st.begun.length<=T
theorem Ln.process{G:Sr}{st:SS}{T:Nat}(h:Ln st T)(n:Nat)(cut:List Int)(c:aJ):Ln (Rg.process G st n cut c) (T + 1):=by
 have h1:=h.b
 have h2:=h.e
 have h3:=h.g
 have keep:Ln st (T + 1):=⟨by lia,by lia,by lia⟩
 unfold Rg.process
 split
 ·unfold settle
  split
  ·exact keep
  ·obtain⟨a1,a2,a3⟩:=pZ (f:=fun y:bZ=>(y.1,y.2.1 ++ [cut.getLastD 0],eA y.2.2 c)) (xs:=(aH st.begun (c8 G n,cut.headD 0)).getD []) (st:={st with best:=st.best ++ [(cP G n cut,c,n,cut)],ends:=e8 st.ends (c8 G n,cut.headD 0) (cut.getLastD 0,c)})
   refine⟨?_,?_,?_⟩
   ·refine Ao (Ez (congrArg Cz a3)) ?_
    show(st.best ++ [_]).length<=_
    rw[Af,Bl];lia
   ·refine Ao (Ez (congrArg Cz a1)) ?_
    have:=pN st.ends (c8 G n,cut.headD 0) ((aH st.ends (c8 G n,cut.headD 0)).getD [] ++ [(cut.getLastD 0,c)])
    show(cS _ _ _).length<=_
    lia
   ·refine Ao (Ez (congrArg Cz a2)) ?_
    exact keep.g
 ·rename_i part _
  split
  ·unfold fT
   obtain⟨a1,a2,a3⟩:=pZ (f:=fun z:Int×aJ=>(n,cut ++ [z.1],eA c z.2)) (xs:=(aH st.ends (part,cut.getLastD 0)).getD []) (st:={st with begun:=e8 st.begun (part,cut.getLastD 0) (n,cut,c)})
   refine⟨?_,?_,?_⟩
   ·exact Ao (Ez (congrArg Cz a3)) keep.b
   ·exact Ao (Ez (congrArg Cz a1)) keep.e
   ·refine Ao (Ez (congrArg Cz a2)) ?_
    have:=pN st.begun (part,cut.getLastD 0) ((aH st.begun (part,cut.getLastD 0)).getD [] ++ [(n,cut,c)])
    show(cS _ _ _).length<=_
    lia
  ·unfold fY
   obtain⟨a1,a2,a3⟩:=pZ (f:=fun z:Int×Int=>(n,cut ++ [z.1],(c.1 + z.2,c.2))) (xs:=G.steps part (cut.getLastD 0)) (st:=st)
   exact⟨Ao (Ez (congrArg Cz a3)) keep.b,Ao (Ez (congrArg Cz a1)) keep.e,Ao (Ez (congrArg Cz a2)) keep.g⟩
theorem Ln.next{G:Sr}{st:SS}{T:Nat}(h:Ln st T):Ln (kT G st) (T + 1):=by
 have h1:=h.b
 have h2:=h.e
 have h3:=h.g
 have keep:Ln st (T + 1):=⟨by lia,by lia,by lia⟩
 have hq:∀ q',Ln {st with q:=q'} T:=fun q'=>⟨h1,h2,h3⟩
 unfold kT
 split
 ·exact keep
 ·split
  ·split
   ·exact⟨keep.b,keep.e,keep.g⟩
   ·exact(hq _).process _ _ _
  ·exact⟨keep.b,keep.e,keep.g⟩
theorem ZN{G:Sr}{V:List Int}{L S I0 T:Nat}{st:SS}{P:List bZ}{cur:aJ}(v:pR G V G.rs.length L)(hL:L < 1000)(A:All G S I0 st P cur T)(hS:∀ t p,(G.steps t p).length<=S)(ln:Ln st T)
  (hb:I0 + G.rs.length * ((L + 1) * (V.length * V.length)) * (S + V.length) + G.rs.length * ((L + 1) * (V.length * V.length)) + V.length + S + 1 < 10000000):Rm G st:=by
 obtain⟨f1,f2,f3⟩:=GD v A
 have hin:∀ {n cut c},GI G st.best n cut c->DI G n cut c:=fun {n cut c} g=>wX (B:=st.best) (fun f m n' cut' h=>wY A.ob h) g
 have hr:=A.cn.rch
 generalize G.rs.length * ((L + 1) * (V.length * V.length))=X at *
 generalize X * (S + V.length)=Y at *
 have h1:=ln.b
 have h2:=ln.e
 have h3:=ln.g
 have hg:∀ key,((aH st.begun key).getD []).length<=X:=fun key=>by
  have:=len_sub (b:=P) (A.cn.bnd key) fun y hy=>(A.ob.bgn key y hy).1
  lia
 refine⟨fun c n cut q' e=>?_,fun key y hy=>?_,by lia,by lia,by lia,fun key=>?_,fun key=>?_,fun t p=>?_⟩
 ·have hne:st.q≠[]:=fun z=>by rw[z] at e;cases e
  obtain⟨_,_,_,e1,_,m1,_⟩:=mT A.inv.fall hne
  rw[e] at e1
  cases e1
  have hm:(c,(n,cut))∈a6 st.q:=(m1 _).mpr (.inl rfl)
  have hd:=hin (A.inv.item _ hm)
  obtain⟨_,g2,g3⟩:=sJ v hd
  obtain⟨d,g4,_⟩:=A.inv.ge _ hm
  exact⟨hd.ne,by have g3:cut.length<=L:=g3;lia,g2,d,g4⟩
 ·have hd:=hin (A.inv.pr y (A.ob.bgn key y hy).1).2.2
  obtain⟨_,g2,g3⟩:=sJ v hd
  exact⟨by lia,hd.ne⟩
 ·have:=f2 key
  exact⟨by lia,⟨by lia,by lia⟩⟩
 ·have:=hg key
  exact⟨by lia,⟨by lia,by lia⟩⟩
 ·have:=hS t p
  exact⟨by lia,by lia⟩
def kA(G:Sr)(i:Nat):List (Nat×Int):=(Cw i).flatMap fun n=>G.places.map fun p=>(n,p)
theorem ZO(G:Sr)(i:Nat):kA G (i + 1)=kA G i ++ G.places.map fun p=>(i,p):=by
 unfold kA
 rw[List.range_succ,List.flatMap_append];simp
theorem tK(G:Sr)(i:Nat):(kA G i).length=i * G.places.length:=by
 unfold kA
 rw[pT (k:=G.places.length) fun n _=>by rw[Aa],Fj]
abbrev mY(G:Sr):Nat×Int->Nat×List Int×aJ:=fun x=>(x.1,[x.2],(G.wt x.1,1))
theorem ZP{α:Type}{f:α->Nat×List Int×aJ}{xs ys:List α}{st:SS}:eX f (xs ++ ys) st=eX f ys (eX f xs st):=by
 unfold eX;rw[Ip]
theorem SK.told{C:Cc}{E:Env}{M0 M:Mm}{A:Ad}{st:SS}{kp:Option (Addr×List W)}(h:SK C E M0 M A st kp):M0 A.b=none/\L3.Sub (put M0 A.b (.dT (dX fK fG st.best))) M:=by
 obtain⟨M1,M2,M3,e,g,h1,h2,h3,h4,h5,h6,h7⟩:=h.ex
 refine⟨h1.nb,fun b u e=>?_⟩
 by_cases hb:b=A.b
 ·subst hb;rw[aT] at e;cases e;exact h.ob
 ·rw[aQ hb] at e;exact h4.sub _ _ (h3.sub _ _ (h2.sub _ _ (h1.sub _ _ e)))
theorem ZQ{n i:Nat}{w:W}(h:(i4 0 n)[i]? = some w):i < n/\w=.int (i:Nat):=by
 unfold i4 at h
 rw[Au] at h
 obtain⟨j,hj,rfl⟩:=Bk.mp h
 obtain⟨h1,h2⟩:=Ah.mp hj
 rw[List.getElem_range] at h2
 rw[Fj] at h1
 exact⟨h1,by rw[<-h2,Gy]⟩
theorem ZR{lo:Int}{n:Nat}:(i4 lo n).length=n:=by unfold i4;simp
theorem ZS{C:Cc}{ws:List W}{M:Mm}{R:K3}(h:xO C ws M R):ZC C (bI R) (bP Y4 ws) M:=by
 obtain⟨G,E,V,L,S,rfl,hrs,hown,ev,ok,v,hL,hpl,hS,hb,r⟩:=h
 refine xI rfl (xI rfl (fun a dx ha hdx hne=>⟨M,a,dx,E.rs,E.stp,rfl,hrs,rfl,ha,fun M1 A hA hs=>⟨rfl,?_⟩⟩))
 rw[<-hown] at hs
 have hs:SR C E M M1 A gL:=hs
 subst hA
 have hil:(i8 G).length=G.rs.length * G.places.length:=tK G G.rs.length
 obtain⟨N,hN⟩:∃ N,N=G.rs.length:=⟨_,rfl⟩
 have hNE:E.rs.length=N:=by rw[hN,ev.rs]
 refine xI rfl ⟨(N:Int),by rw[Aa,hNE],by lia,by lia,?_⟩
 rw[Cu]
 have sm0:Sm gL ((i8 G).length + 1):=⟨by show 0 + _ < _;lia,by show 0 + _ < _;lia⟩
 refine iT (fun i τ M'=>∃ o5 o6,τ=[some (cJ E.rs),some (.rl (G.places.map W.int)),some (.dt E.stp),some (.rl ((Cw G.rs.length).map fun n=>.int (G.wt n))),some (.ref A.s),o5,o6]/\SR C E M M' A (eX (mY G) (kA G i) gL)) ⟨_,xI rfl hs⟩ ?_ ?_
 ·rintro i w τ M2 hw ⟨o5,o6,rfl,hs2⟩ D1 hD1
  obtain⟨hi,rfl⟩:=ZQ hw
  have hmul:(i + 1) * G.places.length<=N * G.places.length:=Nat.mul_le_mul_right _ hi
  rw[<-hN] at hil
  refine xI rfl (fP (iT (fun j τ M'=>∃ o6,τ=[some (cJ E.rs),some (.rl (G.places.map W.int)),some (.dt E.stp),some (.rl ((Cw G.rs.length).map fun n=>.int (G.wt n))),some (.ref A.s),some (.int i),o6]/\SR C E M M' A (eX (mY G) ((G.places.map fun p=>(i,p)).take j) (eX (mY G) (kA G i) gL))) (xI rfl hs2) ?_ ?_))
  ·rintro j w τ M3 hw ⟨o6,rfl,hs3⟩ D2 hD2
   rw[Au] at hw
   obtain⟨pl,hpl',rfl⟩:=Bk.mp hw
   have hj:=(Ah.mp hpl').1
   have hx:(G.places.map fun p=>(i,p))[j]? = some (i,pl):=by rw[Au,hpl'];rfl
   have hwt:cC ((Cw G.rs.length).map fun n=>W.int (G.wt n)) (i:Int)=some (.int (G.wt i)):=iL (by rw[Au,List.getElem?_range (by lia)];rfl)
   have smj:Sm (eX (mY G) ((G.places.map fun p=>(i,p)).take j) (eX (mY G) (kA G i) gL)) 1:=by
    refine n8 (n8 (sm0.le ?_))
    rw[tK,Bj,Aa,hil,Nat.succ_mul] at *
    lia
   refine xI rfl ⟨A.s,A.d,xI rfl ⟨hs3.os,tE,xI rfl (xI rfl ⟨z1,xI rfl (xI rfl ⟨_,hwt,z2,E,M,A,_,i,[pl],(G.wt i,1),none,rfl,hs3,by simp,smj,fun M4 hs4=>hD2 _ _ (xI rfl ?_)⟩)⟩)⟩⟩
   rw[tH hx]
   exact hs4
  ·rintro τ M3 ⟨o6,rfl,hs3⟩
   refine hD1 _ _ ⟨_,xI rfl ?_⟩
   rw[ZO,ZP]
   rw[Aa,Gs (by rw[Aa];exact Ai _)] at hs3
   exact hs3
 ·rintro τ M2 ⟨o5,o6,rfl,hs2⟩
  rw[ZR] at hs2
  have hst:eX (mY G) (kA G N) gL=j7 G:=by rw[hN];rfl
  rw[hst] at hs2
  have ln0:Ln (j7 G) 0:=by
   obtain⟨a1,a2,a3⟩:=pZ (f:=mY G) (xs:=kA G N) (st:=gL)
   rw[hst] at a1 a2 a3
   exact⟨by rw[a3];exact Ai _,by rw[a1];exact Ai _,by rw[a2];exact Ai _⟩
  obtain⟨Bm,hBm⟩:∃ Bm,Bm=(i8 G).length + G.rs.length * ((L + 1) * (V.length * V.length)) * (S + V.length):=⟨_,rfl⟩
  refine VW (fun m τ M'=>∃ st P cur T o5 o6,τ=[some (cJ E.rs),some (.rl (G.places.map W.int)),some (.dt E.stp),some (.rl ((Cw G.rs.length).map fun n=>.int (G.wt n))),some (.ref A.s),o5,o6]/\SR C E M M' A st/\All G S (i8 G).length st P cur T/\Ln st T/\m=Bm - T/\st=xN G T) ⟨_,_,_,_,_,_,xI rfl ⟨hs2,VS ok S,ln0,rfl,rfl⟩⟩ ?_
  rintro m τ M3 ⟨st,P,cur,T,o5,o6,rfl,hs3,A3,ln3,rfl,hst3⟩ D3 hD3
  obtain⟨M4,hQ,back⟩:=hs3.que
  refine xI rfl ⟨A.s,A.d,_,xI rfl ⟨hs3.os,xJ,A.Q.o,A.Q.d,xI rfl ⟨hQ.ob,WQ,M4,A.Q,st.q,rfl,hQ,bC (b:=!decide (st.q=[])) (fun h=>?_) fun h=>?_⟩⟩⟩
  ·have hq:¬ st.q=[]:=of_decide_eq_false (by rw[<-Kx (decide _),h];rfl)
   have rm:=ZN v hL A3 hS ln3 hb
   obtain⟨_,_,f3⟩:=GD v A3
   rw[<-hBm] at f3
   have hpos:=Fb.mpr hq
   have hql:=xD hs3.fall
   obtain⟨P',cur',A4⟩:=VR ok A3 hS hq
   exact xI rfl ⟨A.s,A.d,xI rfl ⟨hs3.os,X1,G,E,M,A,st,rfl,hs3,ev,hq,rm,fun M5 hs5=>hD3 _ _ _ (by lia:Bm - (T + 1) < Bm - T) ⟨_,P',cur',T + 1,_,xI rfl ⟨hs5,A4,ln3.next,rfl,congrArg (kT G) hst3⟩⟩⟩⟩
  ·have hq:st.q=[]:=of_decide_eq_true (by rw[<-Kx (decide _),h];rfl)
   obtain⟨y1,y2⟩:=hs3.told
   exact xI rfl ⟨A.s,A.d,_,xI rfl ⟨hs3.os,xK,_,y2,r st.best ⟨S,_,st,P,cur,T,A3,hq,rfl,hst3⟩ A.b y1⟩⟩
end Rg
namespace L2
open PySem PySem.Spec PyProof.Rows
section
variable {X:Cx}{pins:List (Addr×Obj)}{σ:St}{H:Hp}{s:Ag}{a:Addr}{u:HO}
def IsDict(u:HO):Prop:=(∃ ks,u=.dK ks)\/∃ ks,u=.dT ks
theorem Inv.frzD(I:Inv X pins σ H s)(e:H a=some u)(hd:IsDict u):∃ o,Inv X pins σ (aR H a (.frz o u)) s:=by
 obtain⟨o,ho⟩:∃ o,s.heap.get? a=some o:=by
  have:=I.hok a u e
  rcases hd with⟨ks,rfl⟩ | ⟨ks,rfl⟩
  ·obtain⟨_,_,_,_,o,_,_,e,_⟩:=this;exact⟨o,e⟩
  ·obtain⟨_,_,_,_,o,_,_,e,_⟩:=this;exact⟨o,e⟩
 refine⟨o,?_⟩
 have ne:∀ {b:Addr} {v:HO},H b=some v->v≠u->b≠a:=fun {b v} e1 h z=>by subst z;rw[e] at e1;exact h (Cj e1).symm
 have nn:∀ {b:Addr},H b=none->b≠a:=fun {b} e1 z=>by subst z;rw[e] at e1;cases e1
 have kt:∀ b xs,H b=some (.tup xs)->aR H a (.frz o u) b=some (.tup xs):=fun b xs eb=>by
  rw[bG (ne eb (fun z=>by rcases hd with⟨ks,rfl⟩ | ⟨ks,rfl⟩ <;> cases z))];exact eb
 have ko:∀ b y,H b=some (.own y)->aR H a (.frz o u) b=some (.own y):=fun b y eb=>by
  rw[bG (ne eb (fun z=>by rcases hd with⟨ks,rfl⟩ | ⟨ks,rfl⟩ <;> cases z))];exact eb
 refine I.step (h':=s.heap) (g':=s.gens) (d':=s.drawn) (t':=s.toks) (ch:=[]) (fun _ z=>nomatch z) (fun b o _ _ _ e1 _=>e1) (fun b o _ _ _ e1 _=>⟨o.slots,e1⟩) (fun b o _ _ n=>by rw[bG (nn n)];exact n) (fun b o _ e1=>⟨o,e1⟩) kt
  (fun b ob v eb=>?_) (fun b ps eb=>⟨#[],?_⟩) (fun m hm=>hm) (fun b v eb=>?_) I.bare
 ·rw[bG (ne eb (fun z=>by rcases hd with⟨ks,rfl⟩ | ⟨ks,rfl⟩ <;> cases z))];exact eb
 ·rw[bG (ne eb (fun z=>by rcases hd with⟨ks,rfl⟩ | ⟨ks,rfl⟩ <;> cases z)),eb];simp
 ·by_cases hb:b=a
  ·subst hb
   rw[cZ] at eb
   cases eb
   exact⟨ho,(I.hok b u e).stay (fun _ _ _ q=>q) (fun c q=>ko c b q) kt⟩
  ·rw[bG hb] at eb
   exact(I.hok b v eb).stay (fun _ _ _ q=>q) (fun c q=>ko c b q) kt
def ZT(Q:VK):VK:=fun v H=>∃ a u,v=.ref a/\H a=some u/\IsDict u/\∀ o,Q v (aR H a (.frz o u))
theorem ZU{e:Expr}{t:TE}(h:PE X e t):PE X e (fun σ H Q=>t σ H (ZT Q)):=fun pins s σ H Q I q=>
 a8 (h pins s σ H _ I q) fun v s1 ⟨x,H1,I1,r1,a,u,e1,e2,e3,q1⟩=>by
  obtain⟨o,I2⟩:=I1.frzD e2 e3
  exact⟨x,_,I2,r1,q1 o⟩
def tL(a:Addr)(o:Obj)(u:HO)(xs:List V):It:=
 ⟨fun i H=>H a=some (.frz o u)/\i < xs.length,fun i H x H'=>H'=H/\xs[i]? = some x,fun i H=>H a=some (.frz o u)/\xs.length<=i⟩
theorem HR{P:Bu}{w:Cm}{K:Ab}{tg:Expr}(a it:Addr)(o:Obj)(u:HO)(xs:List V)(es:Array Ho)(ep:Nat)(hd:o.data=.dict es ep)(hn:es.size=xs.length)(hx:∀ (i:Nat) (e:Ho),es[i]? = some e->∃ x,xs[i]? = some x/\RelV x e.key) :
  kF P w K tg (tL a o u xs) [it] it (fun i h=>h.IsKeyIter it a i es.size ep) where
 mem:=by simp
 obj:=fun i h st b hb=>by
  have e:b=it:=by simpa using hb
  subst e
  obtain⟨o,e,c,d⟩:=st
  exact⟨o,e,fun v z=>by rw[d] at z;cases z⟩
 keep:=fun i h h' st k=>st.at fun o e=>k it (by simp) o e
 item:=by
  intro X hP hw hK hc i pins s σ H E I hf st hg
  subst hP hw hK
  obtain⟨e1,hi⟩:=hg
  have ho:s.heap.get? a=some o:=(show c9 X.prog X.w H s.heap a (.frz o u) from I.hok a _ e1).1
  have hi2:i < es.size:=by lia
  obtain⟨x,hx1,rx⟩:=hx i es[i] (by simp[hi2])
  obtain⟨f0,f1,f2,f3,f4,f5⟩:=hf it (by simp)
  refine R8 st ho hd hi2 fun h' st' sb=>?_
  have I1:Inv X pins σ H {s with heap:=h'}:=I.turned (t':=s.toks) (fun b o hb e=>(sb.2 b hb).trans e) f0 f1 f3 f4 f5
  obtain⟨o',e,c,d⟩:=id st'
  exact⟨_,rfl,qU (s:={s with heap:=h'}) e c d (by decide) ⟨x,H,I1,rx,⟨rfl,hx1⟩,st',fun b hb=>(hf b hb).1⟩⟩
 done:=by
  intro X hP hw hK hc i pins s σ H E I hf st hg
  subst hP hw hK
  obtain⟨e1,hi⟩:=hg
  have ho:s.heap.get? a=some o:=(show c9 X.prog X.w H s.heap a (.frz o u) from I.hok a _ e1).1
  refine R9 (I.ok.hd hc) st ho hd (by lia) fun h' hk=>⟨rfl,?_⟩
  exact I.turnedT (tk:=s.toks) hf fun q o hq eq=>hk q o (fun z=>hq (by simp[z])) eq
 self:=fun _ _ _ _ _ st h=>wpAny_pyIter_keyiter st h
end
end L2
namespace L3
open PySem PySem.Spec PyProof.Rows L2
section
variable {X:Cx}{e:Expr}{te:aY}
def xQ(t:aY):aY:=fun τ M R=>t τ M fun w M'=>∃ p,w=.ref p/\((∃ kvs,M' p=some (.dK kvs)/\R (.fk kvs) (del M' p))\/∃ kvs,M' p=some (.dT kvs)/\R (.ft kvs) (del M' p))
theorem HS{K:Ab}{H:Hp}{M:Mm}{p:Addr}{o:Obj}{u:HO}{x:MO}(am:AM K H M)(e:M p=some x)(hd:IsDict u)(hu:H p=some u):Go H M (aR H p (.frz o u)) (del M p)/\AM K (aR H p (.frz o u)) (del M p)/\Kp H M (aR H p (.frz o u)) (del M p):=by
 have nn:∀ {b:Addr},M b=none->b≠p:=fun {b} h z=>by subst z;rw[e] at h;cases h
 have go:Go H M (aR H p (.frz o u)) (del M p):=by
  refine⟨fun b xs eb=>?_,fun b ob v eb=>?_,fun b v n eb=>?_⟩
  ·rw[bG (nn (am.noTup eb))];exact eb
  ·rw[bG (nn (am.noFrz eb))];exact eb
  ·rw[bG (nn n),nG (nn n)];exact⟨eb,n⟩
 refine⟨go,fun a o2 ea=>?_,fun a v n ea=>?_,fun a v ea=>?_⟩
 ·have ne:a≠p:=fun z=>by rw[z,mJ] at ea;cases ea
  rw[nG ne] at ea
  exact(am a o2 ea).go go (bG ne)
 ·rw[bG (nn n),nG (nn n)];exact⟨ea,n⟩
 ·by_cases ha:a=p
  ·subst ha;exact⟨_,cZ⟩
  ·obtain⟨y,q⟩:=(am a v ea).has
   exact⟨y,by rw[bG ha];exact q⟩
theorem HU(h:E3 X e te):E3 X e (xQ te):=
 (ZU h).weak fun σ H Q z0=>z0.el fun τ M R as am h k=>⟨τ,M,_,as,am,h,fun v H' w M' k' am' av ⟨p,hw,r⟩=>by
  subst hw
  obtain rfl:=av.inv
  rcases r with⟨kvs,e,r⟩ | ⟨kvs,e,r⟩
  ·obtain⟨ks,f,q⟩:=am' _ _ e
   refine⟨p,.dK ks,rfl,f,.inl ⟨_,rfl⟩,fun o=>?_⟩
   obtain⟨g,am2,k2⟩:=HS (o:=o) am' e (.inl ⟨_,rfl⟩) f
   exact k _ _ _ _ (k'.trans k2) am2 (.fk cZ q.keys (q.vals.go g)) r
  ·obtain⟨ks,f,q⟩:=am' _ _ e
   refine⟨p,.dT ks,rfl,f,.inr ⟨_,rfl⟩,fun o=>?_⟩
   obtain⟨g,am2,k2⟩:=HS (o:=o) am' e (.inr ⟨_,rfl⟩) f
   exact k _ _ _ _ (k'.trans k2) am2 (.ft cZ q.keys (q.vals.go g)) r⟩
def xR:W->Mm->(List W->(Mm->Prop)->Mm->Prop)->Prop
 | .fk kvs,M1,R=>R (kvs.map fun p=>wK p.1) (fun _=>True) M1
 | .ft kvs,M1,R=>R (kvs.map fun p=>.tup (p.1.map wK)) (fun _=>True) M1
 | _,_,_=>False
theorem HV{K:Ab}{H0:Hp}{M0:Mm}{a:Addr}{o:Obj}{u:HO}{xs:List V}{ws:List W}(am0:AM K H0 M0)(e:H0 a=some (.frz o u))(q0:aL K H0 M0 xs ws):i0 K H0 M0 (tL a o u xs) ws fun _=>True:=by
 have st:∀ H M,Kp H0 M0 H M->H a=some (.frz o u):=fun H M k=>(k.fr _ _ (am0.noFrz e) e).1
 refine⟨fun i H M k am _ hi=>⟨st H M k,by rw[q0.length];exact hi⟩,fun H M k am _=>⟨st H M k,by rw[q0.length];exact Ai _⟩,fun i H M x H' k am _ hi y=>?_⟩
 obtain⟨rfl,y⟩:=y
 obtain⟨w,hw,av⟩:=(q0.kp am0 k).getV y
 exact⟨w,hw,Kp.refl am,am,av⟩
theorem ZV{K:Ab}{H:Hp}{M:Mm}:∀ k:aG,AV K H M (kV k) (wK k)
 | .inl i=>.int i
 | .inr x=>.str x
theorem ZW{P:Bu}{w:Cm}{H:Hp}{h:Heap}{a:Addr}{ks:List (aG×V)}{o:Obj}(ok:cU P w H h)(e:H a=some (.frz o (.dK ks))) :
  ∃ es ep,oZ h a es ep/\o.data=.dict es ep/\(a == Ft)=false/\es.size=ks.length/\∀ (i:Nat) (en:Ho),es[i]? = some en->∃ p,ks[i]? = some p/\RelV (kV p.1) en.key/\RelV p.2 en.val:=by
 obtain⟨ho,hz,hne,vs,rkv,o2,es,ep,h1,h2,h3,h4,h5,h6⟩:=(show c9 P w H h a (.frz o (.dK ks)) from ok a _ e)
 rw[ho] at h1
 cases h1
 have l1:=rkv.length
 have l2:=h5.length
 rw[Fp] at l2
 refine⟨es,ep,⟨o,ho,h2,h3⟩,h3,hne,by lia,fun i en hen=>?_⟩
 have hi:=(Ju.mp hen).1
 obtain⟨⟨k,x⟩,hv⟩:∃ v,vs[i]? = some v:=⟨_,Ax (by lia)⟩
 obtain⟨z1,z2⟩:=h5.get? (by rw[Ga];exact hen) hv
 have:∀ {ks:List (aG×V)} {vs:List (aG×Ae)} {i:Nat},KV ks vs->vs[i]? = some (k,x)->∃ v,ks[i]? = some (k,v)/\RelV v x:=by
  intro ks vs i r
  induction r generalizing i with
  | nil=>intro h;simp at h
  | @cons p q ps qs hq t ih=>
   intro h
   cases i with
   | zero=>simp at h;subst h;obtain⟨p1,p2⟩:=p;cases hq.1;exact⟨p2,rfl,hq.2⟩
   | succ i=>rw[Fl] at h ⊢;exact ih h
 obtain⟨v,q1,q2⟩:=this rkv hv
 exact⟨(k,v),q1,vI z1,by rw[z2];exact q2⟩
theorem ZX{P:Bu}{w:Cm}{H:Hp}{h:Heap}{a:Addr}{ks:List (List aG×V)}{o:Obj}(ok:cU P w H h)(e:H a=some (.frz o (.dT ks))) :
  ∃ es ep,oZ h a es ep/\o.data=.dict es ep/\(a == Ft)=false/\es.size=ks.length/\∃ as:List Addr,as.length=ks.length/\(∀ (i:Nat) (p:List aG×V) (b:Addr),ks[i]? = some p->as[i]? = some b->H b=some (.tup (p.1.map kV)))/\
   ∀ (i:Nat) (en:Ho),es[i]? = some en->∃ p b,ks[i]? = some p/\as[i]? = some b/\en.key=.ref b/\RelV p.2 en.val:=by
 obtain⟨ho,hz,hne,xs,rel,o2,es,ep,h1,h2,h3,h4,h5⟩:=(show c9 P w H h a (.frz o (.dT ks)) from ok a _ e)
 rw[ho] at h1
 cases h1
 have l1:=Lu h4
 have l2:=Dw rel
 refine⟨es,ep,⟨o,ho,h2,h3⟩,h3,hne,by lia,xs.map fun x=>x.2.1,by rw[Aa];lia,fun i p b hp hb=>?_,fun i en hen=>?_⟩
 ·rw[Au] at hb
  obtain⟨x,hx,rfl⟩:=Bk.mp hb
  have:∀ {ks:List (List aG×V)} {xs:List (List aG×Addr×Ae)} {i:Nat},Fn (fun(p:List aG×V) (q:List aG×Addr×Ae)=>p.1=q.1/\H q.2.1=some (.tup (p.1.map kV))/\RelV p.2 q.2.2) ks xs->ks[i]? = some p->xs[i]? = some x->H x.2.1=some (.tup (p.1.map kV)):=by
   intro ks xs i r
   induction r generalizing i with
   | nil=>intro h;simp at h
   | @cons p q ps qs hq t ih=>
    intro h g
    cases i with
    | zero=>simp at h g;subst h;subst g;exact hq.2.1
    | succ i=>rw[Fl] at h g;exact ih h g
  exact this rel hp hx
 ·rw[entry_at h4 i] at hen
  obtain⟨x,hx,rfl⟩:=Bk.mp hen
  have:∀ {ks:List (List aG×V)} {xs:List (List aG×Addr×Ae)} {i:Nat},Fn (fun(p:List aG×V) (q:List aG×Addr×Ae)=>p.1=q.1/\H q.2.1=some (.tup (p.1.map kV))/\RelV p.2 q.2.2) ks xs->xs[i]? = some x->∃ p,ks[i]? = some p/\RelV p.2 x.2.2:=by
   intro ks xs i r
   induction r generalizing i with
   | nil=>intro h;simp at h
   | @cons p q ps qs hq t ih=>
    intro h
    cases i with
    | zero=>simp at h;subst h;exact⟨p,rfl,hq.2.2⟩
    | succ i=>rw[Fl] at h ⊢;exact ih h
  obtain⟨p,q1,q2⟩:=this rel hx
  exact⟨p,x.2.1,q1,by rw[Au,hx];rfl,rfl,q2⟩
theorem ZY{tg:Expr}:lS X tg (r6 X.K xR):=by
 rintro pins s σ H x u R' I r1 ⟨wx,M,R,ax,am,h,k⟩
 cases ax <;> first | exact(show False from h).elim | skip
 case fk a o ks kvs e ke q=>
  cases (show u=Value.ref a from r1)
  obtain⟨es,ep,hr,hd,hne,hsz,hen⟩:=ZW I.hok e
  have fp:∀ b∈[s.heap.objs.size],gV X pins H b:=fun b hb=>by
   have e:b=s.heap.objs.size:=by simpa using hb
   subst e
   exact I.fpOk (Ai _) (I.hok.fresh (Ai _))
  refine ED hne hr ⟨s.heap.objs.size,[s.heap.objs.size],_,tL a o (.dK ks) (ks.map fun p=>kV p.1),H,rfl,I.kept (t':=s.toks) fun b o e=>Aj _ e,HR a _ o _ _ es ep hd (by rw[Aa];exact hsz) (fun i en he=>?_),⟨_,Bd _ rfl,rfl,rfl⟩,fp,k _ _ _ _ _ (Kp.refl am) am (HV am e ?_) h⟩
  ·obtain⟨p,h1,h2,_⟩:=hen i en he
   exact⟨kV p.1,by rw[Au,h1];rfl,h2⟩
  ·have hk:(ks.map fun p=>kV p.1)=(ks.map Dx).map kV:=by rw[Bv];rfl
   have hw:(kvs.map fun p=>wK p.1)=(kvs.map Dx).map wK:=by rw[Bv];rfl
   rw[hk,hw,ke]
   generalize kvs.map Dx=l
   induction l with
   | nil=>exact .nil
   | cons z l ih=>exact .cons (ZV z) ih
 case ft a o ks kvs e ke q=>
  cases (show u=Value.ref a from r1)
  obtain⟨es,ep,hr,hd,hne,hsz,as,hl,hat,hen⟩:=ZX I.hok e
  have fp:∀ b∈[s.heap.objs.size],gV X pins H b:=fun b hb=>by
   have e:b=s.heap.objs.size:=by simpa using hb
   subst e
   exact I.fpOk (Ai _) (I.hok.fresh (Ai _))
  refine ED hne hr ⟨s.heap.objs.size,[s.heap.objs.size],_,tL a o (.dT ks) (as.map V.ref),H,rfl,I.kept (t':=s.toks) fun b o e=>Aj _ e,HR a _ o _ _ es ep hd (by rw[Aa];lia) (fun i en he=>?_),⟨_,Bd _ rfl,rfl,rfl⟩,fp,k _ _ _ _ _ (Kp.refl am) am (HV am e ?_) h⟩
  ·obtain⟨p,b,h1,h2,h3,_⟩:=hen i en he
   exact⟨.ref b,by rw[Au,h2];rfl,by rw[h3];rfl⟩
  ·have hw:(kvs.map fun p=>W.tup (p.1.map wK))=(ks.map Dx).map fun z=>W.tup (z.map wK):=by rw[ke,Bv];rfl
   rw[hw]
   have:∀ (ks:List (List aG×V)) (as:List Addr),as.length=ks.length->(∀ (i:Nat) (p:List aG×V) (b:Addr),ks[i]? = some p->as[i]? = some b->H b=some (.tup (p.1.map kV)))->aL X.K H M (as.map V.ref) ((ks.map Dx).map fun z=>W.tup (z.map wK)):=by
    intro ks
    induction ks with
    | nil=>intro as hl _;cases as with
     | nil=>exact .nil
     | cons b r=>simp at hl
    | cons p ks ih=>
     intro as hl hat
     cases as with
     | nil=>simp at hl
     | cons b r=>
      refine .cons (.tup (hat 0 p b rfl rfl) (GP p.1)) (ih r (by simpa using hl) fun i p b h1 h2=>hat (i + 1) p b (by simpa using h1) (by simpa using h2))
   exact this ks as hl hat
theorem ZZ{tg l:Expr}{tl:aY}(hl:E3 X l tl):PI X tg l (iG X.K (dG xR tl)):=wF hl ZY
end
end L3
namespace PySem
namespace Dt
open PyProof.Rows L2 PySem.Spec
open Zd (TK allH GQ w9)
section
variable {prog:Bu}{w:Cm}{A:Co}{E:Ae->Ag->Prop}{s:Ag}
theorem call_pairs{l:Addr}{items:Array Ae}{c:Nat}{ps:List (List aG×Addr×Ae)}{Q:Ae->Ag->Prop}(hh:A.handled=none)(hu:A.units + 2 < Ff)(hx:s.heap.get? l=some {cls:=.type "list",data:=.seq items c})(hn:ps.length=items.size)(hz:items.size<=Ak)
  (hkeys:∀ p∈ps,(TK prog w).is s.heap p.1 p.2.1)
  (hp:∀ (j:Nat) (p:List aG×Addr×Ae),ps[j]? = some p->∃ (a:Addr),items[j]? = some (.ref a)/\s.heap.IsTuple a #[.ref p.2.1,p.2.2])
  (h:∀ h' tk,(∀ b o,s.heap.get? b=some o->h'.get? b=some o)->h'.DictOfH (TK prog w) s.heap.objs.size (allH [] ps)->Q (.ref s.heap.objs.size) {s with heap:=h',toks:=tk}) :
  Bh (Bq prog w) A (call (.type "dict") [.ref l]) Q E s:=by
 have lk:∀ p∈ps,@LT.lt Nat _ p.2.1 s.heap.objs.size:=fun p hp=>by
  obtain⟨o,items,n,e,_⟩:=hkeys p hp
  exact Az e
 refine Dp.callG (Dd:=fun i h=>∃ es,es=allH [] (ps.take i)/\h.DictOfH (TK prog w) s.heap.objs.size es/\es.length<=i/\∀ e∈es,@LT.lt Nat _ e.2.1 s.heap.objs.size) hh hx ⟨[],rfl,Heap.DictOfH.new s.heap,Ai _,fun _ h=>nomatch h⟩ ?_ (fun {i t} hi hd ext=>?_) fun h' tk e ⟨es,d1,d2,_⟩=>h h' tk e (by rw[<-hn,Ck] at d1;rw[<-d1];exact d2)
 ·rintro i h h' ⟨es,he,⟨o,en,ep,ho,hc,hdd,hee,his,hnn⟩,hl,hes⟩ hm
  exact⟨es,he,⟨o,en,ep,hm _ o (Ai _) ho,hc,hdd,hee,fun x hx'=>w9 (his x hx') fun o' e=>hm _ o' (Fv (hes x hx')) e,hnn⟩,hl,hes⟩
 obtain⟨es,he,hd,hl,hes⟩:=hd
 obtain⟨p,hpi⟩:∃ p,ps[i]? = some p:=⟨_,Ax (by lia)⟩
 have hpm:p∈ps:=Bn hpi
 obtain⟨a,g1,g2⟩:=hp i p hpi
 refine⟨a,_,p.2.2,g1,g2,fun k=>wpAny_dictSet_heap (knd:=TK prog w) (Ep (A:=A.in1) (show(A.units + 1) + 1 < Ff from hu)) (w9 (hkeys p hpm) (ext _)) hd (fun h2 d2 s2=>k h2 _ ⟨_,?_,d2,?_,fun e he=>?_⟩ s2) (by lia)⟩
 ·rw[he,Dp.take_at hpi];unfold allH;rw[Ip];rfl
 ·have:=GQ es p.1 p.2.1 p.2.2;lia
 unfold Mb at he
 split at he
 ·obtain⟨e0,he0,rfl⟩:=Ba.mp he
  rw[show(putAt p.1 p.2.2 e0).2.1=e0.2.1 by unfold putAt;split <;> rfl]
  exact hes e0 he0
 ·rcases Be.mp he with q | q
  ·exact hes e q
  ·rw[An.mp q];exact lk p hpm
end
end Dt
end PySem
namespace L3
open PySem PySem.Spec PyProof.Rows L2
section
variable {X:Cx}
def n9(ps:List (List aG×W)):List W:=ps.map fun p=>.tup [.tup (p.1.map wK),p.2]
theorem HW{pins:List (Addr×Obj)}{σ:L2.St}{H:Hp}{M:Mm}{s:Ag}(I:L2.Inv X pins σ H s):∀ {ps:List (List aG×W)} {vs:List V} {its:List Ae},aL X.K H M vs (n9 ps)->a5 vs its->
  ∃ (qs:List (List aG×Addr×V)) (rs:List (List aG×Addr×Ae)),bV X.K H M (List aG) (qs.map fun q=>(q.1,q.2.2)) ps/\(∀ q∈qs,H q.2.1=some (.tup (q.1.map kV)))/\Fn (fun(q:List aG×Addr×V) (p:List aG×Addr×Ae)=>q.1=p.1/\q.2.1=p.2.1/\RelV q.2.2 p.2.2) qs rs/\rs.length=its.length/\
   (∀ z∈rs,H z.2.1=some (.tup (z.1.map kV)))/\∀ (j:Nat) (p:List aG×Addr×Ae),rs[j]? = some p->∃ (a:Addr),its[j]? = some (.ref a)/\s.heap.IsTuple a #[.ref p.2.1,p.2.2]
 | [],_,_,.nil,.nil=>⟨[],[],.nil,(fun q hq=>nomatch hq),.nil,rfl,(fun q hq=>nomatch hq),fun j p h=>by simp at h⟩
 | (k,w) :: ps,_,_,.cons av avs,.cons rv rvs=>by
  obtain⟨qs,rs,h1,h2,h3,h4,h5,h6⟩:=HW I avs rvs
  obtain⟨a,xs,ev,e,q⟩:=av.inv
  rw[ev] at rv
  obtain⟨u1,u2,ex,a1,a2⟩:=q.two
  obtain⟨b,zs,eu,eb,qb⟩:=a1.inv
  rw[qb.keys] at eb
  obtain⟨its2,r2,pl,_⟩:=I.tuple (cD.of e)
  rw[ex,eu] at r2
  obtain⟨y1,y2,ey,x1,x2⟩:=vals2 r2
  rw[ey,show y1=.ref b from x1] at pl
  refine⟨(k,b,u2) :: qs,(k,b,y2) :: rs,.cons ⟨rfl,a2⟩ h1,List.forall_mem_cons.mpr ⟨eb,h2⟩,.cons ⟨rfl,rfl,x2⟩ h3,congrArg (· + 1) h4,List.forall_mem_cons.mpr ⟨eb,h5⟩,fun j p hj=>?_⟩
  cases j with
  | zero=>rw[<-Cj hj];exact⟨a,congrArg some rv,pl⟩
  | succ j=>exact h6 j p hj
def HX:List W->Mm->K3->Prop
 | [.rl ws],M,R=>∃ ps:List (List aG×W),ws=n9 ps/\ws.length<=Ak/\iN (nY [] ps) M R
 | _,_,_=>False
theorem Z0(hc:X.calm=true)(hu:X.A.units + 2 < Ff):eD X (.type "dict") (iB X.K HX):=by
 rintro pins s σ H xs us Q I rs ⟨ws,M,R,am,axs,h,k⟩
 match ws,h with
 | [.rl ws],h=>
  obtain⟨v,rfl,av⟩:=axs.one
  obtain⟨ps,rfl,hz,r⟩:=h
  obtain⟨u,rfl,ru⟩:=vals1 rs
  cases av with
  | rl f n q=>
   cases ru
   obtain⟨z,its,c,rv,hl,e⟩:=I.lstM f
   obtain⟨qs,rs',h1,h2,h3,h4,h5,h6⟩:=HW I q rv
   have hz2:ps.length<=Ak:=by simpa [n9] using hz
   have hql:qs.length=ps.length:=by have:=Dw h1;rwa [Aa] at this
   refine Dt.call_pairs (items:=its.toArray) (ps:=rs') (I.ok.hd hc) hu e (by simpa using h4) (by rw[Aw];lia) (fun p hp=>jG I.hok (h5 p hp)) (fun j p hj=>by simpa using h6 j p hj) fun h' tk hk dd=>?_
   have hfr:=I.hok.fresh (Ai _)
   have len:=GR (qs.map fun q=>(q.1,q.2.2)) []
   rw[Aa] at len
   have puts:∀ {ps:List (List aG×W)} {qs:List (List aG×V)} {ks:List (List aG×V)} {kvs:List (List aG×W)},bV X.K H M (List aG) qs ps->bV X.K H M (List aG) ks kvs->bV X.K H M (List aG) (mU ks qs) (nY kvs ps):=by
    intro ps qs ks kvs h
    induction h generalizing ks kvs with
    | nil=>intro h;exact h
    | @cons q p qs ps r t ih=>
     intro h
     obtain⟨q1,q2⟩:=q
     obtain⟨p1,p2⟩:=p
     obtain⟨rfl,r2⟩:=r
     exact ih (rT h q1 r2)
   have g:=puts (ks:=[]) (kvs:=[]) h1 .nil
   refine⟨.ref s.heap.objs.size,aR H s.heap.objs.size (.dT (mU [] (qs.map fun q=>(q.1,q.2.2)))),I.laid (o:=.dT (mU [] (qs.map fun q=>(q.1,q.2.2)))) (t':=tk) hk (Ai _) ⟨by simp at len;lia,beq_eq_false_iff_ne.mpr (Cg (Bo I.big)),_,(WD h3 h2 .nil).keeps fun c ys ec=>?_,?_⟩,rfl,?_⟩
   ·rw[bG (fH ec hfr)];exact ec
   ·obtain⟨o,en,ep,r1,r2,r3,r4,_,r5⟩:=dd
    exact⟨o,en,ep,r1,r2,r3,r4,r5⟩
   ·obtain⟨am2,k2⟩:=am.laid (o:=.dT (nY [] ps)) (u:=.dT (mU [] (qs.map fun q=>(q.1,q.2.2)))) hfr ⟨_,cZ,pA g.keys (g.vals.newL hfr)⟩
    exact k _ _ _ _ k2 am2 (.ref _) (r _ (am.nonM hfr))
end
end L3
namespace L2
open PySem PySem.Spec PyProof.Rows
section
variable {X:Cx}{a:Expr}{ta:TA}{p p2 pos pos2:Pos}
def Z1(ta:TA):TE:=fun σ H Q=>ta σ H fun vs H1=>∃ n:Nat,vs=[.int n]/\n<=1000/\∀ q,H1 q=none->Q (.ref q) (aR H1 q (.lst ((Cw n).map fun(i:Nat)=>V.int i)))
theorem Z2(hc:X.calm=true)(hg:Gl X "list")(hm:X.mg "list" = none)(hg2:Gl X "range")(hm2:X.mg "range" = none)(ha:PA X [a] ta)
  (hs1:Bg [.Call (.Name "range" p2) [a] [] pos2] X.env=[(false,eval (.Call (.Name "range" p2) [a] [] pos2) X.env)]:=by rfl) (hs2:Bg [a] X.env=[(false,eval a X.env)]:=by rfl) :
  PE X (.Call (.Name "list" p) [.Call (.Name "range" p2) [a] [] pos2] [] pos) (Z1 ta):=by
 intro pins s σ H Q I h
 refine Dg (kE I hg hm (by decide +kernel:Dv "list" = some (.type "list")) (Cy ?_ hs1 rfl))
 rw[hs1]
 refine Calls.spliced_cons (Dg (kE I hg2 hm2 (by decide +kernel:Dv "range" = some (.type "range")) (Cy (a8 (ha pos2 pins s σ H _ I h) fun us s1 ⟨vs,H1,I1,r1,q1⟩=>?_) hs2 rfl)))
 obtain⟨n,rfl,hn,q⟩:=q1
 obtain⟨u,rfl,ru⟩:=vals1 r1
 obtain⟨t,rfl⟩:=ru
 refine call_range_1 (Calls.spliced_nil ?_)
 have sz:Builtin.Range.rangeSize 0 (n:Int) 1=(n:Nat):=by rw[rangeSize_one];split <;> lia
 refine call_list_range (n:=n) (b:=(n:Int)) (I1.ok.hd hc) (IsRange.new _ _ _ _ _ _ _) (PySem.small_one (by decide) (by decide) (by lia) (by lia)) sz (by lia) fun h' tk acc c hk hS hacc=>?_
 have up:∀ b o,s1.heap.get? b=some o->h'.get? b=some o:=fun b o e=>hk b o (Aj _ e)
 have ez:(s1.heap.push {cls:=.type "range",data:=.fields #[.int 0 0,.int (n:Int) t,.int 1 0]}).objs.size=s1.heap.objs.size + 1:=Ey _ _
 refine⟨.ref _,_,I1.laid (o:=.lst ((Cw n).map fun(i:Nat)=>V.int i)) (t':=tk) up ?_ ⟨by simp[Kv];lia,acc.toList,c,?_,by rw[Jg];exact hS⟩,rfl,q _ (I1.hok.fresh ?_)⟩
 ·first | exact Fv (Nat.lt_of_lt_of_eq (Jc _) (Ey _ _).symm) | (rw[Ey];exact Lq _)
 ·refine rH (by simp[hacc.1]) fun j v hv=>?_
  have hv':acc[j]? = some v:=by simpa using hv
  obtain⟨t',rfl⟩:=hacc.2 j v hv'
  have hj:j < n:=by have:=(Ju.mp hv').1;rw[hacc.1] at this;exact this
  refine⟨.int j,?_,t',by simp⟩
  simp[hj]
 ·first | exact Fv (Nat.lt_of_lt_of_eq (Jc _) (Ey _ _).symm) | (rw[Ey];exact Lq _)
end
end L2
namespace L3
open PySem PySem.Spec PyProof.Rows L2
section
variable {X:Cx}{a:Expr}{ta:aY}
def HY(ta:aY):aY:=fun τ M R=>ta τ M fun w M1=>∃ n:Nat,w=.int n/\n<=1000/\aZ ((Cw n).map fun(i:Nat)=>W.int i) M1 R
theorem Z3{p p2 pos pos2:Pos}(hg:Gl X "list")(hm:X.mg "list" = none)(hg2:Gl X "range")(hm2:X.mg "range" = none)(ha:E3 X a ta)(hc:X.calm=true:=by rfl)
  (hs1:Bg [.Call (.Name "range" p2) [a] [] pos2] X.env=[(false,eval (.Call (.Name "range" p2) [a] [] pos2) X.env)]:=by rfl) (hs2:Bg [a] X.env=[(false,eval a X.env)]:=by rfl) :
  E3 X (.Call (.Name "list" p) [.Call (.Name "range" p2) [a] [] pos2] [] pos) (HY ta):=
 (Z2 hc hg hm hg2 hm2 (aC ha aF (by rw[hs2];rfl)) hs1 hs2).weak fun σ H Q z0=>z0.el fun τ M R as am h k=>⟨τ,M,fun ws M1=>∃ n:Nat,ws=[.int n]/\n<=1000/\aZ ((Cw n).map fun(i:Nat)=>W.int i) M1 R,as,am,(show aB ta aD τ M _ from(show ta τ M _ from by
  refine(id h:ta τ M _) |> fun z=>?_
  exact Eq.mp (congrArg (ta τ M) (funext fun w=>funext fun M1=>propext ⟨fun⟨n,e,r⟩=>⟨n,by rw[e],r⟩,fun⟨n,e,r⟩=>⟨n,(Js e).1,r⟩⟩)) z)),fun vs H1 ws M1 k1 am1 ax ⟨n,e,hn,r⟩=>by
  subst e
  obtain⟨v,rfl,av⟩:=ax.one
  obtain rfl:=av.inv
  refine⟨n,rfl,hn,fun q hq=>iD am1 (k.kp k1) hq ?_ r⟩
  have:∀ l:List Nat,aL X.K H1 M1 (l.map fun(i:Nat)=>V.int i) (l.map fun(i:Nat)=>W.int i):=by
   intro l
   induction l with
   | nil=>exact .nil
   | cons i r ih=>exact .cons (.int _) ih
  exact this _⟩
end
end L3
namespace Rg
open PySem PySem.Spec PyProof.Rows L2 L3
def lX(row:List Str)(t:Str)(p:Int):List (Int×Int):=if 0<=p/\row[p.toNat]? = some t then [(p + 1,0)] else []
def eU(rs:List aV)(row:List Str):Sr:=⟨rs,cH rs,(Cw (row.length + 1)).map fun(i:Nat)=>(i:Int),lX row,fun _=>0⟩
theorem p6{row:List Str}{t:Str}{p e c:Int}:(e,c)∈lX row t p↔0<=p/\row[p.toNat]? = some t/\e=p + 1/\c=0:=by
 unfold lX
 split
 ·rename_i h;simp[h]
 ·rename_i h
  simp only[List.not_mem_nil,false_iff]
  exact fun z=>h ⟨z.1,z.2.1⟩
theorem xS{n:Nat}{p:Int}:p∈((Cw (n + 1)).map fun(i:Nat)=>(i:Int))↔0<=p/\p<=n:=by
 rw[Ba]
 constructor
 ·rintro⟨i,hi,rfl⟩
  have:=Hl.mp hi
  lia
 ·intro h
  exact⟨p.toNat,Hl.mpr (by lia),by lia⟩
theorem HZ{G:Sr}{B:bE}(h:dC G B):(B.map (·.1)).Nodup:=by
 obtain⟨S,I0,st,P,cur,T,A,hq,rfl,_⟩:=h
 have o:=A.ob.ord
 generalize st.best=B at o
 rw[List.nodup_iff_pairwise_ne,List.pairwise_map]
 refine Kb.mpr fun i j hi hj hij e=>?_
 have sp:B=B.take j ++ B[j] :: B.drop (j + 1):=by rw[<-Ke hj,Iw]
 have hn:=(o _ _ _ sp).2
 have hm:B[i]∈B.take j:=by
  rw[List.mem_iff_getElem]
  exact⟨i,by rw[Bj];lia,by rw[List.getElem_take]⟩
 unfold aH at hn
 rw[Option.map_eq_none_iff,List.find?_eq_none] at hn
 have:=hn _ hm
 rw[decide_eq_true_eq] at this
 exact this e
theorem kU{l:List Int}{e:Int}{k:Nat}(h:k < l.length):(l ++ [e]).getD k 0=l.getD k 0:=by
 rw[Fz,Fz,Ge h]
theorem tM{l:List Int}{e:Int}:(l ++ [e]).getD l.length 0=e:=by
 rw[Fz,List.getElem?_concat_length];rfl
theorem getD_last{l:List Int}:l.getD (l.length - 1) 0=l.getLastD 0:=by
 rw[Fz,Ht,List.getLast?_eq_getElem?]
abbrev En:=a7×aJ×Nat×List Int
structure kW(G:Sr)(pre:bE)(e:En)(r:aV):Prop where
 no:aH pre e.1=none
 ru:G.rs[e.2.2.1]? = some r
 fa:e.1=(r.name,e.2.2.2.headD 0,e.2.2.2.getLastD 0)
 ln:r.parts.length + 1<=e.2.2.2.length
 pn:∀ k t,r.parts[k]? = some t->G.own t=true->(aH pre (t,e.2.2.2.getD k 0,e.2.2.2.getD (k + 1) 0)).isSome=true
 pw:∀ k t,r.parts[k]? = some t->G.own t=false->∃ pr,(e.2.2.2.getD (k + 1) 0,pr)∈G.steps t (e.2.2.2.getD k 0)
def oA(G:Sr)(B:bE):Prop:=∀ pre e post,B=pre ++ e :: post->∃ r,kW G pre e r
theorem Z4{G:Sr}{B:bE}{n:Nat}{cut:List Int}{c:aJ}(g:GI G B n cut c):∀ r,G.rs[n]? = some r->cut.length<=r.parts.length + 1/\0 < cut.length/\
  ∀ k t,k + 1 < cut.length->r.parts[k]? = some t->(G.own t=true->(aH B (t,cut.getD k 0,cut.getD (k + 1) 0)).isSome=true)/\(G.own t=false->∃ pr,(cut.getD (k + 1) 0,pr)∈G.steps t (cut.getD k 0)):=by
 induction g with
 | start h1 h2=>exact fun r _=>⟨Nat.le_add_left _ _,Nat.zero_lt_one,fun k t h=>by simp at h⟩
 | @word r' cut c part e pr g h1 h2 h3 h4 ih=>
  intro r hr
  rw[h1] at hr;cases hr
  obtain⟨i1,i2,i3⟩:=ih r' h1
  have hl:=(Ah.mp h2).1
  refine⟨by simp;lia,by simp,fun k t hk ht=>?_⟩
  rw[Af,Bl] at hk
  by_cases z:k + 1 < cut.length
  ·rw[kU (by lia),kU z];exact i3 k t z ht
  ·obtain rfl:k=cut.length - 1:=by lia
   rw[h2] at ht;cases ht
   rw[kU (by lia),getD_last,show cut.length - 1 + 1=cut.length by lia,tM]
   exact⟨fun z=>(by rw[h3] at z;cases z),fun _=>⟨_,h4⟩⟩
 | @name r' cut c m part e k' g h1 h2 h3 h4 ih=>
  intro r hr
  rw[h1] at hr;cases hr
  obtain⟨i1,i2,i3⟩:=ih r' h1
  have hl:=(Ah.mp h2).1
  refine⟨by simp;lia,by simp,fun k t hk ht=>?_⟩
  rw[Af,Bl] at hk
  by_cases z:k + 1 < cut.length
  ·rw[kU (by lia),kU z];exact i3 k t z ht
  ·obtain rfl:k=cut.length - 1:=by lia
   rw[h2] at ht;cases ht
   rw[kU (by lia),getD_last,show cut.length - 1 + 1=cut.length by lia,tM]
   exact⟨fun _=>(by rw[h4];rfl),fun z=>(by rw[h3] at z;cases z)⟩
theorem tN{κ β:Type}[DecidableEq κ](a b:List (κ×β))(k:κ):aH (a ++ b) k=(aH a k).or (aH b k):=by
 unfold aH
 rw[List.find?_append,Option.map_or]
theorem Z5{G:Sr}{B:bE}(h:dC G B):∀ pre e post,B=pre ++ e :: post->∃ r,kW G pre e r/\e.2.2.2.length=r.parts.length + 1:=by
 obtain⟨S,I0,st,P,cur,T,A,hq,rfl,_⟩:=h
 intro pre e post hb
 obtain⟨g,hn⟩:=A.ob.ord pre e post hb
 have hat:aH st.best e.1=some e.2:=by rw[hb,tN,hn,dS,if_pos rfl];rfl
 obtain⟨p1,p2,_⟩:=A.ob.bst e.1 e.2.1 e.2.2.1 e.2.2.2 hat
 obtain⟨r,hr⟩:=g.rule
 obtain⟨i1,i2,i3⟩:=Z4 g r hr
 rw[part_of hr] at p1
 have p1:=Kd.mp p1
 have hl:e.2.2.2.length=r.parts.length + 1:=by lia
 refine⟨r,⟨hn,hr,?_,Ez hl.symm,fun k t ht=>(i3 k t ?_ ht).1,fun k t ht=>(i3 k t ?_ ht).2⟩,hl⟩
 ·rw[p2];unfold cP c8;rw[hr]
 all_goals have:=(Ah.mp ht).1;lia
theorem oB{G:Sr}{B:bE}(h:dC G B):oA G B:=fun pre e post hb=>let ⟨r,E,_⟩:=Z5 h pre e post hb;⟨r,E⟩
section
variable (G:Sr)(fw:Str->Int->Int->W)(fr:Nat->List W->W)
def oC(T:a7->W)(cut:List Int)(ps:List Str):List W:=ps.zipIdx.map fun x=>if G.own x.1=true then T (x.1,cut.getD x.2 0,cut.getD (x.2 + 1) 0) else fw x.1 (cut.getD x.2 0) (cut.getD (x.2 + 1) 0)
def jP(n:Nat):List Str:=((G.rs[n]?).map aV.parts).getD []
def tO(T:List (a7×W))(e:En):a7×W:=(e.1,fr e.2.2.1 (oC G fw (fun f=>(aH T f).getD .non) e.2.2.2 (jP G e.2.2.1)))
def stepT(T:List (a7×W))(e:En):List (a7×W):=T ++ [tO G fw fr T e]
def kB(B:bE):List (a7×W):=B.foldl (stepT G fw fr) []
def p7(B:bE)(f:a7):W:=(aH (kB G fw fr B) f).getD .non
end
section
variable {G:Sr}{fw:Str->Int->Int->W}{fr:Nat->List W->W}
theorem IA(B:bE)(T:List (a7×W)):∃ m,B.foldl (stepT G fw fr) T=T ++ m/\m.map Dx=B.map (·.1):=by
 induction B generalizing T with
 | nil=>exact⟨[],by simp,rfl⟩
 | cons e B ih=>
  obtain⟨m,h1,h2⟩:=ih (stepT G fw fr T e)
  refine⟨tO G fw fr T e :: m,?_,congrArg (e.1 :: ·) h2⟩
  rw[Dz,h1,stepT,Dl];rfl
theorem gT{κ β:Type}[DecidableEq κ]{t:List (κ×β)}{k:κ}:(aH t k).isSome=true↔k∈t.map (·.1):=by
 rw[<-kR,List.any_eq_true,Ba]
 exact⟨fun⟨x,h,e⟩=>⟨x,h,of_decide_eq_true e⟩,fun⟨x,h,e⟩=>⟨x,h,decide_eq_true e⟩⟩
theorem xT{B pre post:bE}{e:En}{r:aV}(hb:B=pre ++ e :: post)(E:kW G pre e r):p7 G fw fr B e.1=fr e.2.2.1 (oC G fw (p7 G fw fr B) e.2.2.2 r.parts):=by
 obtain⟨m0,a1,a2⟩:=IA (G:=G) (fw:=fw) (fr:=fr) pre []
 rw[Eh] at a1
 obtain⟨m,h1,h2⟩:=IA (G:=G) (fw:=fw) (fr:=fr) post (stepT G fw fr (kB G fw fr pre) e)
 have ht:kB G fw fr B=kB G fw fr pre ++ (tO G fw fr (kB G fw fr pre) e :: m):=by
  unfold kB at h1 ⊢
  rw[hb,Ip,Dz,h1,stepT,Dl];rfl
 have hk:(kB G fw fr pre).map Dx=pre.map (·.1):=by unfold kB;rw[a1];exact a2
 have hn:aH (kB G fw fr pre) e.1=none:=by
  rw[<-Option.not_isSome_iff_eq_none,gT,hk,<-gT,E.no];exact Ap
 have hp:jP G e.2.2.1=r.parts:=by unfold jP;rw[E.ru];rfl
 unfold p7
 rw[ht,tN,hn,dS,if_pos (show(tO G fw fr (kB G fw fr pre) e).1=e.1 from rfl)]
 show fr e.2.2.1 (oC G fw _ e.2.2.2 (jP G e.2.2.1))=_
 rw[hp]
 refine congrArg _ (Hx fun x hx=>?_)
 obtain⟨t,k⟩:=x
 have hx:=Gz.mp hx
 by_cases ho:G.own t=true
 ·rw[if_pos ho,if_pos ho]
  dsimp only
  rw[tN]
  have hs:=E.pn k t hx ho
  rw[gT,<-hk,<-gT] at hs
  obtain⟨v,hv⟩:=Cq.mp hs
  rw[hv];rfl
 ·rw[if_neg ho,if_neg ho]
end
end Rg
namespace M47
open PySem PySem.Spec PyProof.Rows L2 L3 Rg
abbrev SI:=Str×Int×Int
inductive PP(S:Str->Int->Int->Int->List SI->Prop):List Str->Int->Int->Int->List SI->Prop
 | nil {b:Int}:PP S [] b b 0 []
 | cons {t:Str} {ts:List Str} {b m e u v:Int} {x y:List SI}:S t b m u x->PP S ts m e v y->PP S (t :: ts) b e (u + v) (x ++ y)
theorem PP.snoc{S:Str->Int->Int->Int->List SI->Prop}{t:Str}{m e u:Int}{x:List SI}(h:S t m e u x):∀ {ts:List Str} {b v:Int} {y:List SI},PP S ts b m v y->PP S (ts ++ [t]) b e (v + u) (y ++ x)
 | _,_,_,_,.nil=>by
  have:=PP.cons h (.nil (S:=S))
  rw[Iq,Ct] at this
  rw[Gy];exact this
 | _,_,_,_,.cons h1 h2=>by
  rw[Gj,Dl];exact .cons h1 (h2.snoc h)
theorem PP.imp{S S':Str->Int->Int->Int->List SI->Prop}(h:∀ t b e v x,S t b e v x->S' t b e v x){ts:List Str}{b e v:Int}{y:List SI}(p:PP S ts b e v y):PP S' ts b e v y:=by
 induction p with
 | nil=>exact .nil
 | cons a _ ih=>exact .cons (h _ _ _ _ _ a) ih
def PS(G:Sr)(N:a7->Int->List SI->Prop)(t:Str)(b e v:Int)(x:List SI):Prop:=(G.own t=false/\(e,v)∈G.steps t b/\x=[(t,b,e)])\/(G.own t=true/\N (t,b,e) v x)
theorem PS.imp{G:Sr}{N N':a7->Int->List SI->Prop}(h:∀ f v x,N f v x->N' f v x)(t:Str)(b e v:Int)(x:List SI)(p:PS G N t b e v x):PS G N' t b e v x:=Or.imp id (fun q=>⟨q.1,h _ _ _ q.2⟩) p
def Cs(G:Sr)(f:a7)(v:Int):Prop:=∃ n cut k,DI G n cut (v,k)/\dW G n cut=none/\f=cP G n cut
theorem tP{cut:List Int}{z:Int}(h:cut≠[]):(cut ++ [z]).headD 0=cut.headD 0/\(cut ++ [z]).getLastD 0=z/\(cut ++ [z]).length - 1=(cut.length - 1) + 1:=by
 cases cut with
 | nil=>exact absurd rfl h
 | cons x cut=>exact⟨rfl,by rw[<-getD_last,Af,Bl,Nat.add_sub_cancel,tM],by simp⟩
theorem Z6{G:Sr}{n:Nat}{r:aV}(hr:G.rs[n]? = some r){ts:List Str}{b e v:Int}{y:List SI}(h:PP (PS G fun f v _=>Cs G f v) ts b e v y):∀ {cut:List Int} {c k:Int},DI G n cut (c,k)->cut.getLastD 0=b->r.parts.drop (cut.length - 1)=ts->
  ∃ cut' k',DI G n cut' (c + v,k')/\cut'.getLastD 0=e/\cut'.headD 0=cut.headD 0/\r.parts[cut'.length - 1]? = none:=by
 induction h with
 | nil=>
  intro cut c k d hl hd
  refine⟨cut,k,by rw[Iq];exact d,hl,rfl,?_⟩
  rw[Kd]
  exact List.drop_eq_nil_iff.mp hd
 | @cons t ts b m e u v x y hs _ ih=>
  intro cut c k d hl hd
  have hp:r.parts[cut.length - 1]? = some t:=by rw[<-Nat.add_zero (cut.length - 1),<-List.getElem?_drop,hd];rfl
  have hd':r.parts.drop (cut.length - 1 + 1)=ts:=by rw[<-List.drop_drop,hd];rfl
  rcases hs with⟨ho,hs,_⟩ | ⟨ho,n',cut',k',d',p',f'⟩
  ·obtain⟨s1,s2,s3⟩:=tP (z:=m) d.ne
   obtain⟨c2,k2,h1,h2,h3,h4⟩:=ih (cut:=cut ++ [m]) (c:=c + u) (k:=k) (DI.word d hr hp ho (by rw[hl];exact hs)) s2 (by rw[s3];exact hd')
   exact⟨c2,k2,by rw[<-Gj];exact h1,h2,h3.trans s1,h4⟩
  ·unfold cP at f'
   simp only[Dj] at f'
   obtain⟨f1,f2,f3⟩:=f'
   obtain⟨s1,s2,s3⟩:=tP (z:=cut'.getLastD 0) d.ne
   obtain⟨c2,k2,h1,h2,h3,h4⟩:=ih (cut:=cut ++ [cut'.getLastD 0]) (c:=c + u) (k:=k + k') (DI.name d hr hp ho d' p' f1.symm (by rw[hl,f2])) (by rw[s2,f3]) (by rw[s3];exact hd')
   exact⟨c2,k2,by rw[<-Gj];exact h1,h2,h3.trans s1,h4⟩
theorem tQ{G:Sr}(hw:∀ n,G.wt n=0){r:aV}(hr:r∈G.rs){b e v:Int}{y:List SI}(hb:b∈G.places)(h:PP (PS G fun f v _=>Cs G f v) r.parts b e v y):Cs G (r.name,b,e) v:=by
 obtain⟨n,hn⟩:=Lj hr
 obtain⟨cut,k,h1,h2,h3,h4⟩:=Z6 hn h (DI.start hn hb) rfl rfl
 rw[hw,Gy] at h1
 refine⟨n,cut,k,h1,(part_of hn).trans h4,?_⟩
 unfold cP c8
 rw[hn,h2,h3];rfl
theorem xU{G:Sr}{B:bE}(h:dC G B){f:a7}{v:Int}(c:Cs G f v):∃ x,aH B f=some x/\x.1.1<=v:=by
 obtain⟨n,cut,k,d,p,rfl⟩:=c
 obtain⟨_,_,st,_,_,_,A,hq,rfl,_⟩:=h
 obtain⟨m,k',e,l⟩:=VJ A.inv A.ob A.ini hq d p
 refine⟨_,e,?_⟩
 unfold Le at l
 simp only at l ⊢
 lia
def lY(yl:a7->List SI)(own:Str->Bool)(cut:List Int)(ps:List Str):List SI:=(ps.zipIdx.map fun x=>if own x.1=true then yl (x.1,cut.getD x.2 0,cut.getD (x.2 + 1) 0) else [(x.1,cut.getD x.2 0,cut.getD (x.2 + 1) 0)]).flatten
theorem IC{yl:a7->List SI}{own:Str->Bool}{cut:List Int}{e:Int}{ps:List Str}{t:Str}(h:ps.length + 1=cut.length):lY yl own (cut ++ [e]) (ps ++ [t])=lY yl own cut ps ++ if own t=true then yl (t,cut.getLastD 0,e) else [(t,cut.getLastD 0,e)]:=by
 unfold lY
 rw[List.zipIdx_append,Bf,Jo]
 congr 1
 ·congr 1
  refine Hx fun x hx=>?_
  have:=(List.mem_zipIdx hx).2.1
  rw[kU (by lia),kU (by lia)]
 ·simp only[Kq,List.zipIdx_nil,Bc,Jp,Ex,List.flatten_nil,Ct,Gi]
  rw[kU (by lia),show ps.length=cut.length - 1 by lia,getD_last,show cut.length - 1 + 1=cut.length by lia,tM]
theorem Z7{G:Sr}(hw:∀ n,G.wt n=0){pre:bE}(yl:a7->List SI){n:Nat}{cut:List Int}{c:aJ}(g:GI G pre n cut c):∃ r,G.rs[n]? = some r/\cut.headD 0∈G.places/\cut.length<=r.parts.length + 1/\
  PP (PS G fun f v x=>(∃ z,aH pre f=some z/\z.1.1=v)/\x=yl f) (r.parts.take (cut.length - 1)) (cut.headD 0) (cut.getLastD 0) c.1 (lY yl G.own cut (r.parts.take (cut.length - 1))):=by
 induction g with
 | @start r p hr hp=>exact⟨r,hr,hp,by simp,by rw[hw];exact .nil⟩
 | @word r cut c part e pr g hr hp ho hs ih=>
  obtain⟨r',hr',h1,h2,h3⟩:=ih
  rw[hr'] at hr;cases hr
  obtain⟨s1,s2,s3⟩:=tP (z:=e) g.ne
  have hl:=(Ah.mp hp).1
  have hne:=Fb.mpr g.ne
  refine⟨r,hr',by rw[s1];exact h1,by simp;lia,?_⟩
  rw[s1,s2,s3,lV hp,IC (by rw[Bj];lia),if_neg (by rw[ho];exact Ap)]
  exact h3.snoc (.inl ⟨ho,hs,rfl⟩)
 | @name r cut c m part e k g hr hp ho hb ih=>
  obtain⟨r',hr',h1,h2,h3⟩:=ih
  rw[hr'] at hr;cases hr
  obtain⟨s1,s2,s3⟩:=tP (z:=e) g.ne
  have hl:=(Ah.mp hp).1
  have hne:=Fb.mpr g.ne
  refine⟨r,hr',by rw[s1];exact h1,by simp;lia,?_⟩
  rw[s1,s2,s3,lV hp,IC (by rw[Bj];lia),if_pos ho]
  exact h3.snoc (.inr ⟨ho,⟨_,hb,rfl⟩,rfl⟩)
def tR(x:SI):W:=.tup [.str x.1,.int x.2.1,.int x.2.2]
def xV:W->List SI
 | .rl l=>l.filterMap fun w=>match w with | .tup [.str t,.int b,.int e]=>some (t,b,e) | _=>none
 | _=>[]
theorem ID(l:List SI):xV (.rl (l.map tR))=l:=by
 show(l.map tR).filterMap _=l
 rw[Ig]
 exact List.filterMap_some
def yT(G:Sr)(B:bE)(f:a7):List SI:=xV (p7 G (fun t b e=>.rl [tR (t,b,e)]) (fun _ vs=>.rl ((vs.flatMap xV).map tR)) B f)
theorem xW{G:Sr}{B pre post:bE}{e:En}{r:aV}(hb:B=pre ++ e :: post)(E:kW G pre e r):yT G B e.1=lY (yT G B) G.own e.2.2.2 r.parts:=by
 unfold yT
 rw[xT hb E,ID]
 unfold lY oC
 rw[List.flatMap_def,Bv]
 congr 1
 refine Hx fun x _=>?_
 simp only[Jv]
 by_cases h:G.own x.1=true
 ·rw[if_pos h,if_pos h]
 ·rw[if_neg h,if_neg h];exact ID [(x.1,e.2.2.2.getD x.2 0,e.2.2.2.getD (x.2 + 1) 0)]
theorem Z8{G:Sr}(hw:∀ n,G.wt n=0){B:bE}(h:dC G B){pre:bE}{e:En}{post:bE}(hb:B=pre ++ e :: post):∃ r,G.rs[e.2.2.1]? = some r/\e.1.1=r.name/\e.1.2.1∈G.places/\
  PP (PS G fun f v x=>(∃ z,aH pre f=some z/\z.1.1=v)/\x=yT G B f) r.parts e.1.2.1 e.1.2.2 e.2.1.1 (yT G B e.1):=by
 obtain⟨r0,E⟩:=oB h pre e post hb
 obtain⟨S,I0,st,P,cur,T,A,hq,rfl,_⟩:=h
 obtain⟨g,hn⟩:=A.ob.ord pre e post hb
 obtain⟨r,hr,h1,h2,h3⟩:=Z7 hw (yT G st.best) g
 have:=E.ru
 rw[hr] at this;cases this
 have hl:=E.ln
 rw[Gs (by lia),<-xW hb E] at h3
 have hf:=E.fa
 refine⟨_,hr,by rw[hf],by rw[hf];exact h1,?_⟩
 rw[<-show e.1.2.1=e.2.2.2.headD 0 by rw[hf],<-show e.1.2.2=e.2.2.2.getLastD 0 by rw[hf]] at h3
 exact h3
theorem Z9{B pre post:bE}{e:En}(hb:B=pre ++ e :: post){f:a7}{z:aJ×Nat×List Int}(h:aH pre f=some z):∃ p q,pre=p ++ (f,z) :: q/\B=p ++ (f,z) :: (q ++ e :: post):=by
 obtain⟨a,b,e1⟩:=iS h
 exact⟨a,b,e1,by rw[hb,e1,Dl];rfl⟩
theorem oE{G:Sr}(hw:∀ n,G.wt n=0){B:bE}(h:dC G B)(Q:a7->Int->List SI->Prop)(hq:∀ r∈G.rs,∀ b∈G.places,∀ e v y,PP (PS G Q) r.parts b e v y->Q (r.name,b,e) v y):∀ (k:Nat) (pre:bE) (e:En) (post:bE),pre.length=k->B=pre ++ e :: post->Q e.1 e.2.1.1 (yT G B e.1):=by
 intro k
 induction k using Nat.strongRecOn with
 | ind k ih=>
  intro pre e post hk hb
  obtain⟨r,hr,h1,h2,h3⟩:=Z8 hw h hb
  have:=hq r (Bn hr) _ h2 _ _ _ (h3.imp (PS.imp fun f v x ⟨⟨z,z1,z2⟩,zx⟩=>by
   obtain⟨p,q,e1,e2⟩:=Z9 hb z1
   have:=ih p.length (by rw[<-hk,e1];simp) p (f,z) _ rfl e2
   rw[z2] at this
   rw[zx];exact this))
  rwa [<-h1] at this
end M47
namespace Rg
open PySem PySem.Spec PyProof.Rows L2 L3
section
variable {rs:List aV}{ws:List Str}
def IE(rs:List aV)(ws:List Str):Prop:=∀ r∈rs,∀ t∈r.parts,cH rs t=false->t∈ws
variable {S I0 T:Nat}{st:SS}{P:List bZ}{cur:aJ}
theorem IF(rs:List aV):(namesOf rs).length<=rs.length:=by
 have:∀ (qs:List aV) (acc:List Str),(mR acc qs).length<=acc.length + qs.length:=by
  intro qs
  induction qs with
  | nil=>intro acc;exact Ai _
  | cons r qs ih=>
   intro acc
   have h1:=ih (fB acc r.name)
   have h2:(fB acc r.name).length<=acc.length + 1:=by unfold fB;split <;> simp
   show(mR (fB acc r.name) qs).length<=_
   rw[Ar];lia
 have:=this rs []
 rw[Fm,Gi] at this
 exact this
end
def dO(n:Nat):List Int:=(Cw (n + 1)).map fun(i:Nat)=>(i:Int)
theorem gU{n:Nat}{p:Int}:p∈dO n↔0<=p/\p<=n:=xS
end Rg
namespace M47
open PySem PySem.Spec PyProof.Rows L2 L3 Rg
def bL(row:List Str)(b e:Int):List Str:=(row.take e.toNat).drop b.toNat
def gD(row:List Str)(t:Str)(b e:Int):Int:=if t = "" then(bL row b e).length else if bL row b e=[] then 1 else if t∈bL row b e then((bL row b e).length:Int) - 1 else(bL row b e).length
abbrev dP:=List Str
def oF(t:Str):dP:=["drop",t]
def oG(row:List Str)(t:Str)(b e:Int):List dP:=
 if t = "" then(bL row b e).map oF else if bL row b e=[] then [["put",t]] else
 if t∈bL row b e then((bL row b e).take ((bL row b e).idxOf t)).map oF ++ [(["keep",t]:dP)] ++ ((bL row b e).drop ((bL row b e).idxOf t + 1)).map oF
 else ["swap",(bL row b e).headD "",t] :: ((bL row b e).drop 1).map oF
inductive Gn:List dP->List Str->List Str->Int->Prop
 | nil:Gn [] [] [] 0
 | keep {S:List dP} {r w:List Str} {n:Int} {t:Str}:Gn S r w n->Gn (["keep",t] :: S) (t :: r) (t :: w) n
 | drop {S:List dP} {r w:List Str} {n:Int} {t:Str}:Gn S r w n->Gn (["drop",t] :: S) (t :: r) w (1 + n)
 | put {S:List dP} {r w:List Str} {n:Int} {t:Str}:Gn S r w n->Gn (["put",t] :: S) r (t :: w) (1 + n)
 | swap {S:List dP} {r w:List Str} {n:Int} {x t:Str}:Gn S r w n->Gn (["swap",x,t] :: S) (x :: r) (t :: w) (1 + n)
theorem Gn.cat{S S':List dP}{r r' w w':List Str}{n n':Int}(h:Gn S r w n)(h':Gn S' r' w' n'):Gn (S ++ S') (r ++ r') (w ++ w') (n + n'):=by
 induction h with
 | nil=>rw[Gy];exact h'
 | keep _ ih=>exact .keep ih
 | drop _ ih=>rw[Gj];exact .drop ih
 | put _ ih=>rw[Gj];exact .put ih
 | swap _ ih=>rw[Gj];exact .swap ih
theorem p8:∀ w:List Str,Gn (w.map oF) w [] w.length
 | []=>.nil
 | t :: w=>by
  rw[Ar,show((w.length + 1:Nat):Int)=1 + w.length by lia]
  exact .drop (p8 w)
def lw(t:Str):List Str:=if t = "" then [] else [t]
theorem IG{t:Str}:∀ {w:List Str},t∈w->w.take (w.idxOf t) ++ t :: w.drop (w.idxOf t + 1)=w
 | x :: w,h=>by
  rw[List.idxOf_cons]
  by_cases e:x=t
  ·subst e;simp
  ·rw[show(x == t)=false from by simpa using e]
   have:=IG ((Ay.mp h).resolve_left fun z=>e z.symm)
   simp only[cond_false,List.take_succ_cons,List.drop_succ_cons,List.cons_append,this]
theorem zaa(row:List Str)(t:Str)(b e:Int):Gn (oG row t b e) (bL row b e) (lw t) (gD row t b e):=by
 unfold oG lw gD
 generalize bL row b e=w
 by_cases h0:t = ""
 ·rw[if_pos h0,if_pos h0,if_pos h0];exact p8 w
 ·rw[if_neg h0,if_neg h0,if_neg h0]
  by_cases h1:w=[]
  ·rw[if_pos h1,if_pos h1,h1];exact .put .nil
  ·rw[if_neg h1,if_neg h1]
   by_cases h2:t∈w
   ·rw[if_pos h2,if_pos h2]
    have e1:=IG h2
    have l1:=congrArg Cz e1
    rw[Af,Ar] at l1
    have:=((p8 (w.take (w.idxOf t))).cat (.keep .nil (t:=t))).cat (p8 (w.drop (w.idxOf t + 1)))
    rw[Dl (w.take _),List.singleton_append,e1,Eh,Ct] at this
    rw[show((w.length:Int) - 1)=((w.take (w.idxOf t)).length:Int) + 0 + ((w.drop (w.idxOf t + 1)).length:Int) by lia]
    exact this
   ·rw[if_neg h2,if_neg h2]
    cases w with
    | nil=>exact absurd rfl h1
    | cons x w=>
     rw[Ar,show((w.length + 1:Nat):Int)=1 + w.length by lia]
     have:=(Gn.swap .nil (x:=x) (t:=t)).cat (p8 w)
     rw[Iq] at this
     exact this
theorem xX{row:List Str}{b m e:Int}(h0:0<=b)(h1:b<=m)(h2:m<=e):bL row b m ++ bL row m e=bL row b e:=by
 unfold bL
 have e1:row.take m.toNat=(row.take e.toNat).take m.toNat:=by rw[List.take_take,Fo (by lia)]
 rw[e1]
 generalize row.take e.toNat=r
 conv=>rhs;rw[<-Iw m.toNat r,List.drop_append]
 congr 1
 by_cases hl:m.toNat<=r.length
 ·rw[Bj,Fo hl,show b.toNat - m.toNat=0 by lia,List.drop_zero]
 ·rw[Gu (by lia),List.drop_nil]
def Ch:Int->List SI->Int->Prop
 | b,[],e=>b=e/\0<=b
 | b,x :: y,e=>x.2.1=b/\0<=b/\b<=x.2.2/\Ch x.2.2 y e
theorem Ch.le:∀ {y:List SI} {b e:Int},Ch b y e->0<=b/\b<=e
 | [],b,e,h=>⟨h.2,Int.le_of_eq h.1⟩
 | x :: y,b,e,h=>⟨h.2.1,Dc h.2.2.1 (Ch.le h.2.2.2).2⟩
theorem Ch.cat:∀ {x y:List SI} {b m e:Int},Ch b x m->Ch m y e->Ch b (x ++ y) e
 | [],y,b,m,e,h,h'=>by cases h.1;exact h'
 | x :: xs,y,b,m,e,h,h'=>⟨h.1,h.2.1,h.2.2.1,Ch.cat h.2.2.2 h'⟩
def costs(row:List Str)(y:List SI):Int:=(y.map fun x=>gD row x.1 x.2.1 x.2.2).sum
def gN(row:List Str)(y:List SI):List dP:=y.flatMap fun x=>oG row x.1 x.2.1 x.2.2
def II(y:List SI):List Str:=y.flatMap fun x=>lw x.1
theorem zab{row:List Str}{x y:List SI}:costs row (x ++ y)=costs row x + costs row y:=by unfold costs;rw[Bf,List.sum_append]
theorem xY{row:List Str}:∀ {y:List SI} {b e:Int},Ch b y e->Gn (gN row y) (bL row b e) (II y) (costs row y)
 | [],b,e,h=>by
  cases h.1
  rw[show bL row b b=[] from Gu (by rw[Bj];exact Gh _ _)]
  exact .nil
 | x :: y,b,e,⟨h1,h2,h3,h4⟩=>by
  cases h1
  rw[<-xX h2 h3 h4.le.2]
  exact(zaa row x.1 x.2.1 x.2.2).cat (xY h4)
def bM(r:aV):aV:=if r.parts=[] then {r with parts:=[""]} else r
def lZ(U row:List Str)(t:Str)(b:Int):List (Int×Int):=if t∈U/\b∈dO row.length then((dO row.length).filter fun e=>decide (b<=e)).map fun e=>(e,gD row t b e) else []
def bX(rs:List aV)(row U:List Str):Sr:=⟨rs.map bM,cH rs,dO row.length,lZ U row,fun _=>0⟩
theorem kC{U row:List Str}{t:Str}{b e c:Int}:(e,c)∈lZ U row t b↔t∈U/\0<=b/\b<=e/\e<=row.length/\c=gD row t b e:=by
 unfold lZ
 constructor
 ·intro h
  split at h
  ·rename_i z
   obtain⟨e',h1,h2⟩:=Ba.mp h
   cases h2
   obtain⟨h3,h4⟩:=Dh.mp h1
   exact⟨z.1,(gU.mp z.2).1,of_decide_eq_true h4,(gU.mp h3).2,rfl⟩
  ·cases h
 ·rintro⟨h1,h2,h3,h4,rfl⟩
  rw[if_pos ⟨h1,gU.mpr ⟨h2,Dc h3 h4⟩⟩]
  exact Ba.mpr ⟨e,Dh.mpr ⟨gU.mpr ⟨Dc h2 h3,h4⟩,decide_eq_true h3⟩,rfl⟩
theorem xZ{row:List Str}{t:Str}{b e:Int}:0<=gD row t b e:=by
 unfold gD
 split
 ·lia
 split
 ·decide
 split
 ·rename_i z
  have:=List.length_pos_of_mem z
  lia
 ·lia
theorem zac{rs:List aV}{row U:List Str}:nX (bX rs row U):=⟨fun _=>Eo _,fun t p e c h=>by rw[(kC.mp h).2.2.2.2];exact xZ⟩
section
variable {rs:List aV}{row U:List Str}{B:bE}
theorem yA(h:dC (bX rs row U) B){f:a7}{x:aJ×Nat×List Int}(e:aH B f=some x):Ch f.2.1 (yT (bX rs row U) B f) f.2.2/\x.1.1=costs row (yT (bX rs row U) B f):=by
 obtain⟨pre,post,hb⟩:=iS e
 refine oE (fun _=>rfl) h (fun f v y=>Ch f.2.1 y f.2.2/\v=costs row y) (fun r hr b hb e v y p=>?_) _ pre (f,x) post rfl hb
 show Ch b y e/\v=costs row y
 replace hb:=(gU.mp hb).1
 clear hr
 generalize r.parts=ps at p
 induction p with
 | nil=>exact⟨⟨rfl,hb⟩,rfl⟩
 | @cons t ts b m e u v x y hs _ ih=>
  have:Ch b x m/\u=costs row x:=by
   rcases hs with⟨_,h2,rfl⟩ | ⟨_,h2⟩
   ·obtain⟨_,h3,h4,_,rfl⟩:=kC.mp h2
    refine⟨⟨rfl,h3,h4,rfl,Dc h3 h4⟩,?_⟩
    unfold costs;simp
   ·exact h2
  obtain⟨i1,i2⟩:=ih (Dc this.1.le.1 this.1.le.2)
  exact⟨this.1.cat i1,by rw[zab,this.2,i2]⟩
inductive Fr(rs:List aV):Str->Prop
 | mk {r:aV}:r∈rs->(∀ t∈r.parts,cH rs t=true->Fr rs t)->Fr rs r.name
theorem mZ(r:aV):(bM r).name=r.name:=by unfold bM;split <;> rfl
theorem zad(r:aV):(bM r).parts≠[]:=by
 unfold bM;split
 ·exact fun h=>nomatch h
 ·assumption
theorem IJ{r:aV}{t:Str}(h:t∈(bM r).parts):t∈r.parts\/t = "":=by
 unfold bM at h;split at h
 ·exact .inr (An.mp h)
 ·exact .inl h
theorem IK{r:aV}{t:Str}(h:t∈r.parts):t∈(bM r).parts:=by
 unfold bM;rw[if_neg (fun e=>by rw[e] at h;cases h)];exact h
theorem IL(h:dC (bX rs row U) B){f:a7}{x:aJ×Nat×List Int}(e:aH B f=some x):Fr rs f.1:=by
 obtain⟨pre,post,hb⟩:=iS e
 refine oE (fun _=>rfl) h (fun f _ _=>Fr rs f.1) (fun r hr b hb e v y p=>?_) _ pre (f,x) post rfl hb
 obtain⟨r0,hr0,rfl⟩:=Ba.mp hr
 show Fr rs (bM r0).name
 rw[mZ]
 refine .mk hr0 fun t ht ho=>?_
 have ht:=IK ht
 clear hr hr0 hb
 generalize (bM r0).parts=ps at p ht
 induction p with
 | nil=>cases ht
 | @cons t' ts b m e u v x y hs _ ih=>
  rcases Ay.mp ht with rfl | ht
  ·rcases hs with⟨h1,_⟩ | ⟨_,h2⟩
   ·rw[show cH rs t=false from h1] at ho;cases ho
   ·exact h2
  ·exact ih ht
end
end M47
namespace Rg
open PySem PySem.Spec PyProof.Rows L2 L3
abbrev p9(G:Sr)(B:bE)(f:a7):W:=p7 G (fun t _ _=>.str t) (fun n vs=>.tup [.int n,.tup vs]) B f
end Rg
namespace M47
open PySem PySem.Spec PyProof.Rows L2 L3 Rg
def eJ:List Str:=["S","S_1","S_12","V","W","X","Y","Z"]
def cI:List Str:=["a","ab","b"]
def is8(t:Str):Bool:=decide (t∈eJ)
structure cT(rs:List aV):Prop where
 ne:rs≠[]
 few:rs.length<=9
 nm:∀ r∈rs,r.name∈eJ
 pt:∀ r∈rs,∀ t∈r.parts,t∈eJ\/t∈cI
 fp:∀ r∈rs,r.parts.length<=3
 ow:∀ r∈rs,∀ t∈r.parts,cH rs t=is8 t
structure hZ(row:List Str):Prop where
 wd:∀ t∈row,t∈cI
 few:row.length<=12
theorem m7{t:Str}(h:t∈eJ\/t∈cI):g9 t:=by
 have h1:∀ t∈eJ,g9 t:=by unfold eJ g9;decide +kernel
 have h2:∀ t∈cI,g9 t:=by unfold cI g9;decide +kernel
 exact h.elim (h1 t) (h2 t)
theorem yB{t:Str}(h:t∈eJ\/t∈cI):t≠"":=by
 have h1:∀ t∈eJ,t≠"":=by unfold eJ;decide +kernel
 have h2:∀ t∈cI,t≠"":=by unfold cI;decide +kernel
 exact h.elim (h1 t) (h2 t)
section
variable {rs:List aV}{row U:List Str}{B:bE}
theorem zae(g:cT rs){t:Str}(h:cH rs t=true):t∈eJ:=by
 obtain⟨r,hr,e⟩:=mS.mp (of_decide_eq_true h)
 rw[<-e];exact g.nm r hr
theorem tS(g:cT rs):cH rs "" = false:=by
 cases h:cH rs "" with
 | false=>rfl
 | true=>exact absurd rfl (yB (.inl (zae g h)))
def qA(L:List Str)(r:aV):Bool:=r.parts.all fun t=>!is8 t || decide (t∈L)
def jD(L:List Str)(r:aV):List Str:=if r.name∉L/\qA L r=true then L ++ [r.name] else L
def m8(rs:List aV)(L:List Str):List Str:=rs.foldl jD L
def gO(rs:List aV):Nat->List Str
 | 0=>[]
 | k + 1=>m8 rs (gO rs k)
def kX(rs:List aV):List Str:=gO rs rs.length
structure FL(rs:List aV)(L:List Str):Prop where
 nd:L.Nodup
 ch:∀ pre X post,L=pre ++ X :: post->∃ r∈rs,r.name=X/\qA pre r=true
theorem zaf{L:List Str}{r:aV}(h:FL rs L)(hr:r∈rs):FL rs (jD L r):=by
 unfold jD
 split
 ·rename_i z
  refine⟨Ew.mpr ⟨h.nd,by simp,fun a ha b hb e=>z.1 (by rw[<-An.mp hb,<-e];exact ha)⟩,fun pre X post e=>?_⟩
  rcases List.append_eq_append_iff.mp e.symm with⟨m,h1,h2⟩ | ⟨m,h1,h2⟩
  ·cases m with
   | nil=>
    rw[Eh] at h2
    cases h2
    rw[Ct] at h1
    exact⟨r,hr,rfl,by rw[<-h1];exact z.2⟩
   | cons y m=>
    cases h2
    exact h.ch pre _ m h1
  ·cases m with
   | nil=>
    rw[Eh] at h2
    cases h2
    rw[Ct] at h1
    exact⟨r,hr,rfl,by rw[h1];exact z.2⟩
   | cons y m=>simp at h2
 ·exact h
theorem IM{L:List Str}{r:aV}:∃ m,jD L r=L ++ m:=by
 unfold jD;split
 ·exact⟨_,rfl⟩
 ·exact⟨[],by simp⟩
theorem yC:∀ {l:List aV} {L:List Str},∃ m,l.foldl jD L=L ++ m
 | [],L=>⟨[],by simp⟩
 | r :: l,L=>by
  obtain⟨m,h⟩:=IM (L:=L) (r:=r)
  obtain⟨m',h'⟩:=yC (l:=l) (L:=jD L r)
  exact⟨m ++ m',by rw[Dz,h',h,Dl]⟩
theorem IP:∀ {l:List aV} {L:List Str},(∀ r∈l,r∈rs)->FL rs L->FL rs (l.foldl jD L)
 | [],_,_,h=>h
 | r :: l,L,hs,h=>IP (l:=l) (fun x hx=>hs x (Av _ hx)) (zaf h (hs r Bb))
theorem yD:∀ k,FL rs (gO rs k)
 | 0=>⟨Gm,fun pre X post e=>absurd (congrArg Cz e) (by simp[gO])⟩
 | k + 1=>IP (fun _ h=>h) (yD k)
theorem IQ:∀ {l:List aV} {L:List Str},l.foldl jD L=L->∀ r∈l,jD L r=L
 | r :: l,L,h,x,hx=>by
  obtain⟨m,e1⟩:=IM (L:=L) (r:=r)
  obtain⟨m',e2⟩:=yC (l:=l) (L:=jD L r)
  rw[Dz,e2,e1,Dl] at h
  have:m ++ m'=[]:=List.append_right_eq_self.mp h
  rw[List.append_eq_nil_iff] at this
  rw[this.1,Ct] at e1
  rcases Ay.mp hx with rfl | hx
  ·exact e1
  ·refine IQ (l:=l) ?_ x hx
   rw[e1,this.2,Ct] at e2;exact e2
theorem IS:∀ k,m8 rs (gO rs k)=gO rs k\/k<=(gO rs k).length
 | 0=>.inr (Cd _)
 | k + 1=>by
  rcases IS k with h | h
  ·left
   show m8 rs (m8 rs (gO rs k))=m8 rs (gO rs k)
   rw[h,h]
  ·obtain⟨m,e⟩:=yC (l:=rs) (L:=gO rs k)
   have e:gO rs (k + 1)=gO rs k ++ m:=e
   cases m with
   | nil=>
    left
    rw[Ct] at e
    show m8 rs (gO rs (k + 1))=gO rs (k + 1)
    have e':m8 rs (gO rs k)=gO rs k:=e
    rw[e,e']
   | cons x m=>right;rw[e,Af,Ar];lia
theorem IT{L:List Str}(h:FL rs L){X:Str}(hX:X∈L):∃ r∈rs,r.name=X:=by
 obtain⟨a,b,e⟩:=Gv hX
 obtain⟨r,h1,h2,_⟩:=h.ch a X b e
 exact⟨r,h1,h2⟩
theorem zag{r:aV}(hr:r∈rs)(hf:qA (kX rs) r=true):r.name∈kX rs:=by
 rcases IS (rs:=rs) rs.length with h | h
 ·have:=IQ h r hr
  by_cases z:r.name∈kX rs
  ·exact z
  ·unfold jD at this
   rw[if_pos ⟨z,hf⟩] at this
   exact absurd (List.append_right_eq_self.mp this) (by simp)
 ·by_cases z:r.name∈kX rs
  ·exact z
  ·have F:=yD (rs:=rs) rs.length
   have h1:=len_sub (a:=r.name :: kX rs) (b:=namesOf rs) (Dy.mpr ⟨z,F.nd⟩) fun x hx=>by
    rcases Ay.mp hx with rfl | hx
    ·exact mS.mpr ⟨r,hr,rfl⟩
    ·obtain⟨r',h1,h2⟩:=IT F hx
     exact mS.mpr ⟨r',h1,h2⟩
   have h2:=IF rs
   rw[Ar] at h1
   have h:rs.length<=(kX rs).length:=h
   lia
theorem IU(g:cT rs){r:aV}(hr:r∈rs){L:List Str}:qA L r=true↔∀ t∈r.parts,cH rs t=true->t∈L:=by
 unfold qA
 rw[Iz]
 refine forall_congr' fun t=>forall_congr' fun ht=>?_
 rw[g.ow r hr t ht]
 cases is8 t <;> simp
theorem zah(g:cT rs){X:Str}(h:Fr rs X):X∈kX rs:=by
 induction h with
 | @mk r hr _ ih=>exact zag hr ((IU g hr).mpr ih)
theorem IV{b e:Int}:(bL row b e).length<=row.length:=by
 unfold bL
 rw[Ds,Bj]
 lia
theorem zai{t:Str}{b e:Int}:gD row t b e<=row.length + 1:=by
 have:=IV (row:=row) (b:=b) (e:=e)
 unfold gD
 split
 ·lia
 split
 ·lia
 split <;> lia
theorem IW{G:Sr}{N:a7->Int->List SI->Prop}{c e:Int}:∀ {ps:List Str},(∀ t∈ps,∃ v x,PS G N t e e v x/\v<=c)->∃ v y,PP (PS G N) ps e e v y/\v<=ps.length * c
 | [],_=>⟨0,[],.nil,by simp⟩
 | t :: ps,h=>by
  obtain⟨v,x,h1,h2⟩:=h t Bb
  obtain⟨u,y,h3,h4⟩:=IW (ps:=ps) fun z hz=>h z (Av _ hz)
  refine⟨_,_,.cons h1 h3,?_⟩
  rw[Ar,show((ps.length + 1:Nat):Int) * c=c + ps.length * c by rw[Lc,Int.add_mul];simp;lia]
  lia
theorem zaj{G:Sr}{N:a7->Int->List SI->Prop}{c b e:Int}{ps:List Str}(hne:ps≠[])(h1:∀ t∈ps,∃ v x,PS G N t b e v x/\v<=c)(h2:∀ t∈ps,∃ v x,PS G N t e e v x/\v<=c):∃ v y,PP (PS G N) ps b e v y/\v<=ps.length * c:=by
 cases ps with
 | nil=>exact absurd rfl hne
 | cons t ps=>
  obtain⟨v,x,a1,a2⟩:=h1 t Bb
  obtain⟨u,y,a3,a4⟩:=IW (ps:=ps) fun z hz=>h2 z (Av _ hz)
  refine⟨_,_,.cons a1 a3,?_⟩
  rw[Ar,show((ps.length + 1:Nat):Int) * c=c + ps.length * c by rw[Lc,Int.add_mul];simp;lia]
  lia
theorem yE(g:cT rs){r:aV}(hr:r∈rs):(bM r).parts.length<=3:=by
 unfold bM;split
 ·simp
 ·exact g.fp r hr
theorem zak(g:cT rs)(hU:∀ r∈rs,∀ t∈(bM r).parts,cH rs t=false->t∈U){L:List Str}(hL:FL rs L):∀ (k:Nat) {X:Str} {pre post:List Str},pre.length<=k->L=pre ++ X :: post->∀ {b e:Int},0<=b->b<=e->e<=row.length->∃ v,Cs (bX rs row U) (X,b,e) v/\v<=(row.length + 1) * 3 ^ (k + 1):=by
 intro k
 have hpow:∀ j:Nat,(1:Int)<=3 ^ j:=fun j=>by
  induction j with
  | zero=>decide
  | succ j ih=>rw[Int.pow_succ];lia
 have key:∀ (k:Nat) {X:Str} {pre post:List Str},L=pre ++ X :: post->(∀ t∈pre,∀ {b e:Int},0<=b->b<=e->e<=row.length->∃ v,Cs (bX rs row U) (t,b,e) v/\v<=(row.length + 1) * 3 ^ k)->∀ {b e:Int},0<=b->b<=e->e<=row.length->∃ v,Cs (bX rs row U) (X,b,e) v/\v<=(row.length + 1) * 3 ^ (k + 1):=by
  intro k X pre post e ih b en hb hbe he
  obtain⟨r,hr,rfl,hf⟩:=hL.ch pre X post e
  have hfit:=(IU g hr).mp hf
  obtain⟨c,hc⟩:∃ c:Int,c=(row.length + 1) * 3 ^ k:=⟨_,rfl⟩
  have hc1:(row.length:Int) + 1<=c:=by
   rw[hc]
   have:=Int.mul_le_mul_of_nonneg_left (hpow k) (show(0:Int)<=row.length + 1 by lia)
   lia
  have one:∀ t∈(bM r).parts,∀ {b e:Int},0<=b->b<=e->e<=row.length->∃ v x,PS (bX rs row U) (fun f v _=>Cs (bX rs row U) f v) t b e v x/\v<=c:=fun t ht b e hb hbe he=>by
   cases ho:cH rs t with
   | false=>exact⟨_,_,.inl ⟨ho,kC.mpr ⟨hU r hr t ht ho,hb,hbe,he,rfl⟩,rfl⟩,Dc zai hc1⟩
   | true=>
    rcases IJ ht with ht | rfl
    ·obtain⟨v,hv,hv2⟩:=ih t (hfit t ht ho) hb hbe he
     exact⟨v,[],.inr ⟨ho,hv⟩,by rw[hc];exact hv2⟩
    ·rw[tS g] at ho;cases ho
  obtain⟨v,y,h1,h2⟩:=zaj (zad r) (fun t ht=>one t ht hb hbe he) fun t ht=>one t ht (Dc hb hbe) (Eo en) he
  have:=tQ (G:=bX rs row U) (fun _=>rfl) (Ba.mpr ⟨r,hr,rfl⟩) (gU.mpr ⟨hb,Dc hbe he⟩) h1
  rw[mZ] at this
  refine⟨v,this,?_⟩
  have l3:=yE g hr
  have:((bM r).parts.length:Int) * c<=3 * c:=Int.mul_le_mul_of_nonneg_right (by lia) (by lia)
  rw[Int.pow_succ,<-Int.mul_assoc,<-hc]
  lia
 induction k with
 | zero=>
  intro X pre post hk e
  refine key 0 e fun t ht=>?_
  rw[Gp.mp (Nat.le_zero.mp hk)] at ht;cases ht
 | succ k ih=>
  intro X pre post hk e
  refine key (k + 1) e fun t ht=>?_
  obtain⟨a,d,e2⟩:=Gv ht
  refine ih (pre:=a) (post:=d ++ X :: post) ?_ (by rw[e,e2];simp)
  have:=congrArg Cz e2
  simp at this
  lia
theorem IX(g:cT rs)(w:hZ row)(hU:∀ r∈rs,∀ t∈(bM r).parts,cH rs t=false->t∈U)(h:dC (bX rs row U) B){X:Str}(hX:X∈kX rs):∃ x,aH B (X,0,(row.length:Int))=some x/\x.1.1<=90000:=by
 have F:=yD (rs:=rs) rs.length
 obtain⟨a,b,e⟩:=Gv hX
 have hl:=len_sub (b:=eJ) F.nd fun x hx=>by
  obtain⟨r,h1,h2⟩:=IT F hx
  rw[<-h2];exact g.nm r h1
 have h8:eJ.length=8:=rfl
 have e':gO rs rs.length=a ++ X :: b:=e
 rw[e',Af,Ar,h8] at hl
 obtain⟨v,hv,hv2⟩:=zak (row:=row) g hU F 7 (pre:=a) (post:=b) (by lia) e' (Eo 0) (Int.natCast_nonneg _) (Eo _)
 obtain⟨x,hx,hx2⟩:=xU h hv
 refine⟨x,hx,?_⟩
 have h3:(3:Int) ^ (7 + 1)=6561:=by decide
 rw[h3] at hv2
 have:=w.few
 lia
theorem zal(g:cT rs)(w:hZ row)(hU:∀ r∈rs,∀ t∈(bM r).parts,cH rs t=false->t∈U)(h:dC (bX rs row U) B){X:Str}:X∈kX rs↔∃ x,aH B (X,0,(row.length:Int))=some x:=
 ⟨fun hX=>let ⟨x,h1,_⟩:=IX g w hU h hX;⟨x,h1⟩,fun⟨x,hx⟩=>zah g (IL h hx)⟩
end
end M47
namespace Rg
open PySem PySem.Spec PyProof.Rows L2 L3
def yF:bH:=fun ws M R=>∃ rs:List aV,ws=[cJ rs]/\rs.length<=100/\aZ (rs.map fun _=>W.int 0) M R
abbrev zam:List Str:=["grammar"]
def zan:aI:=
   (bS (fW (dG eO (aA 0)) (bW 0) i5 (vC (.int 0)) [none]))
theorem zao{ws:List W}{M:Mm}{R:K3}(h:yF ws M R):zan (bI R) (bP zam ws) M:=by
 obtain⟨rs,rfl,hl,r⟩:=h
 refine⟨_,rfl,fP (nT (rest:=[]) (fun _=>.int 0) (eP (by rw[Aa];lia)) (fun _ _=>trivial) (fun w hw M' C sb h1=>h1) ?_)⟩
 ·intro p hp
  refine⟨_,Sub.refl _,?_⟩
  have e:(rs.map eS).map (fun _=>W.int 0)=rs.map fun _=>W.int 0:=by rw[Bv];rfl
  rw[e]
  exact r p hp
abbrev eL(row:List Str):W:=.rl (row.map W.str)
def iI(fs:List a7):List (List aG×W):=fs.map fun f=>(fK f,.bl true)
def jE(row:List Str):List (List aG×W):=(row.zipIdx).map fun x=>([Sum.inr x.1,Sum.inl (x.2:Int)],.rl [.tup [.int ((x.2:Int) + 1),.int 0]])
def qB:bH:=fun ws M R=>∃ row:List Str,ws=[eL row]/\row.length<=60/\aZ ((Cw (row.length + 1)).map fun(i:Nat)=>W.int i) M R
def IY:bH:=fun ws M R=>∃ row:List Str,ws=[eL row]/\row.length<=60/\iN (jE row) M R
abbrev zap:List Str:=["row"]
def zaq:aI:=
   (bS (HY (aE dH (bY dA (aB (aA 0) aD)) (vC (.int 1)))))
abbrev zar:List Str:=["row"]
def zas:aI:=
   (bS (bY HX (aB (cM (fW (F5 (aB (aA 0) aD)) (kP 2 (gC (bW 0) (gC (bW 1) kO))) i5 (bK (aB (bK (aB (aA 1) (aB (aA 0) aD))) (aB (fX (aB (bK (aB (aE dH (aA 0) (vC (.int 1))) (aB (vC (.int 0)) aD))) aD)) aD))) [none,none])) aD)))
theorem z0:0<=Ak:=Cd _
theorem z8:8<=Ak:=eP (by decide)
theorem tT{ws:List W}{M:Mm}{R:K3}(r:aZ ws M R):aZ ws M fun w M'=>∃ M'',L3.Sub M'' M'/\R w M'':=fun p hp=>⟨_,Sub.refl _,r p hp⟩
theorem yG{ws:List (List aG×W)}{M:Mm}{R:K3}(r:iN ws M R):iN ws M fun w M'=>∃ M'',L3.Sub M'' M'/\R w M'':=fun p hp=>⟨_,Sub.refl _,r p hp⟩
theorem zat{ws:List W}{M:Mm}{R:K3}(h:qB ws M R):zaq (bI R) (bP zap ws) M:=by
 obtain⟨row,rfl,hl,r⟩:=h
 exact⟨_,rfl,row.length + 1,by rw[Aa];rfl,by lia,tT r⟩
theorem enum_zip(ws:List Str):∀ n:Nat,hJ n (ws.map W.str)=(ws.zipIdx n).map fun x=>W.tup [.int (x.2:Int),.str x.1]:=by
 induction ws with
 | nil=>intro n;rfl
 | cons w ws ih=>intro n;rw[Bc,hJ,ih,Kq,Bc]
theorem IZ:∀ {ps acc:List (List aG×W)},((acc ++ ps).map (·.1)).Nodup->nY acc ps=acc ++ ps
 | [],acc,_=>by simp[nY]
 | p :: ps,acc,h=>by
  have hn:bA acc p.1=none:=by
   rw[Bf,Ew] at h
   exact sW fun e he z=>h.2.2 _ (Ba.mpr ⟨e,he,rfl⟩) p.1 (by simp) z
  have e:cE acc p.1 p.2=acc ++ [p]:=by
   unfold cE
   rw[if_neg (by rw[show(acc.any fun kv=>decide (kv.1=p.1))=(bA acc p.1).isSome from kR acc p.1,hn];decide)]
  show nY (cE acc p.1 p.2) ps=_
  rw[e,IZ (by rw[Dl];exact h),Dl];rfl
theorem zau(row:List Str):((jE row).map (·.1)).Nodup:=by
 unfold jE
 rw[Bv]
 have:∀ (row:List Str) (n:Nat),((row.zipIdx n).map ((fun x:List aG×W=>x.1) ∘ fun x:Str×Nat=>(([Sum.inr x.1,Sum.inl (x.2:Int)]:List aG),W.rl [.tup [.int ((x.2:Int) + 1),.int 0]]))).Nodup:=by
  intro row
  induction row with
  | nil=>intro n;exact Gm
  | cons t row ih=>
   intro n
   rw[Kq,Bc,Dy]
   refine⟨fun hm=>?_,ih _⟩
   obtain⟨x,hx,e⟩:=Ba.mp hm
   have h1:=List.mem_zipIdx hx
   simp only[Jv,Dn,Sum.inr.injEq,Jw,and_true] at e
   lia
 exact this row 0
theorem zav(row:List Str)(t:Str)(p:Int):bA (jE row) (eK (t,p))=if 0<=p/\row[p.toNat]? = some t then some (.rl [.tup [.int (p + 1),.int 0]]) else none:=by
 have:∀ (row:List Str) (n:Nat),bA ((row.zipIdx n).map fun x:Str×Nat=>(([Sum.inr x.1,Sum.inl (x.2:Int)]:List aG),W.rl [.tup [.int ((x.2:Int) + 1),.int 0]])) (eK (t,p))=if (n:Int)<=p/\row[(p - n).toNat]? = some t then some (.rl [.tup [.int (p + 1),.int 0]]) else none:=by
  intro row
  induction row with
  | nil=>intro n;simp[bA]
  | cons x row ih=>
   intro n
   rw[Kq,Bc,mV,ih]
   by_cases hp:p=n
   ·subst hp
    by_cases hx:x=t
    ·subst hx
     rw[if_pos (show([Sum.inr x,Sum.inl (n:Int)]:List aG)=eK (x,(n:Int)) from rfl),if_pos ⟨Eo _,by simp⟩]
    ·rw[if_neg (fun z=>hx (by simpa [eK] using z)),if_neg (fun z=>by have:=z.1;lia),if_neg (fun z=>hx (by simpa using z.2))]
   ·rw[if_neg (fun z=>hp (show x=t/\(n:Int)=p by simpa [eK] using z).2.symm)]
    by_cases hn:(n:Int) < p
    ·have e:(p - (n:Int)).toNat=(p - ((n + 1:Nat):Int)).toNat + 1:=by lia
     rw[e,Fl]
     by_cases hr:row[(p - ((n + 1:Nat):Int)).toNat]? = some t
     ·rw[if_pos ⟨by lia,hr⟩,if_pos ⟨by lia,hr⟩]
     ·rw[if_neg (fun z=>hr z.2),if_neg (fun z=>hr z.2)]
    ·rw[if_neg (fun z=>by have:=z.1;lia),if_neg (fun z=>by have:=z.1;lia)]
 have h:=this row 0
 simpa [jE] using h
theorem zaw{ws:List W}{M:Mm}{R:K3}(h:IY ws M R):zas (bI R) (bP zar ws) M:=by
 obtain⟨row,rfl,hl,r⟩:=h
 refine⟨_,rfl,?_⟩
 delta aD
 refine UX (ws:=hJ 0 (row.map W.str)) (rest:=[]) (fun w y=>∃ x:Str×Nat,w=W.tup [.int (x.2:Int),.str x.1]/\y=.tup [.tup (([Sum.inr x.1,Sum.inl (x.2:Int)]:List aG).map wK),.rl [.tup [.int ((x.2:Int) + 1),.int 0]]]) (fun w hw=>?_) (eP (by rw[lU,Aa];lia)) (fun _ _=>trivial) (fun a b hm M' C sb h1=>?_) fun ys po=>?_
 ·rw[enum_zip] at hw;obtain⟨x,_,rfl⟩:=Ba.mp hw;exact⟨_,_,rfl⟩
 ·rw[enum_zip] at hm
  obtain⟨x,_,e⟩:=Ba.mp hm
  simp only[W.tup.injEq,Dn,and_true] at e
  obtain⟨rfl,rfl⟩:=e
  exact⟨_,rfl,_,rfl,z2,_,rfl,z2,z1,z2,h1 _ ⟨x,rfl,rfl⟩⟩
 ·have hy:ys=n9 (jE row):=by
   rw[enum_zip] at po
   unfold n9 jE
   rw[Bv]
   revert po
   generalize row.zipIdx=l
   intro po
   induction l generalizing ys with
   | nil=>cases po;rfl
   | cons x l ih=>
    cases po with
    | cons h t=>
     obtain⟨x',e1,rfl⟩:=h
     simp only[W.tup.injEq,Dn,W.int.injEq,W.str.injEq,and_true] at e1
     have:x=x':=Prod.ext e1.2 (by lia)
     subst this
     rw[ih _ t];rfl
  subst hy
  refine aZ.frz ⟨jE row,rfl,eP (by unfold n9 jE;rw[Aa,Aa,List.length_zipIdx];lia),?_⟩
  rw[IZ (by simpa using zau row),Eh]
  exact yG r
theorem zax(ts:List Str)(n:Str):(bA (ts.map fF) (Sum.inr n:aG)).isSome=decide (n∈ts):=by
 induction ts with
 | nil=>rfl
 | cons t ts ih=>
  unfold bA at ih ⊢
  rw[Bc,Fc]
  by_cases h:t=n
  ·subst h;simp[fF]
  ·rw[show decide ((fF t).1=(Sum.inr n:aG))=false by simp[fF,h]]
   rw[ih]
   have h2:¬ n=t:=fun e=>h e.symm
   simp[h2]
theorem qC(rs:List aV)(t:Str):(bA (ownOf rs) (Sum.inr t:aG)).isSome=cH rs t:=by
 unfold ownOf cH
 rw[zax,Dr]
 simp only[decide_eq_true_eq]
 rw[wO];simp
theorem JA{f:Int->W}{ss:List Int}{i:Nat}{s:Int}(h:ss[i]? = some s):cC (ss.map f) (i:Int)=some (f s):=iL (by rw[Au,h];rfl)
theorem oH{ts:List Str}{k:Int}(h0:0<=k)(h1:k < ts.length):∃ t,cC (ts.map W.str) k=some (.str t)/\t∈ts:=by
 obtain⟨x,e,e2,_⟩:=U0 (xs:=ts.map W.str) h0 (by rw[Aa];exact h1)
 rw[Au] at e2
 obtain⟨t,ht,rfl⟩:=Bk.mp e2
 exact⟨t,e,Bn ht⟩
theorem yH(fs:List a7)(f:a7):(bA (iI fs) (fK f)).isSome=decide (f∈fs):=by
 unfold iI
 induction fs with
 | nil=>rfl
 | cons g fs ih=>
  rw[Bc,mV]
  by_cases h:g=f
  ·subst h;rw[if_pos rfl];simp
  ·rw[if_neg (fun z=>h (jO _ _ z)),ih]
   have:¬ f=g:=fun z=>h z.symm
   simp[this]
theorem zay{fs:List a7}{f:a7}(h:f∉fs):cE (iI fs) (fK f) (.bl true)=iI (fs ++ [f]):=by
 unfold cE
 rw[if_neg (by rw[show((iI fs).any fun kv=>decide (kv.1=fK f))=(bA (iI fs) (fK f)).isSome from kR _ _,yH,decide_eq_true_eq];exact h)]
 unfold iI
 rw[Bf];rfl
theorem zaz{P:W->W->Prop}{Q:Str->Prop}{xs ys:List W}(h:Fn P xs ys)(k:∀ x y,P x y->∃ t,y=.str t/\Q t):∃ ts:List Str,ys=ts.map W.str/\ts.length=xs.length/\∀ t∈ts,Q t:=by
 induction h with
 | nil=>exact⟨[],rfl,rfl,fun _ z=>nomatch z⟩
 | cons a _ ih=>
  obtain⟨ts,rfl,l,m⟩:=ih
  obtain⟨t,rfl,q⟩:=k _ _ a
  exact⟨t :: ts,rfl,by rw[Ar,Ar,l],fun t' h'=>(Ay.mp h').elim (fun e=>e ▸ q) (m t')⟩
theorem _root_.Nat.min_sub_min(i j n:Nat):min j n - min i n<=j - i:=by
 rcases Nat.le_total i n with h | h
 ·rw[Fo h];exact Nat.sub_le_sub_right (Gh _ _) _
 ·rw[Nat.min_eq_right h,Nat.sub_eq_zero_of_le (Nat.min_le_right _ _)];exact Cd _
theorem JB{α:Type}{f:α->W}(xs:List α)(i:Option Nat)(j:Nat):∃ ys:List α,eF (xs.map f) (i.map fun(k:Nat)=>(k:Int)) (some (j:Int))=ys.map f/\ys.length<=j - i.getD 0/\∀ y∈ys,y∈xs:=by
 refine⟨(xs.drop (HT.sIx xs.length 0 (i.map fun(k:Nat)=>(k:Int)))).take (HT.sIx xs.length xs.length (some (j:Int)) - HT.sIx xs.length 0 (i.map fun(k:Nat)=>(k:Int))),?_,?_,fun y hy=>List.mem_of_mem_drop (Lh hy)⟩
 ·unfold eF;rw[Aa,Kj,Jd]
 ·rw[Bj,Ds,HT.sIx_nat]
  cases i with
  | none=>show min (min j xs.length - HT.sIx xs.length 0 none) _<=j - 0;rw[HT.sIx_none];exact Ao (Gh _ _) (Gh _ _)
  | some i=>show min (min j xs.length - HT.sIx xs.length 0 (some (i:Int))) (xs.length - HT.sIx xs.length 0 (some (i:Int)))<=j - i;rw[HT.sIx_nat];exact Ao (Gh _ _) (Nat.min_sub_min i j xs.length)
end Rg
namespace L3
open PySem PySem.Spec PyProof.Rows L2
section
variable {X:Cx}{pos:Pos}{a b:Expr}{ta tb te:aY}
theorem d5{i:Nat}{x:Str}(hN:X.N.Nodup)(hi:X.N[i]? = some x:=by rfl)(hx:Loc X.env.scope x:=by first | exact Or.inl rfl | exact Or.inr rfl)(hf:X.fn x=true\/X.env.scope.names.lookup x=some .local:=by first | exact .inl rfl | exact .inr rfl | assumption):PG X (.Name x pos) (g8 X.K (bW i)):=FG hN hi hx hf
theorem gP{i:Nat}{x:Str}(hi:X.N[i]? = some x:=by rfl)(hx:Loc X.env.scope x:=by first | exact Or.inl rfl | exact Or.inr rfl)(hN:X.N.Nodup:=by exact of_decide_eq_true (by kernel_rfl))(hf:X.fn x=true\/X.env.scope.names.lookup x=some .local:=by first | exact .inl rfl | exact .inr rfl | assumption):PG X (.Name x pos) (g8 X.K (bW i)):=FG hN hi hx hf
theorem bF{i:Nat}{x:Str}{e:Expr}{pos':Pos}(hN:X.N.Nodup)(he:E3 X e te)(hi:X.N[i]? = some x:=by rfl)(hx:Loc X.env.scope x:=by first | exact Or.inl rfl | exact Or.inr rfl)(hs:Ir e (some (.Name x pos')) pos.line X.env=pure false:=by rfl)(hf:X.fn x=true\/X.env.scope.names.lookup x=some .local:=by first | exact .inl rfl | exact .inr rfl | assumption) :
  P3 X (.Assign [.Name x pos'] e pos) (bB i te):=UA hN hi hx he hs hf
theorem tU{op:CmpOp}{r:R3}(ho:bD X (Ci op) (cX X.K r))(ha:E3 X a ta)(hb:E3 X b tb)(hm:Hj op b=false:=by first | exact C0 _ | with_unfolding_all rfl):E3 X (.Compare a [op] [b] pos) (aE r ta tb):=SX ho ha hb hm
theorem b8{op:CmpOp}{r:R3}(ho:bD X (Ci op) (cX X.K r))(ha:E3 X a ta)(hb:E3 X b tb)(hm:Hj op b=false:=by first | exact C0 _ | with_unfolding_all rfl):T3 X (.Compare a [op] [b] pos) (bU (aE r ta tb)):=SY ho ha hb hm
variable {tg iter elt:Expr}{ifs:List Expr}{sc:Hc}{wi:iQ}{g:e6}{tt:dQ}
theorem JC{i:Nat}{x:Str}{px spos:Pos}(hN:X.N.Nodup)(N':List Str)(js:List (Option Nat))(hi:PI X tg iter (iG X.K wi))
  (hg:∀ B,PG (dY X sc N' B) tg (g8 X.K g)) (ht:∀ B,iM (dY X sc N' B) ifs (jV X.K tt)) (he:∀ B,PE (dY X sc N' B) elt (up X.K te)) (hi0:X.N[i]? = some x:=by rfl) (hx:Loc X.env.scope x:=by first | exact Or.inl rfl | exact Or.inr rfl)
  (S0:mH N' sc X.env.scope=true:=by kernel_rfl) (hj:fQ N' X.N sc js N'=true:=by kernel_rfl) (hc:X.calm=true:=by rfl) (hsw:Ir (.ListComp elt [⟨tg,iter,ifs,0⟩] sc pos) (some (.Name x px)) spos.line X.env=pure true:=by rfl)
  (hf:X.fn x=true\/X.env.scope.names.lookup x=some .local:=by first | exact .inl rfl | exact .inr rfl | assumption)
  (hs:∀ x,Gk iter X.env x=pure x:=by intro _;rfl):P3 X (.Assign [.Name x px] (.ListComp elt [⟨tg,iter,ifs,0⟩] sc pos) spos) (bB i (cM (fW wi g tt te js))):=UQ hN hi0 hx N' js hi hg ht he S0 hj hc hsw hf hs
end
theorem b9{N ps:List Str}{sc:Hc}(a:sc.kind=.function:=by rfl)(b:sc.isCoroutine=false:=by rfl)(c:sc.isGenerator=false:=by rfl)(d:N.Nodup:=by decide +kernel)(e:N.take ps.length=ps:=by rfl)(f:∀ x∈ps,sc.names.lookup x=some .local\/sc.names.lookup x=some .cell:=by decide +kernel)(g:∀ y∈sc.names,y.2≠.free:=by decide +kernel):mD N ps sc:=⟨a,b,c,d,e,f,g⟩
theorem JD{C:List Ae->Prop}(h:C [])(us:List Ae)(e:us.length=0):C us:=by rw[Gp.mp e];exact h
theorem qD{C:List Ae->Prop}{n:Nat}(k:∀ a us,us.length=n->C (a :: us)):∀ us:List Ae,us.length=n + 1->C us
 | a :: l,e=>k a l (Nat.succ.inj e)
theorem tV{C:List Ae->Prop}(h:∀ a,C [a]):∀ us:List Ae,us.length=1->C us:=qD fun a=>JD (h a)
theorem tW{C:List Ae->Prop}(h:∀ a b,C [a,b]):∀ us:List Ae,us.length=2->C us:=qD fun a=>tV (h a)
theorem tX{C:List Ae->Prop}(h:∀ a b c,C [a,b,c]):∀ us:List Ae,us.length=3->C us:=qD fun a=>tW (h a)
theorem tY{C:List Ae->Prop}(h:∀ a b c d,C [a,b,c,d]):∀ us:List Ae,us.length=4->C us:=qD fun a=>tX (h a)
theorem yI{C:List Ae->Prop}(h:∀ a b c d e,C [a,b,c,d,e]):∀ us:List Ae,us.length=5->C us:=qD fun a=>tY (h a)
def yJ(x q:Str)(st:Stmt)(ps:List Str):Prop:=∀ (kV doc pm:Ae) (an:Option Addr) (cdv ct:Ae) (us:List Ae),us.length=ps.length->bindArgs (Ec x q (iU st) (gQ st) (d6 st) .none kV doc pm an cdv ct) ⟨us,[]⟩=pure (ps.zip us)
section
variable {K:Ab}{mg:Str->Option Ae}{h:Heap}{x q:Str}{st:Stmt}{C f:Addr}{ps:List Str}{an:Option Addr}{kV doc pm cdv ct:Ae}
theorem dF(X:K.In h)(G:h.Ns De mg)(hb:yJ x x st ps:=by first | exact fun _ _ _ _ _ _=>tV fun _=>rfl | exact fun _ _ _ _ _ _=>tW fun _ _=>rfl | exact fun _ _ _ _ _ _=>tX fun _ _ _=>rfl | exact fun _ _ _ _ _ _=>tY fun _ _ _ _=>rfl | exact fun _ _ _ _ _ _=>yI fun _ _ _ _ _=>rfl | exact fun _ _ _ _ _ _=>ar6 fun _ _ _ _ _ _=>rfl | exact fun _ _ _ _ _ _=>ar7 fun _ _ _ _ _ _ _=>rfl | exact fun _ _ _ _ _ _=>JD rfl)(n:PySem.W.nsIn K De x=some (some (.ref f)):=by kernel_rfl)(l:K.lookup f=some ⟨.type "function",none,.func (Ec x x (iU st) (gQ st) (d6 st) .none kV doc pm an cdv ct),#[]⟩:=by kernel_rfl)(c:Ih K cdv x=true:=by kernel_rfl)(k:Eb K (.ref f)=true:=by kernel_rfl):Df K mg x st ps f (Ec x x (iU st) (gQ st) (d6 st) .none kV doc pm an cdv ct):=⟨nF l c k,Iu X G n,(nF l c k).binds hb⟩
theorem dM(hb:yJ x q st ps:=by first | exact fun _ _ _ _ _ _=>tV fun _=>rfl | exact fun _ _ _ _ _ _=>tW fun _ _=>rfl | exact fun _ _ _ _ _ _=>tX fun _ _ _=>rfl | exact fun _ _ _ _ _ _=>tY fun _ _ _ _=>rfl | exact fun _ _ _ _ _ _=>yI fun _ _ _ _ _=>rfl)(a:Cf K (.ref C) x=some (some (.ref f)):=by kernel_rfl)(n:Kn K (.ref f)=true:=by kernel_rfl)(l:K.lookup f=some ⟨.type "function",none,.func (Ec x q (iU st) (gQ st) (d6 st) .none kV doc pm an cdv ct),#[]⟩:=by kernel_rfl)(c:Ih K cdv q=true:=by kernel_rfl)(k:Eb K (.ref f)=true:=by kernel_rfl):Dm K C x q st ps f (Ec x q (iU st) (gQ st) (d6 st) .none kV doc pm an cdv ct):=⟨nF l c k,⟨a,n,k⟩,(nF l c k).binds hb⟩
theorem dI(hb:yJ x q st ps:=by first | exact fun _ _ _ _ _ _=>tV fun _=>rfl | exact fun _ _ _ _ _ _=>tW fun _ _=>rfl | exact fun _ _ _ _ _ _=>tX fun _ _ _=>rfl | exact fun _ _ _ _ _ _=>tY fun _ _ _ _=>rfl | exact fun _ _ _ _ _ _=>yI fun _ _ _ _ _=>rfl)(m:PySem.W.makesIn K C=true:=by kernel_rfl)(a:Cf K (.ref C) "__init__" = some (some (.ref f)):=by kernel_rfl)(n:Kn K (.ref f)=true:=by kernel_rfl)(d:Eb K (.ref C)=true:=by kernel_rfl)(l:K.lookup f=some ⟨.type "function",none,.func (Ec x q (iU st) (gQ st) (d6 st) .none kV doc pm an cdv ct),#[]⟩:=by kernel_rfl)(c:Ih K cdv q=true:=by kernel_rfl)(k:Eb K (.ref f)=true:=by kernel_rfl):Di K C x q st ps f (Ec x q (iU st) (gQ st) (d6 st) .none kV doc pm an cdv ct):=⟨nF l c k,⟨m,a,n,d⟩,(nF l c k).binds hb⟩
variable {P:Bu}{w:Cm}{base:Heap}{fd:Bi}{N:List Str}{k:Nat}{sp:bH}{rd:aI}
theorem cB(P:Bu)(w:Cm)(mg:Str->Option Ae)(base:Heap)(k:Nat)(F:jH K x q st f fd)(_:Binds K fd ps [])(S:mD N ps (d6 st))(good:∀ {ws M R},sp ws M R->rd (bI R) (bP N ws) M)
  (tm:∀ {cdv:Ae} {A:Co} {outer:List Env} {s:Ag} {H:Hp} {E:XK},cF k (A.deeper (Ja q (d6 st) s.heap.objs.size f cdv))->(A.deeper (Ja q (d6 st) s.heap.objs.size f cdv)).units + 1 < Ff->N.Nodup->jK (kG e9 P w K mg base N q (d6 st) f cdv A outer s H E).nox (gQ st) rd) (len:∀ ws M R,sp ws M R->ws.length=ps.length:=by intro _ _ _ h;repeat (first | (obtain⟨rfl,_⟩:=h;exact rfl) | obtain⟨_,h⟩:=h)):eV P w K mg base e9 (k + 1) f fd ps (fV K sp):=
 UN F S len fun _ _ _ _ _ _ _ _ _ hr h=>⟨rd,tm hr (DZ hr) S.nd,good h⟩
end
section
variable {X:Cx}{pos p:Pos}{x:Str}{st:Stmt}{e:Expr}{es:List Expr}{t:dE}{k j:Nat}{f:Addr}{fd:Bi}{ps:List Str}{sp:bH}
theorem bO(F:eV X.prog X.w X.K X.mg X.base e9 k f fd ps (fV X.K sp))(D:Df X.K X.mg x st ps f fd)(hr:cF j X.A)(ha:A3 X (e :: es) t)(hj:k<=j:=by decide)(hg:Gl X x:=by rfl)(hdb:(x == ("__debug__" : Str))=false:=by decide)(he:Bg (e :: es) X.env=(false,eval e X.env) :: Bg es X.env:=by rfl)(hpl:(Gf pos (Bg es X.env)).any (·.1)=false:=by rfl) :
  E3 X (.Call (.Name x p) (e :: es) [] pos) (bJ sp t):=S6 F (hr.mono hj) hg D.at_ D.fn.kp D.bi ha hdb he hpl
end
end L3
namespace L2
open PySem PySem.Spec PyProof.Rows
section
variable {X:Cx}
def zaA(tk tv:TE):TE:=fun σ H Q=>∀ p,H p=none->uZ [(tk,tv)] σ (aR H p (.dT [])) fun ps H2=>∃ (b:Addr) (y:V) (k:List aG),ps=[(.ref b,y)]/\H2 p=some (.dT [])/\H2 b=some (.tup (k.map kV))/\Q (.ref p) (aR H2 p (.dT [(k,y)]))
theorem zaB{k v:Expr}{tk tv:TE}{pos:Pos}(hu:X.A.units + 1 < Ff)(hk:PE X k tk)(hv:PE X v tv):PE X (.Dict [some k] [v] pos) (zaA tk tv):=by
 intro pins s σ H Q I q
 have hn:=I.hok.fresh (Ai s.heap.objs.size)
 have I1:=I.laid (a:=s.heap.objs.size) (o:=.dT []) (h':=s.heap.push {cls:=.type "dict",data:=.dict #[]}) (t':=s.toks) (fun _ _ q=>Aj _ q) (Ai _) (DV s.heap I.big)
 refine wpAny_Dict_any rfl rfl (fun h=>nomatch h) (by decide:1<=15) (a8 (RI hk hv RH pins _ σ _ _ I1 (q _ hn)) fun ws s2 ⟨ps,H2,I2,rel,b,y,k,ep,e,eb,q2⟩=>?_)
 subst ep
 cases rel with
 | @cons a1 b1 _ _ r1 r2=>
  cases r2
  obtain⟨u1,u2⟩:=b1
  obtain⟨ru,rv⟩:=r1
  cases (show u1=Value.ref b from ru)
  obtain⟨z,hd,xs,rel,dd⟩:=rE I2.hok e
  cases rel
  unfold storeAll
  rw[List.forIn_cons]
  refine Ac (Ac (wpAny_dictSet_heap (hsz:=Cd _) (Nat.lt_of_succ_lt hu) (jG I2.hok eb) dd fun h' dd' hs=>Am ?_))
  show Bh _ _ (pure PUnit.unit) _ _ _
  refine Am ⟨.ref _,_,?_,rfl,q2⟩
  obtain⟨q,es,ep,hq,h2,h3,h4,_,h5⟩:=dd'
  refine oY I2 (by rw[e];exact True.intro) hs ⟨q,hq⟩ ⟨show 1<=Ak by decide,hd,_,((show KT H2 [] [] from .nil).put k eb rv).keeps fun c ys ec=>?_,q,es,ep,hq,h2,h3,h4,h5⟩
  rw[bG (qO ec e (fun z=>nomatch z))]
  exact ec
end
end L2
namespace L3
open PySem PySem.Spec PyProof.Rows L2
section
variable {X:Cx}{a b:Expr}{ta tb:aY}{pos p:Pos}
def JE(ta tb:aY):aY:=fun τ M R=>∀ p,M p=none->ta τ (put M p (.dT [])) fun x M1=>tb τ M1 fun y M2=>M2 p=some (.dT [])/\∃ k:List aG,x=.tup (k.map wK)/\R (.ref p) (put M2 p (.dT [(k,y)]))
theorem zaC(hu:X.A.units + 1 < Ff)(ha:E3 X a ta)(hb:E3 X b tb):E3 X (.Dict [some a] [b] pos) (JE ta tb):=
 (zaB hu ha hb).weak fun σ H Q z0=>z0.el fun τ M R as am h k=>fun p hp=>by
  obtain⟨am0,k0⟩:=am.laid (o:=.dT []) (u:=.dT []) hp ⟨[],cZ,.nil⟩
  refine⟨τ,_,_,as.kp am k0,am0,h p (am.nonM hp),fun x H1 wx M1 k1 am1 ax h1=>⟨τ,M1,_,(as.kp am k0).kp am0 k1,am1,h1,fun y H2 wy M2 k2 am2 ay ⟨e,kk,ex,r⟩=>?_⟩⟩
  subst ex
  obtain⟨ks,f,q⟩:=am2 _ _ e
  cases q
  have ax2:=ax.kp am1 k2
  exact ax2.tupE fun c xs ec fc qc=>by
   obtain⟨am3,k3⟩:=am2.write (o:=.dT [(kk,wy)]) (u:=.dT [(kk,y)]) e ⟨_,cZ,.cons ⟨rfl,ay.wr am2 e⟩ .nil⟩
   exact⟨c,y,kk,by rw[ec],f,by rw[<-qc.keys];exact fc,k _ _ _ _ (((k0.trans k1).trans k2).trans k3) am3 (.ref _) r⟩
variable {x:Str}{e:Expr}{es:List Expr}{t:dE}{k j i:Nat}{f:Addr}{fd:Bi}{ps:List Str}{sp:bH}
def tZ(i:Nat)(f:Addr)(sp:bH)(t:dE):aY:=fun τ M R=>τ[i]? = some (some (.ref f))/\bJ sp t τ M R
theorem yK{g:Addr}(ef:g=f)(F:eV X.prog X.w X.K X.mg X.base e9 k f fd ps (fV X.K sp))(hr:cF j X.A)(hk:Eb X.K (.ref f)=true)(hb:Binds X.K fd ps [])(ha:A3 X (e :: es) t)(hj:k<=j:=by decide)(hN:X.N[i]? = some x:=by rfl)(hv:oP X.env.scope x:=by first | exact Or.inl rfl | exact Or.inr (Or.inl rfl) | exact Or.inr (Or.inr rfl))(hd:(x == ("__debug__" : Str))=false:=by decide)
  (hcd:(x == ("__classdict__" : Str))=false:=by decide) (he:Bg (e :: es) X.env=(false,eval e X.env) :: Bg es X.env:=by rfl) (hpl:(Gf pos (Bg es X.env)).any (·.1)=false:=by rfl) :
  E3 X (.Call (.Name x p) (e :: es) [] pos) (tZ i g sp t):=by
 subst ef
 intro pins s σ H Q I ⟨τ,M,R,as,am,⟨h1,h⟩,k'⟩
 have gc:=EN (K:=X.K) ⟨τ,M,R,as,am,h,k'⟩
 obtain⟨v,e1,av⟩:=as.get h1
 refine Dg (a8 (uL (pos:=p) hN hv hd hcd pins s σ H (fun w H'=>w=.ref g/\H'=H) I ⟨v,e1,av.inv,rfl⟩) fun u s1 ⟨w,H1,I1,r1,ew,eH⟩=>?_)
 subst ew eH
 cases r1
 exact Hy (h₀:=X.base) I1.ok.mod.kin hk (a8 (ha pos pins s1 σ H1 _ I1 gc) fun us s2 ⟨vs,H2,I2,r,q⟩=>⟨I2.kIn,qY F (hr.mono hj) hb .nil lI I2 r q⟩) he hpl
theorem yL{g f:Addr}{fd:Bi}{ps:List Str}{x:Str}{pos:Pos}{st:Stmt}(ef:g=f)(D:Df X.K X.mg x st ps f fd)(hg:Gl X x:=by rfl)(hd:(x == ("__debug__" : Str))=false:=by decide):E3 X (.Name x pos) (vC (.ref g)):=by
 subst ef
 exact rJ (y:=.ref g) hg D.at_ rfl (fun _ _=>.ref _) hd
end
end L3
namespace PySem
namespace Et
open PyProof.Rows L2 PySem.Spec
section
variable {prog:Bu}{w:Cm}{A:Co}{E:Ae->Ag->Prop}{s:Ag}
theorem draws(hh:A.handled=none)(it l:Addr)(hne:l≠it)(items:Array Ae):Draws prog w A it [it,l] items.size (fun i v=>items[i]? = some v) (fun i h=>h.IsTupleIter it l i/\h.IsTuple l items) where
 live:=fun _ _ st=>let ⟨o,ho,_⟩:=st.1;⟨o,ho⟩
 frame:=fun k h h' st hk=>(Zt.side_tuple (prog:=prog) (w:=w) it l hne items).keep k h h' st fun c hc o e=>hk c (by rcases hc with rfl | rfl <;> simp) o e
 item:=fun i s Q E hi st hQ=>(Zt.side_tuple it l hne items).item A E s i items[i] Q st (by simp[hi]) fun h' a b=>hQ _ h' s.toks (by simp[hi]) a b
 done:=fun s Q E st hE=>(Zt.side_tuple it l hne items).stop A E s _ Q hh st (by simp) hE
theorem zaD(l:Addr)(items:Array Ae)(n:Nat)(dct:Option Addr)(sl:Array (Option Ae)) :
  Meets (Mg.«enumerate.__new__» ⟨[.type "enumerate",.ref l],[]⟩) (fun _ R s=>s.heap.get? l=some {cls:=.type "tuple",dict:=dct,data:=.seq items n,slots:=sl}/\
   R (.ok (.ret (.ref (s.heap.push {cls:=.type "tuple_iterator",data:=.fields #[.ref l,.int 0 0]}).objs.size)))
    {s with heap:=(s.heap.push {cls:=.type "tuple_iterator",data:=.fields #[.ref l,.int 0 0]}).push {cls:=.type "enumerate",data:=.fields #[.none,.bool false,.ref s.heap.objs.size,Km 0,.none,.none]}}):=
 .of_wp fun prog w A R s h=>by
  obtain⟨hp,g,d,tk,os⟩:=s;obtain⟨hl,h⟩:=h
  have hsub:=sub_enumerate
  have hL:Heap.IsTuple (Shared.heap ⟨hp,g,d,tk,os⟩) l items:=⟨_,hl,rfl,n,rfl⟩
  wp_walk using Hs hl
  refine wpAny_stack_any fun st=>Am ?_
  split
  ·rename_i c _ _ _ _ _
   cases (c == Value.type "enumerate")
   ·wp_walk using Hs hl,Kl hL
    exact⟨_,rfl,h⟩
   ·wp_walk using Hs hl,Kl hL
    exact⟨_,rfl,h⟩
  ·wp_walk using Hs hl,Kl hL
   exact⟨_,rfl,h⟩
theorem call_new{l:Addr}{items:Array Ae}{Q:Ae->Ag->Prop}(hL:s.heap.IsTuple l items)
  (h:∀ h',IsEnum h' (s.heap.objs.size + 1) s.heap.objs.size 0 .none->h'.IsTupleIter s.heap.objs.size l 0->(∀ b o,s.heap.get? b=some o->h'.get? b=some o)->Q (.ref (s.heap.objs.size + 1)) {s with heap:=h'}) :
  Bh (Bq prog w) A (call (.type "enumerate") [.ref l]) Q E s:=by
 obtain⟨⟨c,dct,dt,sl⟩,hl,hc,n,hd⟩:=hL
 cases (show c=.type "tuple" from hc)
 cases (show dt=.seq items n from hd)
 refine callType_new F.called_enumerate (by decide) (F.typeCall_enumerate_1 _) (F.newCall_enumerate_1 _) (fun obj=>F.args_object_init_2 obj _) F.entry_enumerate_new (zaD l items n dct sl) ⟨hl,?_⟩
 have hz:(s.heap.push {cls:=.type "tuple_iterator",data:=.fields #[.ref l,.int 0 0]}).objs.size=s.heap.objs.size + 1:=Ey ..
 show _/\_
 rw[hz]
 have he:IsEnum ((s.heap.push {cls:=.type "tuple_iterator",data:=.fields #[.ref l,.int 0 0]}).push {cls:=.type "enumerate",data:=.fields #[.none,.bool false,.ref s.heap.objs.size,Km 0,.none,.none]}) (s.heap.objs.size + 1) s.heap.objs.size 0 .none:=by
  have:=Bd (s.heap.push {cls:=.type "tuple_iterator",data:=.fields #[.ref l,.int 0 0]}) (o:={cls:=.type "enumerate",data:=.fields #[.none,.bool false,.ref s.heap.objs.size,Km 0,.none,.none]}) rfl
  rw[hz] at this;exact this
 exact⟨⟨_,he,rfl⟩,h _ he ⟨_,Aj _ (Bd _ rfl),rfl,rfl⟩ fun b o x=>Aj _ (Aj _ x)⟩
end
end Et
end PySem
namespace L2
open PySem PySem.Spec PyProof.Rows
section
variable {X:Cx}
def JF(K:Ab)(a:Addr)(xs:List V):It:=
 ⟨fun i H=>cD K H a xs/\i < xs.length,
   fun i H x H'=>∃ p u,xs[i]? = some u/\H p=none/\x=.ref p/\H'=aR H p (.tup [.int (i:Nat),u]),
   fun i H=>cD K H a xs/\i=xs.length⟩
theorem zaE{P:Bu}{w:Cm}{K:Ab}{es:List Expr}{kx:Nat}{px:Pos}(a e it:Addr)(xs:List V)(hne:e≠it)(hea:e≠a)(hia:a≠it) :
  kF P w K (.Tuple es kx px) (JF K a xs) [e,it] e (fun i h=>(∃ old,IsEnum h e it (i:Nat) old)/\h.IsTupleIter it a i) where
 mem:=by simp
 obj:=fun i h st c hc=>by
  obtain⟨⟨old,h1⟩,⟨o4,h4,_,h4d⟩⟩:=st
  simp only[Ay,Fx,or_false] at hc
  rcases hc with rfl | rfl
  ·exact⟨_,h1,fun v q=>by cases q⟩
  ·exact⟨_,h4,fun v q=>by rw[h4d] at q;cases q⟩
 keep:=fun i h h' st k=>by
  obtain⟨⟨old,h1⟩,⟨o4,h4,r4⟩⟩:=st
  exact⟨⟨old,k e (by simp) _ h1⟩,⟨o4,k it (by simp) _ h4,r4⟩⟩
 item:=by
  intro X hP hw hK hc i pins s σ H E I hf st hg
  subst hP hw hK
  obtain⟨⟨old,h1⟩,h4⟩:=st
  obtain⟨hqa,hi⟩:=hg
  obtain⟨its,rv,pl,hz⟩:=I.tuple hqa
  obtain⟨u,hu,ru⟩:=rv.get (Ax hi)
  have hl:=rv.length
  refine wpAny_pyNext_enum_itemD (Et.draws (A:=X.A.in1) (I.ok.hd hc) it a hia its.toArray) h1 ⟨h4,pl⟩ (by simp;lia) hne (by simp[hne,hea]) fun x h' tk hx a1 a2 a3 a4 hk=>?_
  have ex:x=u:=by
   have hx:its.toArray[i]? = some x:=hx
   rw[List.getElem?_toArray,hu] at hx
   exact(Cj hx).symm
  subst ex
  refine⟨_,rfl,wpAny_letOwnedTupleGo_enum a1 fun h'' e' sb=>?_⟩
  have hfr:H s.heap.objs.size=none:=I.hok.fresh (Ai _)
  have lte:e < s.heap.objs.size:=Az h1
  have lti:it < s.heap.objs.size:=by obtain⟨_,q,_⟩:=h4;exact Az q
  have keep2:∀ q o,q∉[e,it]->s.heap.get? q=some o->h''.get? q=some o:=fun q o hq eq=>by
   simp only[Ay,Fx,or_false,not_or] at hq
   exact(sb.2 q hq.1).trans (hk q o hq.1 hq.2 eq)
  have hp2:h''.get? s.heap.objs.size=some {cls:=.type "tuple",data:=.seq [.int (i:Nat) tk,x].toArray}:=(sb.2 _ (Fu lte)).trans a3
  have I1:Inv X pins σ (aR H s.heap.objs.size (.tup [.int (i:Nat),xs[i]])) {s with heap:=h'',toks:=tk + 1}:=I.laidT (its:=[.int (i:Nat) tk,x]) hf keep2 (by show 2<=Ak;decide) (.cons ⟨_,rfl⟩ (.cons ru .nil)) hp2
  refine⟨.ref s.heap.objs.size,_,I1,rfl,⟨s.heap.objs.size,xs[i],Ax hi,hfr,rfl,rfl⟩,⟨⟨x,by rw[Lc];exact e'⟩,a2.1.extBut sb.extBut hne.symm⟩,fun q hq=>?_⟩
  rw[bG]
  ·exact(hf q hq).1
  ·intro eq
   subst eq
   simp only[Ay,Fx,or_false] at hq
   rcases hq with q | q
   ·exact Fu lte q
   ·exact Fu lti q
 done:=by
  intro X hP hw hK hc i pins s σ H E I hf st hg
  subst hP hw hK
  obtain⟨⟨old,h1⟩,h4⟩:=st
  obtain⟨hqa,rfl⟩:=hg
  obtain⟨its,rv,pl,hz⟩:=I.tuple hqa
  have l1:=rv.length
  refine wpAny_pyNext_enum_endD (Et.draws (A:=X.A.in1) (I.ok.hd hc) it a hia its.toArray) h1 (show Heap.IsTupleIter s.heap it a its.toArray.size/\Heap.IsTuple s.heap a its.toArray from⟨by rw[Aw,<-l1];exact h4,pl⟩) fun h' hk=>⟨rfl,?_⟩
  exact I.turnedT (tk:=s.toks) hf fun q o hq eq=>hk q o (fun z=>hq (by simp[z])) eq
 self:=fun _ _ _ _ _ st h=>by
  obtain⟨⟨old,h1⟩,_⟩:=st
  exact Ku h1 h
def zaF(K:Ab)(ta:TA):TI:=fun σ H R=>ta σ H fun vs H1=>∃ a xs,vs=[.ref a]/\cD K H1 a xs/\R (JF K a xs) H1
theorem zaG{a:Expr}{ta:TA}{p pos:Pos}{es:List Expr}{kx:Nat}{px:Pos}(hg:Gl X "enumerate")(hm:X.mg "enumerate" = none)(ha:PA X [a] ta)(hs:Bg [a] X.env=[(false,eval a X.env)]:=by rfl) :
  PI X (.Tuple es kx px) (.Call (.Name "enumerate" p) [a] [] pos) (zaF X.K ta):=by
 intro pins s σ H R I h
 refine Call_ (kE I hg hm boot_enumerate (Cy (a8 (ha pos pins s σ H _ I h) fun us s1 ⟨vs,H1,I1,r1,q1⟩=>?_) hs rfl))
 obtain⟨a,xs,rfl,hqa,q⟩:=q1
 obtain⟨u,rfl,ru⟩:=vals1 r1
 cases ru
 obtain⟨its,rv1,pl,hz⟩:=I1.tuple hqa
 have la:a < s1.heap.objs.size:=by obtain⟨o,e,_⟩:=pl;exact Az e
 refine Et.call_new pl fun h' g1 g2 k=>?_
 refine Ku g1 ?_
 refine⟨s1.heap.objs.size + 1,[s1.heap.objs.size + 1,s1.heap.objs.size],_,_,H1,rfl,I1.kept (t':=s1.toks) k,zaE a _ _ xs (EB 1 (by decide)) (Cg (Bo (Nat.lt_succ_of_lt la))) (Bo la),⟨⟨_,g1⟩,g2⟩,fun q hq=>?_,q⟩
 have hge:s1.heap.objs.size<=q:=by
  simp only[Ay,Fx,or_false] at hq
  rcases hq with e | e
  ·rw[e];exact EC 1
  ·rw[e];exact Ai _
 exact I1.fpOk hge (I1.hok.fresh hge)
end
end L2
namespace L3
open PySem PySem.Spec PyProof.Rows L2
section
variable {X:Cx}{a:Expr}
def yM(ta:dE):iQ:=fun τ M R=>ta τ M fun ws M1=>∃ zs,ws=[.tup zs]/\R (hJ 0 zs) (fun _=>True) M1
theorem yN{tA:dE}{p pos:Pos}{es:List Expr}{kx:Nat}{px:Pos}(hg:Gl X "enumerate")(hm:X.mg "enumerate" = none)(ha:A3 X [a] tA)(hs:Bg [a] X.env=[(false,eval a X.env)]:=by rfl):PI X (.Tuple es kx px) (.Call (.Name "enumerate" p) [a] [] pos) (iG X.K (yM tA)):=
 (zaG hg hm ha hs).weak fun σ H R' z0=>z0.el fun τ M R as am h k=>⟨τ,M,_,as,am,h,fun vs H1 ws M1 k1 am1 ax ⟨zs,ew,r⟩=>by
  subst ew
  obtain⟨v,rfl,av⟩:=ax.one
  exact av.tupE fun b xs eb fb qb=>⟨b,xs,by rw[eb],cD.of fb,k _ _ _ _ _ k1 am1 (by
   have st:∀ H M,Kp H1 M1 H M->AM X.K H M->cD X.K H b xs:=fun H M k _=>cD.of (k.fr _ _ (am1.noTup fb) fb).1
   refine⟨fun i H M k am kp hi=>⟨st H M k am,by rw[lU] at hi;rw[qb.length];exact hi⟩,fun H M k am kp=>⟨st H M k am,by rw[lU,qb.length]⟩,fun i H M x H' k am kp hi y=>?_⟩
   obtain⟨pp,u,hu,hn,rfl,rfl⟩:=y
   obtain⟨w,hw,av⟩:=(qb.kp am1 k).getV hu
   obtain⟨am2,k2⟩:=am.tup (u:=.tup [.int (i:Nat),u]) hn
   exact⟨.tup [.int ((i:Nat):Int),w],by rw[sD,hw];simp,k2,am2,.tup cZ (.cons (.int _) (.cons (av.go (go_same hn)) .nil))⟩) r⟩⟩
end
end L3
namespace Rg
open PySem PySem.Spec PyProof.Rows L2 L3
def zaH(q:aV)(row:List Str):a7:=(q.name,0,row.length)
def eQ(f:a7):W:=.tup ((fK f).map wK)
def kY(own:Str->Bool)(ps:List Str)(cut:List Int):List a7:=ps.zipIdx.filterMap fun x=>if own x.1=true then some (x.1,cut.getD x.2 0,cut.getD (x.2 + 1) 0) else none
structure Wb(G:Sr)(B:bE):Prop where
 own:∀ t,G.own t=cH G.rs t
 few:G.rs.length<=100
 ord:oA G B
 bl:B.length<=2000
 pl:∀ r∈G.rs,r.parts.length<=100
abbrev l0(B:bE):W:=.ft (dX fK fG B)
def yO:bH:=fun ws M R=>∃ (q:aV) (rs:List aV) (row:List Str),ws=[cJ (q :: rs),eL row]/\R (eQ (zaH q row)) M
def JG:bH:=fun ws M R=>∃ (rs:List aV) (ps:List Str) (cut:List Int),ws=[.dk (ownOf rs),.tup (ps.map W.str),fZ cut]/\ps.length + 1<=cut.length/\ps.length<=100/\aZ ((kY (cH rs) ps cut).map eQ) M R
def qE(G:Sr)(B:bE)(p:a7->Bool):Prop:=∀ e∈B,p e.1=true->∀ f∈kY G.own (jP G e.2.2.1) e.2.2.2,p f=true
def JH:bH:=fun ws M R=>∃ (G:Sr) (B:bE) (aM:a7),ws=[cJ G.rs,l0 B,eQ aM]/\Wb G B/\aM∈B.map (·.1)/\∀ p:a7->Bool,p aM=true->qE G B p->(∀ q:a7->Bool,q aM=true->qE G B q->∀ f,p f=true->q f=true)->aZ (((B.map (·.1)).filter p).map eQ) M R
def JI:bH:=fun ws M R=>∃ (t:Str) (b e:Int),ws=[.str t,.int b,.int e]/\R (.str t) M
abbrev zaI:List Str:=["grammar","row"]
def zaJ:aI:=
   (bS (bK (aB (bJ HC (aB (aA 0) aD)) (aB (vC (.int 0)) (aB (bY dA (aB (aA 1) aD)) aD)))))
abbrev zaK:List Str:=["own","parts","cut"]
def zaL:aI:=
   (bS (fW (yM (aB (aA 1) aD)) (kP 2 (gC (bW 0) (gC (bW 1) kO))) (bU (aE (rIn false) (aA 1) (aA 2))) (bK (aB (aA 1) (aB (aE aW (aA 3) (aA 0)) (aB (aE aW (aA 3) (aE dH (aA 0) (vC (.int 1)))) aD)))) [none,none,some 0,some 2]))
abbrev zaM:List Str:=["grammar","best","top","own","found","waiting","told","fact"]
def zaN:aI:=
   (bB 3 (bJ pX (aB (cM (bJ pW (aB (aA 0) aD))) aD)))
def zaO:aI:=
   (bB 4 (JE (aA 2) (vC (.bl true))))
def zaP:aI:=
   (bB 5 (iC (aB (aA 2) aD)))
def zaQ:aI:=
   (aN (bB 6 (aE aW (aA 1) (rP "list" rPop (aA 5))))
   (fS (dG eO (cM (bJ JG (aB (aA 3) (aB (aE aW (aE aW (aA 0) (aE aW (aA 6) (vC (.int 1)))) (vC (.int 1))) (aB (aE aW (aA 6) (vC (.int 2))) aD)))))) (bW 7)
    (cN (bU (aE (rIn true) (aA 7) (aA 4)))
    (aN (iZ (vC (.bl true)) (j3 (aA 4) (aA 7)))
   (cR (cQ "list" d8 (aA 5) (aB (aA 7) aD))))
    eN)))
def zaR:aI:=
   (pH (rL (aA 5)) zaQ)
def zaS:aI:=
   (bS (fW (dG xR (aA 1)) (bW 0) (bU (aE (rIn false) (aA 0) (aA 1))) (aA 0) [none,some 4]))
def zaT:aI:=(aN zaN (aN zaO (aN zaP (aN zaR zaS))))
abbrev zaU:List Str:=["word","begin","end"]
def zaV:aI:=
   (bS (aA 0))
theorem JJ{rs:List aV}(h:rs.length<=100):(namesOf rs).length<=400:=by
 have h1:=sE (rs.map aV.name) []
 rw[Aa,Fm,Gi] at h1
 exact Ao h1 (Ao h (by decide))
theorem l8{cut:List Int}{k:Nat}(h:k < cut.length):cC (cut.map W.int) (k:Int)=some (.int (cut.getD k 0)):=iL (by rw[Au,Fz,Ax h];rfl)
theorem zaW{ws:List W}{M:Mm}{R:K3}(h:yO ws M R):zaJ (bI R) (bP zaI ws) M:=by
 obtain⟨q,rs,row,rfl,r⟩:=h
 refine⟨_,rfl,q,rs,rfl,_,rfl,z3,_,Sub.refl _,?_⟩
 rw[Aa]
 exact r
theorem zaX{ws:List W}{M:Mm}{R:K3}(h:JI ws M R):zaV (bI R) (bP zaU ws) M:=by
 obtain⟨t,b,e,rfl,r⟩:=h
 exact⟨_,rfl,_,Sub.refl _,r⟩
def yP(rs:List aV)(cut:List Int):W->Option W
 | .tup [.int i,.str t]=>if cH rs t=true then some (eQ (t,cut.getD i.toNat 0,cut.getD (i.toNat + 1) 0)) else none
 | _=>none
theorem zaY{F:W->Option W}{ws:List W}{os:List (Option W)}(h:Fn (fun w o=>o=F w) ws os):os.filterMap id=ws.filterMap F:=by
 induction h with
 | nil=>rfl
 | cons a _ ih=>rw[a,Ea,Ea,ih];rfl
theorem zaZ(rs:List aV)(cut:List Int)(ps:List Str):(hJ 0 (ps.map W.str)).filterMap (yP rs cut)=(kY (cH rs) ps cut).map eQ:=by
 unfold kY
 rw[enum_zip,Ig,List.map_filterMap]
 refine congrArg (fun f=>List.filterMap f ps.zipIdx) (funext fun x=>?_)
 show(if cH rs x.1=true then _ else none)=_
 rw[Cu]
 by_cases h:cH rs x.1=true
 ·rw[if_pos h,if_pos h];rfl
 ·rw[if_neg h,if_neg h];rfl
theorem za0{ws:List W}{M:Mm}{R:K3}(h:JG ws M R):zaL (bI R) (bP zaK ws) M:=by
 obtain⟨rs,ps,cut,rfl,hc,hp,r⟩:=h
 refine⟨_,rfl,_,rfl,FV (rest:=[some (.dk (ownOf rs)),some (fZ cut)]) (fun w o=>o=yP rs cut w) (fun w hw=>?_) (eP (by rw[lU,Aa];lia)) (fun _ _=>trivial) (fun a b hm M' C D sb h1 h2=>?_) fun os po=>?_⟩
 ·rw[enum_zip] at hw
  obtain⟨x,_,rfl⟩:=Ba.mp hw
  exact⟨_,_,rfl⟩
 ·rw[enum_zip] at hm
  obtain⟨⟨t,k⟩,hx,e⟩:=Ba.mp hm
  cases e
  have hk:=(Ah.mp (Gz.mp hx)).1
  have ep:yP rs cut (.tup [.int (k:Int),.str t])=if cH rs t=true then some (eQ (t,cut.getD k 0,cut.getD (k + 1) 0)) else none:=rfl
  have ho:(bA (ownOf rs) (Sum.inr t:aG)).isSome=cH rs t:=qC rs t
  exact⟨_,rfl,_,rfl,_,⟨Sum.inr t,rfl,rfl⟩,_,rfl,bC (fun z=>⟨_,rfl,_,rfl,_,rfl,_,l8 (by lia),_,rfl,_,rfl,_,l8 (k:=k + 1) (by lia),z3,h1 _ (by rw[ep,if_pos (ho.symm.trans z)];rfl)⟩) fun z=>h2 (by rw[ep,if_neg (ne_true_of_eq_false (ho.symm.trans z))])⟩
 ·rw[zaY po,zaZ]
  exact tT r
structure FW(G:Sr)(B:bE)(aM:a7)(ex:a7->Prop)(fs wt:List a7):Prop where
 tp:aM∈fs
 nd:fs.Nodup
 sub:∀ f∈fs,f∈B.map (·.1)
 wq:∀ f∈wt,f∈fs
 wl:wt.length<=fs.length
 cl:∀ e∈B,e.1∈fs->e.1∈wt\/ex e.1\/∀ f∈kY G.own (jP G e.2.2.1) e.2.2.2,f∈fs
 mn:∀ q:a7->Bool,q aM=true->qE G B q->∀ f∈fs,q f=true
theorem FW.len{G:Sr}{B:bE}{aM:a7}{fs wt:List a7}{ex:a7->Prop}(h:FW G B aM ex fs wt):fs.length<=B.length:=by
 have:=len_sub h.nd h.sub
 rw[Aa] at this;exact this
theorem FW.add{G:Sr}{B:bE}{aM g:a7}{fs wt:List a7}{ex:a7->Prop}(h:FW G B aM ex fs wt)(hg:g∉fs)(hb:g∈B.map (·.1))(hm:∀ q:a7->Bool,q aM=true->qE G B q->q g=true):FW G B aM ex (fs ++ [g]) (wt ++ [g]):=by
 refine⟨Bx _ h.tp,?_,fun f hf=>?_,fun f hf=>?_,(by rw[Af,Af];exact Nat.add_le_add_right h.wl _),fun e he hf=>?_,fun q h1 h2 f hf=>(Be.mp hf).elim (h.mn q h1 h2 f) fun z=>by rw[An.mp z];exact hm q h1 h2⟩
 ·rw[Ew]
  exact⟨h.nd,(by simp),fun a ha b hb e=>hg (by cases An.mp hb;rw[<-e];exact ha)⟩
 ·rcases Be.mp hf with z | z
  ·exact h.sub f z
  ·cases An.mp z;exact hb
 ·rcases Be.mp hf with z | z
  ·exact Bx _ (h.wq f z)
  ·exact Bt _ z
 ·rcases Be.mp hf with z | z
  ·rcases h.cl e he z with y | y | y
   ·exact .inl (Bx _ y)
   ·exact .inr (.inl y)
   ·exact .inr (.inr fun f hf=>Bx _ (y f hf))
  ·exact .inl (Bt _ z)
def oI(fs:List a7):W->Option W
 | .tup [.str n,.int b,.int e]=>if (n,b,e)∈fs then some (.tup [.str n,.int b,.int e]) else none
 | _=>none
theorem za1(fs gs:List a7):(gs.map eQ).filterMap (oI fs)=(gs.filter fun f=>decide (f∈fs)).map eQ:=by
 induction gs with
 | nil=>rfl
 | cons f gs ih=>
  have e:oI fs (eQ f)=if f∈fs then some (eQ f) else none:=rfl
  rw[Bc,Ea,Em,e,ih]
  by_cases h:f∈fs
  ·rw[if_pos h,if_pos (decide_eq_true h),Bc]
  ·rw[if_neg h,if_neg (by rw[decide_eq_false h];exact Ap)]
theorem JK{B:bE}{f:a7}(h:f∈B.map (·.1)):∃ v,aH B f=some v/\bA (dX fK fG B) (fK f)=some (fG v):=by
 obtain⟨v,hv⟩:=Cq.mp (gT.mpr h)
 exact⟨v,hv,by rw[jC jO,hv];rfl⟩
theorem za2{G:Sr}{B:bE}(o:oA G B){e:En}(he:e∈B):aH B e.1=some e.2:=by
 obtain⟨a,b,sp⟩:=Gv he
 obtain⟨r,E⟩:=o a e b sp
 rw[sp,tN,E.no,dS,if_pos rfl];rfl
theorem JL{G:Sr}{pre:bE}{e:En}{r:aV}(E:kW G pre e r){g:a7}(hg:g∈kY G.own r.parts e.2.2.2):g∈pre.map (·.1):=by
 obtain⟨⟨t,k⟩,hx,e1⟩:=Ie.mp hg
 have hx:=Gz.mp hx
 by_cases ho:G.own t=true
 ·rw[if_pos ho] at e1
  cases e1
  exact gT.mp (E.pn k t hx ho)
 ·rw[if_neg ho] at e1;cases e1
theorem t5{G:Sr}{pre:bE}{e:En}{r:aV}(E:kW G pre e r):jP G e.2.2.1=r.parts:=by unfold jP;rw[E.ru];rfl
theorem za3{ws:List W}{M:Mm}{R:K3}(h:JH ws M R):zaT (bI R) (bP zaM ws) M:=by
 obtain⟨G,B,aM,rfl,w,ht,r⟩:=h
 have hown:G.own=cH G.rs:=funext w.own
 refine xI rfl ⟨G.rs,rfl,(Ao w.few (by decide)),aZ.frz ⟨namesOf G.rs,rfl,JJ w.few,fun p hp=>xI rfl ⟨aT,fK aM,rfl,xI rfl ⟨z1,fun q hq=>?_⟩⟩⟩⟩
 rw[fJ] at hq ⊢
 have hpq:q≠p:=fun e=>by rw[e,aT] at hq;cases hq
 have hq0:M q=none:=by rw[aQ hpq] at hq;exact hq
 have atp:∀ {X Y:MO},put (put M p X) q Y p=some X:=fun {X Y}=>by rw[aQ (Cg hpq),aT]
 have setp:∀ {X X' Y:MO},put (put (put M p X) q Y) p X'=put (put M p X') q Y:=fun {X X' Y}=>by rw[SJ hpq,fJ]
 refine⟨fun m τ M'=>∃ fs wt o6 o7,τ=[some (cJ G.rs),some (l0 B),some (eQ aM),some (.dk (ownOf G.rs)),some (.ref p),some (.ref q),o6,o7]/\M'=put (put M p (.dT (iI fs))) q (.lst (wt.map eQ))/\FW G B aM (fun _=>False) fs wt/\m=2 * (B.length - fs.length) + wt.length,
  ⟨_,[aM],[aM],_,_,rfl,rfl,⟨List.mem_singleton_self _,(by simp),fun f hf=>by cases An.mp hf;exact ht,fun f hf=>hf,Ai _,fun e _ hf=>.inl hf,fun q h1 _ f hf=>by rw[An.mp hf];exact h1⟩,rfl⟩,?_⟩
 rintro m τ M' ⟨fs,wt,o6,o7,rfl,rfl,F,rfl⟩
 refine xI rfl (.inl ⟨_,aT,bC (fun h=>?_) fun h=>?_⟩)
 ·rcases Ed wt with e | ⟨wt',f,e⟩
  ·rw[e] at h;cases h
  rw[Ee] at e
  subst e
  obtain⟨v,hv,lv⟩:=JK (F.sub f (F.wq f (by simp)))
  obtain⟨pre,post,sp⟩:=iS hv
  obtain⟨ru,E⟩:=w.ord pre _ post sp
  obtain⟨ru',h1,h2⟩:=tI (rs:=G.rs) (n:=v.2.1) (Ah.mp E.ru).1
  cases (show some ru'=some ru from h1.symm.trans E.ru)
  refine xI rfl (xI rfl ⟨eT aT,_,_,by rw[Bf];exact aT,_,⟨fK f,rfl,lv.symm⟩,xI rfl (xI rfl (xI rfl (xI rfl ⟨_,h2,xI rfl (xI rfl (xI rfl ⟨G.rs,ru.parts,v.2.2,rfl,E.ln,w.pl ru (Bn h1),aZ.frz (fP ?_)⟩))⟩)))⟩)
  rw[fJ,<-hown]
  obtain⟨pf,hpf⟩:∃ pf,pf=kY G.own ru.parts v.2.2:=⟨_,rfl⟩
  rw[<-hpf]
  have hpB:∀ g∈pf,g∈B.map (·.1):=fun g hg=>by
   rw[hpf] at hg
   rw[sp,Bf]
   exact Bx _ (JL E hg)
  have hlen:=F.len
  refine iT (fun j τ M'=>∃ fs2 wt2 o7,τ=[some (cJ G.rs),some (l0 B),some (eQ aM),some (.dk (ownOf G.rs)),some (.ref p),some (.ref q),some (fG v),o7]/\M'=put (put M p (.dT (iI fs2))) q (.lst (wt2.map eQ))/\(∀ g∈pf.take j,g∈fs2)/\FW G B aM (fun x=>x=f) fs2 wt2/\2 * (B.length - fs2.length) + wt2.length + 1<=2 * (B.length - fs.length) + (wt' ++ [f]).length) ?_ ?_ ?_
  ·refine⟨fs,wt',xI rfl ⟨rfl,(fun g hg=>nomatch hg),⟨F.tp,F.nd,F.sub,fun x hx=>F.wq x (Bx _ hx),Ao (by rw[Af];exact Nat.le_add_right _ _) F.wl,fun e he hf=>?_,F.mn⟩,by rw[Af];exact Ai _⟩⟩
   rcases F.cl e he hf with y | y | y
   ·rcases Be.mp y with y | y
    ·exact .inl y
    ·exact .inr (.inl (An.mp y))
   ·exact y.elim
   ·exact .inr (.inr y)
  ·rintro j x τ M' hx ⟨fs2,wt2,o7,rfl,rfl,hin,F2,hm⟩ D1 hD1
   rw[Au] at hx
   obtain⟨g,hg,rfl⟩:=Bk.mp hx
   have hgm:=Bn hg
   have hl2:=F2.len
   have hbl:=w.bl
   refine xI rfl (xI rfl (.inr ⟨_,.inr ⟨iI fs2,fK g,atp,rfl,rfl⟩,xI rfl ?_⟩))
   show if (!(bA (iI fs2) (fK g)).isSome)=true then _ else _
   rw[yH]
   refine bC (fun hn=>?_) fun hn=>?_
   ·have hn:g∉fs2:=of_decide_eq_false (by rw[<-Kx (decide _),hn];rfl)
    have F3:=F2.add hn (hpB g hgm) fun q h1 h2=>h2 (f,v) (by rw[sp];simp) (F.mn q h1 h2 f (F.wq f (by simp))) g (by rw[show jP G v.2.1=ru.parts from t5 E,<-hpf];exact hgm)
    have hl3:=F3.len
    rw[Af,Bl] at hl3
    have lw:=F2.wl
    refine xI rfl (xI rfl (nV (k:=fK g) atp (by unfold iI;rw[Aa];exact eR (by lia)) ?_))
    rw[zay hn,setp]
    refine xI rfl ⟨eT aT,xI rfl ⟨_,aT,eR (by rw[Aa];lia),hD1 _ _ ⟨fs2 ++ [g],wt2 ++ [g],xI rfl ⟨?_,fun y hy=>?_,F3,?_⟩⟩⟩⟩
    ·rw[fJ,Bf];rfl
    ·rw[Eu,hg] at hy
     rcases Be.mp hy with z | z
     ·exact Bx _ (hin y z)
     ·exact Bt _ z
    ·rw[Af,Af,Bl]
     lia
   ·have hn:g∈fs2:=of_decide_eq_true (by rw[<-Kx (decide _),hn];rfl)
    refine hD1 _ _ ⟨fs2,wt2,xI rfl ⟨rfl,fun y hy=>?_,F2,hm⟩⟩
    rw[Eu,hg] at hy
    rcases Be.mp hy with z | z
    ·exact hin y z
    ·cases An.mp z;exact hn
  ·rintro τ M' ⟨fs2,wt2,o7,rfl,rfl,hin,F2,hm⟩
   rw[Aa,Ck] at hin
   refine⟨_,_,hm,Sub.refl _,fs2,wt2,_,xI rfl ⟨rfl,⟨F2.tp,F2.nd,F2.sub,F2.wq,F2.wl,fun e he hf=>?_,F2.mn⟩,rfl⟩⟩
   rcases F2.cl e he hf with y | y | y
   ·exact .inl y
   ·have:=za2 w.ord he
    rw[y,hv] at this
    refine .inr (.inr fun g hg=>hin g ?_)
    rw[<-Cj this,show jP G v.2.1=ru.parts from t5 E] at hg
    rw[hpf];exact hg
   ·exact .inr (.inr y)
 ·have e:wt=[]:=by
   cases wt with
   | nil=>rfl
   | cons a b=>cases h
  subst e
  have hbl:=w.bl
  refine xI rfl (nU (rest:=[some (.ref p)]) (oI fs) (eP (by rw[Aa,Aa];lia)) (fun _ _=>trivial) (fun x hx M3 C D sb d1 d2=>?_) ?_)
  ·rw[Bv] at hx
   obtain⟨e,he,rfl⟩:=Ba.mp hx
   have ei:oI fs (eQ e.1)=if e.1∈fs then some (eQ e.1) else none:=rfl
   refine xI rfl (xI rfl (.inr ⟨_,.inr ⟨iI fs,fK e.1,sb _ _ atp,rfl,rfl⟩,xI rfl ?_⟩))
   show if (bA (iI fs) (fK e.1)).isSome=true then _ else _
   rw[yH]
   exact bC (fun z=>xI rfl (d1 _ (by show oI fs (eQ e.1)=_;rw[ei,if_pos (of_decide_eq_true z)];rfl))) fun z=>d2 (by show oI fs (eQ e.1)=_;rw[ei,if_neg (of_decide_eq_false z)])
  ·have e:((dX fK fG B).map fun p=>W.tup (p.1.map wK))=(B.map (·.1)).map eQ:=by rw[Bv,Bv];rfl
   rw[e,za1]
   have z:=r (fun f=>decide (f∈fs)) (decide_eq_true F.tp) fun e he hf f hm=>by
    rcases F.cl e he (of_decide_eq_true hf) with y | y | y
    ·cases y
    ·exact y.elim
    ·exact decide_eq_true (y f hm)
   have z:=z fun q h1 h2 f hf=>F.mn q h1 h2 f (of_decide_eq_true hf)
   intro s hs
   have hs1:s≠q:=fun e=>by rw[e,aT] at hs;cases hs
   have hs2:s≠p:=fun e=>by rw[e,atp] at hs;cases hs
   rw[aQ hs1,aQ hs2] at hs
   exact⟨_,Sub.put (gM (gM (Sub.refl _) hp) hq0),z s hs⟩
end Rg
namespace M47
open PySem PySem.Spec PyProof.Rows L2 L3 Rg
def qF(rs:List aV)(row U:List Str):Sr:=⟨rs,cH rs,dO row.length,lZ U row,fun _=>0⟩
section
variable {rs:List aV}{row U:List Str}{B:bE}
theorem za4{n:Nat}{r:aV}(h:(rs.map bM)[n]? = some r):∃ r0,rs[n]? = some r0/\r=bM r0:=by
 rw[Au] at h
 obtain⟨r0,h1,h2⟩:=Bk.mp h
 exact⟨r0,h1,h2.symm⟩
theorem t6{r:aV}(h:r.parts≠[]):bM r=r:=by unfold bM;rw[if_neg h]
theorem za5{pre:bE}{e:En}{r:aV}(E:kW (bX rs row U) pre e r):∃ r0,r=bM r0/\kW (qF rs row U) pre e r0:=by
 obtain⟨r0,h1,rfl⟩:=za4 E.ru
 refine⟨r0,rfl,?_⟩
 have hfa:=E.fa
 rw[mZ] at hfa
 by_cases h:r0.parts=[]
 ·refine⟨E.no,h1,hfa,?_,fun k t ht=>by rw[h] at ht;simp at ht,fun k t ht=>by rw[h] at ht;simp at ht⟩
  have:=E.ln
  rw[h]
  simp
  lia
 ·have:=t6 h
  rw[this] at E
  exact⟨E.no,h1,E.fa,E.ln,E.pn,E.pw⟩
theorem za6(h:dC (bX rs row U) B):oA (qF rs row U) B:=fun pre e post hb=>by
 obtain⟨r,E⟩:=oB h pre e post hb
 obtain⟨r0,_,E0⟩:=za5 E
 exact⟨r0,E0⟩
theorem za7(g:cT rs)(h:dC (bX rs row U) B){f:a7}(hf:f∈B.map (·.1)):f.1∈eJ/\0<=f.2.1/\f.2.1<=f.2.2/\f.2.2<=row.length:=by
 obtain⟨x,hx⟩:=Cq.mp (gT.mpr hf)
 obtain⟨h1,_⟩:=yA h hx
 have h2:=IL h hx
 refine⟨?_,h1.le.1,h1.le.2,?_⟩
 ·have:∀ {X},Fr rs X->X∈eJ:=fun h=>by
   cases h with
   | mk hr _=>exact g.nm _ hr
  exact this h2
 ·obtain⟨pre,post,hb⟩:=iS hx
  refine oE (fun _=>rfl) h (fun f v y=>f.2.2<=row.length) (fun r hr b hb e v y p=>?_) _ pre (f,x) post rfl hb
  show e<=row.length
  replace hb:=(gU.mp hb).2
  clear hr
  generalize r.parts=ps at p
  induction p with
  | nil=>exact hb
  | @cons t ts b m e u v x y hs _ ih=>
   refine ih ?_
   rcases hs with⟨_,h2,_⟩ | ⟨_,h2⟩
   ·exact(kC.mp h2).2.2.2.1
   ·exact h2
def za8:List (Int×Int):=(dO 12).flatMap fun b=>((dO 12).filter fun e=>decide (b<=e)).map fun e=>(b,e)
theorem JM(g:cT rs)(w:hZ row)(h:dC (bX rs row U) B):B.length<=728:=by
 have:=len_sub (b:=eJ.flatMap fun X=>za8.map fun p=>(X,p.1,p.2)) (HZ h) fun f hf=>by
  obtain⟨h1,h2,h3,h4⟩:=za7 g h hf
  have:=w.few
  refine Fg.mpr ⟨f.1,h1,Ba.mpr ⟨(f.2.1,f.2.2),Fg.mpr ⟨f.2.1,gU.mpr ⟨h2,by lia⟩,Ba.mpr ⟨f.2.2,Dh.mpr ⟨gU.mpr ⟨by lia,by lia⟩,decide_eq_true h3⟩,rfl⟩⟩,rfl⟩⟩
 rw[Aa] at this
 refine Ao this ?_
 decide +kernel
theorem za9{S:List dP}{r w:List Str}{n:Int}(h:Gn S r w n):(S.length:Int)<=n + r.length:=by
 induction h with
 | nil=>decide
 | keep _ ih=>simp only[Ar];lia
 | drop _ ih=>simp only[Ar];lia
 | put _ ih=>simp only[Ar];lia
 | swap _ ih=>simp only[Ar];lia
theorem JN(l:List (List SI)):gN row l.flatten=(l.map (gN row)).flatten:=by
 unfold gN
 induction l with
 | nil=>rfl
 | cons x l ih=>rw[Ex,List.flatMap_append,ih];rfl
theorem zba{G:Sr}(h:oA G B){e:En}(he:e∈B){f:a7}(hf:f∈kY G.own (jP G e.2.2.1) e.2.2.2):(gN row (yT G B f)).length<=(gN row (yT G B e.1)).length:=by
 obtain⟨pre,post,hb⟩:=Gv he
 obtain⟨r,E⟩:=h pre e post hb
 rw[t5 E] at hf
 obtain⟨⟨t,k⟩,h1,h2⟩:=Ie.mp hf
 have ho:G.own t=true:=by
  by_cases ho:G.own t=true
  ·exact ho
  ·rw[if_neg ho] at h2;cases h2
 rw[if_pos ho] at h2
 cases h2
 rw[xW hb E]
 unfold lY
 rw[JN]
 obtain⟨a,b,e2⟩:=Gv h1
 rw[e2]
 simp only[Bf,Bc,Jo,Ex,Af,if_pos ho]
 lia
end
theorem Gn.split{S:List dP}{r w:List Str}{n:Int}(h:Gn S r w n):∀ {w1 w2:List Str},w=w1 ++ w2->∃ S1 S2 r1 r2 n1 n2,r=r1 ++ r2/\n=n1 + n2/\Gn S1 r1 w1 n1/\Gn S2 r2 w2 n2:=by
 induction h with
 | nil=>
  intro w1 w2 e
  obtain⟨rfl,rfl⟩:=List.append_eq_nil_iff.mp e.symm
  exact⟨[],[],[],[],0,0,rfl,rfl,.nil,.nil⟩
 | @keep S r w n t h ih=>
  intro w1 w2 e
  cases w1 with
  | nil=>
   rw[Eh] at e
   subst e
   exact⟨[],_,[],_,0,_,rfl,(Gy _).symm,.nil,.keep h⟩
  | cons x w1=>
   obtain⟨rfl,e2⟩:=Js e
   obtain⟨S1,S2,r1,r2,n1,n2,rfl,rfl,h1,h2⟩:=ih e2
   exact⟨_,S2,_,r2,_,n2,rfl,rfl,.keep h1,h2⟩
 | drop h ih=>
  intro w1 w2 e
  obtain⟨S1,S2,r1,r2,n1,n2,rfl,rfl,h1,h2⟩:=ih e
  exact⟨_,S2,_,r2,_,n2,rfl,(Gj _ _ _).symm,.drop h1,h2⟩
 | @put S r w n t h ih=>
  intro w1 w2 e
  cases w1 with
  | nil=>
   rw[Eh] at e
   subst e
   exact⟨[],_,[],_,0,_,rfl,(Gy _).symm,.nil,.put h⟩
  | cons x w1=>
   obtain⟨rfl,e2⟩:=Js e
   obtain⟨S1,S2,r1,r2,n1,n2,rfl,rfl,h1,h2⟩:=ih e2
   exact⟨_,S2,_,r2,_,n2,rfl,(Gj _ _ _).symm,.put h1,h2⟩
 | @swap S r w n y t h ih=>
  intro w1 w2 e
  cases w1 with
  | nil=>
   rw[Eh] at e
   subst e
   exact⟨[],_,[],_,0,_,rfl,(Gy _).symm,.nil,.swap h⟩
  | cons x w1=>
   obtain⟨rfl,e2⟩:=Js e
   obtain⟨S1,S2,r1,r2,n1,n2,rfl,rfl,h1,h2⟩:=ih e2
   exact⟨_,S2,_,r2,_,n2,rfl,(Gj _ _ _).symm,.swap h1,h2⟩
theorem yQ{S:List dP}{r w:List Str}{n:Int}(h:Gn S r w n):(r.length:Int)<=n + w.length/\(w.length:Int)<=n + r.length/\((∀ t∈w,t∉r)->(r.length:Int)<=n)/\0<=n:=by
 induction h with
 | nil=>exact⟨by decide,by decide,fun _=>by decide,by decide⟩
 | keep _ ih=>
  obtain⟨h1,h2,h3,h4⟩:=ih
  simp only[Ar]
  exact⟨by lia,by lia,fun h=>absurd Bb (h _ Bb),h4⟩
 | drop _ ih=>
  obtain⟨h1,h2,h3,h4⟩:=ih
  simp only[Ar]
  refine⟨by lia,by lia,fun h=>?_,by lia⟩
  have:=h3 fun t ht z=>h t ht (Av _ z)
  lia
 | put _ ih=>
  obtain⟨h1,h2,h3,h4⟩:=ih
  simp only[Ar]
  refine⟨by lia,by lia,fun h=>?_,by lia⟩
  have:=h3 fun t ht z=>h t (Av _ ht) z
  lia
 | swap _ ih=>
  obtain⟨h1,h2,h3,h4⟩:=ih
  simp only[Ar]
  refine⟨by lia,by lia,fun h=>?_,by lia⟩
  have:=h3 fun t ht z=>h t (Av _ ht) (Av _ z)
  lia
theorem JO:∀ w:List Str,∃ S,Gn S w w 0
 | []=>⟨_,.nil⟩
 | t :: w=>let ⟨_,h⟩:=JO w;⟨_,.keep h⟩
theorem JP{S:List dP}{row:List Str}{t:Str}{b e n:Int}(h:Gn S (bL row b e) (lw t) n):gD row t b e<=n:=by
 unfold lw at h
 unfold gD
 by_cases h0:t = ""
 ·rw[if_pos h0] at h ⊢
  obtain⟨h1,_⟩:=yQ h
  rw[Fm] at h1
  lia
 ·rw[if_neg h0] at h ⊢
  obtain⟨h1,h2,h3,_⟩:=yQ h
  rw[Bl] at h1 h2
  by_cases h4:bL row b e=[]
  ·rw[if_pos h4]
   rw[h4,Fm] at h2
   lia
  ·rw[if_neg h4]
   by_cases h5:t∈bL row b e
   ·rw[if_pos h5];lia
   ·rw[if_neg h5]
    exact h3 fun x hx=>by rw[An.mp hx];exact h5
theorem t7{row:List Str}{b e:Int}(h0:0<=b)(h1:b<=e)(h2:e<=row.length):((bL row b e).length:Int)=e - b:=by
 unfold bL
 rw[Ds,Bj]
 lia
theorem zbb{row r1 r2:List Str}{b e:Int}(h0:0<=b)(h1:b<=e)(h2:e<=row.length)(h:bL row b e=r1 ++ r2):∃ m,b<=m/\m<=e/\bL row b m=r1/\bL row m e=r2:=by
 have hl:=t7 h0 h1 h2
 rw[h,Af] at hl
 have a1:b<=b + (r1.length:Int):=by lia
 have a2:b + (r1.length:Int)<=e:=by lia
 have hc:=xX (row:=row) h0 a1 a2
 rw[h] at hc
 have l1:=t7 (row:=row) h0 a1 (Dc a2 h2)
 obtain⟨e1,e2⟩:=List.append_inj hc (by lia)
 exact⟨_,a1,a2,e1,e2⟩
theorem JQ{row:List Str}{b:Int}{t:Str}(h0:0<=b)(h:row[b.toNat]? = some t):bL row b (b + 1)=[t]:=by
 have hb:=(Ah.mp h).1
 unfold bL
 rw[show(b + 1).toNat=b.toNat + 1 by lia,Eu,h,List.drop_append,Gu (by rw[Bj];lia),Bj,show b.toNat - min b.toNat row.length=0 by lia]
 rfl
theorem zbc{row:List Str}{b:Int}:bL row b b=[]:=Gu (by rw[Bj];exact Gh _ _)
section
variable {rs:List aV}{row U words:List Str}{B B0:bE}
def QM(rs:List aV)(row U words:List Str)(f:a7):Prop:=f.2.1<=f.2.2/\f.2.2<=words.length/\∀ S n (b e:Int),0<=b->b<=e->e<=row.length->Gn S (bL row b e) (bL words f.2.1 f.2.2) n->∃ v,v<=n/\Cs (bX rs row U) (f.1,b,e) v
theorem zbd(g:cT rs)(hU:∀ r∈rs,∀ t∈(bM r).parts,cH rs t=false->t∈U){r:aV}(hr:r∈rs){t:Str}(ht:t∈r.parts){b' e' v':Int}{x:List SI}(hb':0<=b')(hs:PS (eU rs words) (fun f _ _=>QM rs row U words f) t b' e' v' x) :
  b'<=e'/\e'<=words.length/\∀ S n (b e:Int),0<=b->b<=e->e<=row.length->Gn S (bL row b e) (bL words b' e') n->∃ v y,v<=n/\PS (bX rs row U) (fun f v _=>Cs (bX rs row U) f v) t b e v y:=by
 rcases hs with⟨ho,h2,_⟩ | ⟨ho,h2⟩
 ·obtain⟨m1,m2,rfl,_⟩:=p6.mp h2
  have:=(Ah.mp m2).1
  refine⟨by lia,by lia,fun S n b e hb hbe he gn=>?_⟩
  rw[JQ m1 m2] at gn
  have gn:Gn S (bL row b e) (lw t) n:=by unfold lw;rw[if_neg (yB (g.pt r hr t ht))];exact gn
  exact⟨_,_,JP gn,.inl ⟨ho,kC.mpr ⟨hU r hr t (IK ht) ho,hb,hbe,he,rfl⟩,rfl⟩⟩
 ·obtain⟨h3,h4,h5⟩:=h2
  refine⟨h3,h4,fun S n b e hb hbe he gn=>?_⟩
  obtain⟨v,hv,hc⟩:=h5 S n b e hb hbe he gn
  exact⟨v,[],hv,.inr ⟨ho,hc⟩⟩
theorem zbe(g:cT rs)(hU:∀ r∈rs,∀ t∈(bM r).parts,cH rs t=false->t∈U){r:aV}(hr:r∈rs){ts:List Str}{b' e' v':Int}{y':List SI}(p:PP (PS (eU rs words) fun f _ _=>QM rs row U words f) ts b' e' v' y') :
  (∀ t∈ts,t∈r.parts)->0<=b'->b'<=words.length->b'<=e'/\e'<=words.length/\(ts≠[]->∀ S n (b e:Int),0<=b->b<=e->e<=row.length->Gn S (bL row b e) (bL words b' e') n->∃ v y,v<=n/\PP (PS (bX rs row U) fun f v _=>Cs (bX rs row U) f v) ts b e v y):=by
 induction p with
 | nil=>exact fun _ _ h=>⟨Eo _,h,fun h=>absurd rfl h⟩
 | @cons t ts b' m' e' u v x y hs hp ih=>
  intro hin h0 h1
  obtain⟨a1,a2,a3⟩:=zbd g hU hr (hin t Bb) h0 hs
  obtain⟨b1,b2,b3⟩:=ih (fun z hz=>hin z (Av _ hz)) (Dc h0 a1) a2
  refine⟨Dc a1 b1,b2,fun _ S n b e hb hbe he gn=>?_⟩
  cases ts with
  | nil=>
   cases hp
   obtain⟨v,y,hv,hps⟩:=a3 S n b e hb hbe he gn
   exact⟨_,_,by rw[Iq];exact hv,.cons hps .nil⟩
  | cons t2 ts=>
   rw[<-xX h0 a1 b1] at gn
   obtain⟨S1,S2,r1,r2,n1,n2,er,rfl,g1,g2⟩:=gn.split rfl
   obtain⟨m,c1,c2,c3,c4⟩:=zbb hb hbe he er
   rw[<-c3] at g1
   rw[<-c4] at g2
   obtain⟨v1,y1,l1,k1⟩:=a3 S1 n1 b m hb c1 (Dc c2 he) g1
   obtain⟨v2,y2,l2,k2⟩:=b3 (fun z=>nomatch z) S2 n2 m e (Dc hb c1) c2 he g2
   exact⟨_,_,Int.add_le_add l1 l2,.cons k1 k2⟩
theorem zbf(g:cT rs)(hU:∀ r∈rs,∀ t∈(bM r).parts,cH rs t=false->t∈U)(h:dC (eU rs words) B0){f:a7}{x:aJ×Nat×List Int}(e:aH B0 f=some x):QM rs row U words f:=by
 obtain⟨pre,post,hb⟩:=iS e
 refine oE (fun _=>rfl) h (fun f _ _=>QM rs row U words f) (fun r hr b' hb' e' v' y' p=>?_) _ pre (f,x) post rfl hb
 obtain⟨p0,p1⟩:=xS.mp hb'
 obtain⟨a1,a2,a3⟩:=zbe g hU hr p (fun _ h=>h) p0 p1
 refine⟨a1,a2,fun S n b e hb hbe he gn=>?_⟩
 have gn:Gn S (bL row b e) (bL words b' e') n:=gn
 have fin:∀ {v y},PP (PS (bX rs row U) fun f v _=>Cs (bX rs row U) f v) (bM r).parts b e v y->Cs (bX rs row U) (r.name,b,e) v:=fun {v y} p=>by
  have:=tQ (G:=bX rs row U) (fun _=>rfl) (Ba.mpr ⟨r,hr,rfl⟩) (gU.mpr ⟨hb,Dc hbe he⟩) p
  rw[mZ] at this;exact this
 by_cases h0:r.parts=[]
 ·have hg:(bM r).parts=[("" : Str)]:=by unfold bM;rw[if_pos h0]
  rw[h0] at p
  cases p
  rw[zbc] at gn
  refine⟨gD row "" b e + 0,by rw[Iq];exact JP gn,fin (y:=([("",b,e)]:List SI) ++ ([]:List SI)) ?_⟩
  rw[hg]
  exact .cons (.inl ⟨tS g,kC.mpr ⟨hU r hr "" (by rw[hg];exact List.mem_singleton_self _) (tS g),hb,hbe,he,rfl⟩,rfl⟩) .nil
 ·obtain⟨v,y,hv,hp⟩:=a3 h0 S n b e hb hbe he gn
  exact⟨v,hv,fin (y:=y) (by rw[t6 h0];exact hp)⟩
theorem JR:bL row 0 (row.length:Int)=row:=by
 unfold bL
 rw[Cu,Ck];rfl
theorem JS(g:cT rs)(hU:∀ r∈rs,∀ t∈(bM r).parts,cH rs t=false->t∈U)(h0:dC (eU rs words) B0)(h:dC (bX rs row U) B){X:Str}{z:aJ×Nat×List Int}(hz:aH B0 (X,0,(words.length:Int))=some z){S:List dP}{n:Int}(gn:Gn S row words n):∃ x,aH B (X,0,(row.length:Int))=some x/\x.1.1<=n:=by
 obtain⟨_,_,q⟩:=zbf (row:=row) (U:=U) g hU h0 hz
 obtain⟨v,hv,hc⟩:=q S n 0 row.length (Eo _) (Int.natCast_nonneg _) (Eo _) (by
  rw[JR,show bL words (X,(0:Int),(words.length:Int)).2.1 (X,(0:Int),(words.length:Int)).2.2=words from JR];exact gn)
 obtain⟨x,hx,hl⟩:=xU h hc
 exact⟨x,hx,Dc hl hv⟩
theorem zbg(h:dC (bX rs row U) B){f:a7}{x:aJ×Nat×List Int}(e:aH B f=some x):0<=x.1.1:=by
 obtain⟨h1,h2⟩:=yA h e
 rw[h2]
 exact(yQ (xY (row:=row) h1)).2.2.2
theorem zbh{t:Str}{b e:Int}(ht:t≠"")(h0:0<=b)(h1:b<=e)(h2:e<=row.length)(h:gD row t b e=0):e=b + 1/\row[b.toNat]? = some t:=by
 have hl:=t7 h0 h1 h2
 unfold gD at h
 rw[if_neg ht] at h
 by_cases h4:bL row b e=[]
 ·rw[if_pos h4] at h;cases h
 rw[if_neg h4] at h
 by_cases h5:t∈bL row b e
 ·rw[if_pos h5] at h
  obtain⟨x,hx⟩:=List.length_eq_one_iff.mp (show(bL row b e).length=1 by lia)
  rw[hx] at h5
  have:=An.mp h5
  subst this
  have he:e=b + 1:=by lia
  refine⟨he,?_⟩
  have hi:b.toNat < row.length:=by lia
  have:=JQ h0 (Ax hi)
  rw[<-he,hx] at this
  rw[Ax hi,<-(Js this).1]
 ·rw[if_neg h5] at h
  exact absurd (Gp.mp (by lia)) h4
def Q0(rs:List aV)(row:List Str)(f:a7)(v:Int):Prop:=0<=v/\(v=0->Cs (eU rs row) f 0)
theorem zbi(g:cT rs){r:aV}(hr:r∈rs){ts:List Str}{b e v:Int}{y:List SI}(p:PP (PS (bX rs row U) fun f v _=>Q0 rs row f v) ts b e v y):(∀ t∈ts,t∈r.parts)->0<=v/\(v=0->∃ y,PP (PS (eU rs row) fun f v _=>Cs (eU rs row) f v) ts b e 0 y):=by
 induction p with
 | nil=>exact fun _=>⟨Eo _,fun _=>⟨_,.nil⟩⟩
 | @cons t ts b m e u v x y hs hp ih=>
  intro hin
  obtain⟨i1,i2⟩:=ih fun z hz=>hin z (Av _ hz)
  have one:0<=u/\(u=0->∃ x,PS (eU rs row) (fun f v _=>Cs (eU rs row) f v) t b m 0 x):=by
   rcases hs with⟨ho,h2,_⟩ | ⟨ho,h2⟩
   ·obtain⟨_,m1,m2,m3,rfl⟩:=kC.mp h2
    refine⟨xZ,fun z=>?_⟩
    obtain⟨rfl,h3⟩:=zbh (yB (g.pt r hr t (hin t Bb))) m1 m2 m3 z
    exact⟨_,.inl ⟨ho,p6.mpr ⟨m1,h3,rfl,rfl⟩,rfl⟩⟩
   ·exact⟨h2.1,fun z=>⟨[],.inr ⟨ho,h2.2 z⟩⟩⟩
  refine⟨Int.add_nonneg one.1 i1,fun z=>?_⟩
  have:=one.1
  obtain⟨x,hx⟩:=one.2 (by lia)
  obtain⟨y,hy⟩:=i2 (by lia)
  exact⟨_,PP.cons hx hy⟩
theorem zbj(g:cT rs)(h0:dC (eU rs row) B0)(h:dC (bX rs row U) B){f:a7}{x:aJ×Nat×List Int}(e:aH B f=some x)(hx:x.1.1 < 1):∃ z,aH B0 f=some z:=by
 have hq:Q0 rs row f x.1.1:=by
  obtain⟨pre,post,hb⟩:=iS e
  refine oE (fun _=>rfl) h (fun f v _=>Q0 rs row f v) (fun r hr b hb e v y p=>?_) _ pre (f,x) post rfl hb
  obtain⟨r0,hr0,rfl⟩:=Ba.mp hr
  rw[mZ]
  by_cases hn:r0.parts=[]
  ·have hg:(bM r0).parts=[("" : Str)]:=by unfold bM;rw[if_pos hn]
   rw[hg] at p
   cases p with
   | cons hs hp=>
    cases hp
    rcases hs with⟨_,h2,_⟩ | ⟨ho,_⟩
    ·obtain⟨_,m1,m2,m3,rfl⟩:=kC.mp h2
     refine⟨by rw[Iq];exact xZ,fun z=>?_⟩
     have hl:=t7 m1 m2 m3
     rw[Iq] at z
     have z:((bL row b e).length:Int)=0:=z
     have:e=b:=by lia
     subst this
     exact tQ (G:=eU rs row) (fun _=>rfl) hr0 hb (by rw[hn];exact .nil (S:=PS (eU rs row) fun f v _=>Cs (eU rs row) f v))
    ·exact absurd ho (by rw[show(bX rs row U).own "" = cH rs "" from rfl,tS g];exact Ap)
  ·rw[t6 hn] at p
   obtain⟨p1,p2⟩:=zbi g hr0 p fun _ h=>h
   refine⟨p1,fun z=>?_⟩
   obtain⟨y,hy⟩:=p2 z
   exact tQ (G:=eU rs row) (fun _=>rfl) hr0 hb hy
 obtain⟨z,hz,_⟩:=xU h0 (hq.2 (by have:=hq.1;lia))
 exact⟨z,hz⟩
structure m9(row:List Str):Prop where
 wd:∀ t∈row,t∈cI
 few:row.length<=17
def zbk:List (Int×Int):=(dO 17).flatMap fun b=>((dO 17).filter fun e=>decide (b<=e)).map fun e=>(b,e)
theorem zbl(g:cT rs)(h:dC (eU rs row) B){f:a7}(hf:f∈B.map (·.1)):f.1∈eJ/\0<=f.2.1/\f.2.1<=f.2.2/\f.2.2<=row.length:=by
 obtain⟨x,hx⟩:=Cq.mp (gT.mpr hf)
 obtain⟨pre,post,hb⟩:=iS hx
 refine oE (fun _=>rfl) h (fun f _ _=>f.1∈eJ/\0<=f.2.1/\f.2.1<=f.2.2/\f.2.2<=row.length) (fun r hr b hb e v y p=>?_) _ pre (f,x) post rfl hb
 obtain⟨b0,b1⟩:=xS.mp hb
 refine⟨g.nm r hr,b0,?_⟩
 show b<=e/\e<=row.length
 clear hr hb
 generalize r.parts=ps at p
 induction p with
 | nil=>exact⟨Eo _,b1⟩
 | @cons t ts b m e u v x y hs _ ih=>
  have:b<=m/\m<=row.length:=by
   rcases hs with⟨_,h2,_⟩ | ⟨_,h2⟩
   ·obtain⟨m1,m2,rfl,_⟩:=p6.mp h2
    have:=(Ah.mp m2).1
    exact⟨by lia,by lia⟩
   ·exact⟨h2.2.2.1,h2.2.2.2⟩
  obtain⟨i1,i2⟩:=ih (Dc b0 this.1) this.2
  exact⟨Dc this.1 i1,i2⟩
theorem zbm(g:cT rs)(w:m9 row)(h:dC (eU rs row) B):B.length<=2000:=by
 have:=len_sub (b:=eJ.flatMap fun X=>zbk.map fun p=>(X,p.1,p.2)) (HZ h) fun f hf=>by
  obtain⟨h1,h2,h3,h4⟩:=zbl g h hf
  have:=w.few
  refine Fg.mpr ⟨f.1,h1,Ba.mpr ⟨(f.2.1,f.2.2),Fg.mpr ⟨f.2.1,gU.mpr ⟨h2,by lia⟩,Ba.mpr ⟨f.2.2,Dh.mpr ⟨gU.mpr ⟨by lia,by lia⟩,decide_eq_true h3⟩,rfl⟩⟩,rfl⟩⟩
 rw[Aa] at this
 refine Ao this ?_
 decide +kernel
end
end M47
namespace L2
open PySem PySem.Spec PyProof.Rows
def yR(X:Cx)(A:Co)(N':List Str)(qual:Str)(sc:Hc)(f:Addr)(cd:Ae)(cl:List (Str×Addr))(s:Ag)(H:Hp):Cx where
 prog:=X.prog
 w:=X.w
 K:=X.K
 mg:=X.mg
 base:=X.base
 A:=A.deeper (PySem.W.envX qual sc s.heap.objs.size f cd cl)
 N:=N'
 s₀:=s
 H₀:=H
 env:=PySem.W.envX qual sc s.heap.objs.size f cd cl
 outer:=X.stack
 stack:=PySem.W.envX qual sc s.heap.objs.size f cd cl :: X.stack
 ex:=[]
 fn:=fun _=>false
 calm:=true
 pn:=[]
 xe:=fun _ _=>False
end L2
namespace L3
open PySem PySem.Spec PyProof.Rows L2
def BMod(K:Ab)(mg:Str->Option Ae):Prop:=∃ bm o,mg "__builtins__" = some (.ref bm)/\bm≠Lo/\bm≠De/\K.lookup bm=some o/\o.cls=.type "module"/\o.dict=some Lo/\o.data=.plain
section
variable {X:Cx}{a:Expr}{ta tb:aY}{p kp lp pos:Pos}{x y:Str}{sc:Hc}{params:Arguments}{body:Expr}{c P:Addr}{j:Nat}
theorem zbn{pins:List (Addr×Obj)}{σ:SV}{s:Ag}{H:Hp}{M:Mm}{c':Addr}{qual:Str}{lp:Pos}{h':Heap}{tk:Nat}(I:Inv X pins σ H s)(am:AM X.K H M)(hP:H P=some (.ext fun h=>h.get? P=some (Fh (lJ lp none))))(mP:M P=some (.tb lp qual))
  (hx:Lk P s.heap h') (hge:s.heap.objs.size<=c') (hrec:h'.CodeRec (.ref c') qual) (htb:h'.get? P=some (Fh (lJ lp (some c')))) :
  ∃ H2,Inv X pins σ H2 {s with heap:=h',toks:=tk}/\AM X.K H2 M/\Kp H M H2 M/\H2 c'=some (.ext fun h=>h.CodeRec (.ref c') qual)/\M c'=none/\∀ b,s.heap.objs.size<=b->b≠c'->H2 b=none:=by
 have nc:H c'=none:=I.hok.fresh hge
 have hPl:P < s.heap.objs.size:=I.hok.lt hP
 have hcP:c'≠P:=fun e=>absurd (e ▸ hge) (Nat.not_le.mpr hPl)
 have mc:M c'=none:=am.nonM nc
 obtain⟨H2,e2⟩:∃ H2,H2=aR (aR H c' (.ext fun h=>h.CodeRec (.ref c') qual)) P (.ext fun h=>h.get? P=some (Fh (lJ lp (some c')))):=⟨_,rfl⟩
 have aP:H2 P=some (.ext fun h=>h.get? P=some (Fh (lJ lp (some c')))):=by rw[e2,cZ]
 have ac:H2 c'=some (.ext fun h=>h.CodeRec (.ref c') qual):=by rw[e2,bG hcP,cZ]
 have ao:∀ {b:Addr},b≠P->b≠c'->H2 b=H b:=fun {b} h1 h2=>by rw[e2,bG h1,bG h2]
 have nP:∀ {b:Addr} {u:HO},H b=some u->(∀ φ,u≠.ext φ)->b≠P:=fun {b u} e n z=>by rw[z,hP] at e;cases e;exact n _ rfl
 have nz:∀ {b:Addr},H b=none->b≠P:=fun {b} e z=>by rw[z,hP] at e;cases e
 have nq:∀ {b:Addr} {u:HO},H b=some u->b≠c':=fun {b u} e z=>by rw[z,nc] at e;cases e
 have go:Go H M H2 M:=⟨fun b xs e=>by rw[ao (nP e fun _ z=>nomatch z) (nq e)];exact e,fun b o u e=>by rw[ao (nP e fun _ z=>nomatch z) (nq e)];exact e,fun b o n e=>⟨by rw[ao (fun z=>by rw[z,mP] at n;cases n) (nq e)];exact e,n⟩⟩
 refine⟨H2,I.un (h':=h') (t':=tk) ⟨fun b o e n _ _=>hx b o (nz n) e,fun b o e n _ _=>⟨o.slots,hx b o (nz n) e⟩,fun b o e n _=>?_,fun b o e _=>?_,fun b xs e=>go.ht b xs e,fun b o u e=>go.hf b o u e,fun b ps e=>⟨#[],?_⟩⟩ (fun b o e=>?_),fun b o e=>?_,⟨go.hl,fun b o e=>?_⟩,ac,mc,fun b hb n=>?_⟩
 ·rw[ao (nz n) (Bo (Ca (Az e) hge))];exact n
 ·by_cases hb:b=P
  ·exact⟨_,hb ▸ htb⟩
  ·exact⟨o,hx b o hb e⟩
 ·rw[ao (nP e fun _ z=>nomatch z) (nq e),e];simp
 ·by_cases hb:b=P
  ·subst hb
   rw[aP] at e;cases e
   exact⟨htb,⟨_,htb⟩,fun h1 h2 e k=>k _ e⟩
  ·by_cases hc:b=c'
   ·subst hc
    rw[ac] at e;cases e
    obtain⟨c0,oc,vs,t,e0,e1,r⟩:=hrec
    cases e0
    exact⟨⟨_,oc,vs,t,rfl,e1,r⟩,⟨_,e1⟩,fun h1 h2 ⟨c0,oc,vs,t,e0,e1,r⟩ k=>by cases e0;exact⟨_,oc,vs,t,rfl,k _ e1,r⟩⟩
   ·rw[ao hb hc] at e
    refine(I.hok b o e).stay (fun d u hd q=>hx d u ?_ q) (fun d q=>by rw[ao (nP q fun _ z=>nomatch z) (nq q)];exact q) fun d xs q=>go.ht d xs q
    rcases hd with rfl | hd
    ·exact hb
    ·exact nP hd fun _ z=>nomatch z
 ·by_cases hb:b=P
  ·subst hb
   rw[mP] at e;cases e
   exact⟨some c',aP,fun c0 h0=>by cases h0;exact⟨ac,mc⟩⟩
  ·have:=am b o e
   obtain⟨u,hu⟩:=this.has
   exact this.go go (ao hb (nq hu))
 ·obtain⟨u,hu⟩:=(am b o e).has
  by_cases hb:b=P
  ·exact⟨_,hb ▸ aP⟩
  ·exact⟨u,by rw[ao hb (nq hu)];exact hu⟩
 ·rw[ao (fun z=>absurd (z ▸ hb) (Nat.not_le.mpr hPl)) n];exact I.hok.fresh hb
end
end L3
namespace L2
open PySem PySem.Spec PyProof.Rows
def nA(P:Addr)(lp:Pos)(o:Option Addr):HO:=.ext fun h=>h.get? P=some (Fh (L3.lJ lp o))
def t8(P:Addr)(lp:Pos)(H:Hp):Prop:=(∀ b,b≠P->H b=none\/∃ o xs,H b=some (.frz o (.lst xs)))/\H P=some (nA P lp none)
theorem zbo{Pr:Bu}{w:Cm}{K:Ab}{mg mb:Str->Option Ae}{k:Nat}{fa a c P:Addr}{lp:Pos}{fd:Bi}{x:Str}{sp:Sp}{s₁:Ag}{vs:List Ae}{ns:List Int}
  (KX:K.In s₁.heap) (hns:s₁.heap.Ns De mg) (hb:s₁.heap.Ns Lo mb) (hbb:∀ x:Str,x≠"__name__"->mb x=Dv x) (hlim:s₁.heap.NoLimit) (hg:s₁.gens = #[])
  (hP:s₁.heap.get? P=some (Fh #[])) (hC:Ki K c P=true) (hPK:K.lookup P=none)
  (ha:s₁.heap.get? a=some {cls:=.type "list",data:=.seq vs.toArray}) (hi:IntsAre vs ns) (hl:ns.length<=Ak) (hr:cF k callerA)
  (F:∀ base:Heap,K.In base->base.Ns De mg->eV Pr w K mg base e9 k fa fd [x] sp) (hbind:∀ (s:Ag) (u:Ae),BindsTo s fd ⟨[u],[]⟩ [(x,u)])
  (hsp:∀ H:Hp,t8 P lp H->bQ K H a (ns.map V.int)->sp [.ref a] H (fun v H'=>v=.bl true/\∃ o,H' P=some (nA P lp o)) fun _ _ _=>False) :
  Jb (Bq Pr w) callerA (.call (.ref fa) ⟨[.ref a],[]⟩) (fun r s'=>r=.ok (.ret (.bool true))/\OldK s₁.heap s'.heap/\s'.os=s₁.os/\Lr s'.gens) s₁:=by
 have rv:=DY hi
 have lenV:=hi.length
 have aP:a≠P:=fun e=>by rw[e,hP] at ha;cases ha
 have tabOk:∀ H:Hp,c9 Pr w H s₁.heap P (nA P lp none):=fun H=>⟨hP,⟨_,hP⟩,fun h1 h2 e k=>k _ e⟩
 have core:∀ H:Hp,t8 P lp H->bQ K H a (ns.map V.int)->cU Pr w H s₁.heap->(∀ b,H b≠none->b=a\/b=P)->(H a≠none->K.lookup a=none)->
   Jb (Bq Pr w) callerA (.call (.ref fa) ⟨[.ref a],[]⟩) (fun r s'=>r=.ok (.ret (.bool true))/\OldK s₁.heap s'.heap/\s'.os=s₁.os/\Lr s'.gens) s₁:=by
  intro H hO hS hok hA hK
  have base_of:∀ {b:Addr} {o:Obj},s₁.heap.get? b=some o->H b=none->(iK s₁.heap H).get? b=some o:=fun e n=>uK e n
  have noA:∀ {b:Addr} {o:Obj} {es:Array Ho} {ep:Nat},s₁.heap.get? b=some o->o.data=.dict es ep->H b=none:=fun {b o es ep} e d=>by
   cases q:H b with
   | none=>rfl
   | some u=>
    rcases hA b (by rw[q];simp) with e' | e'
    ·subst e'
     rw[ha] at e;cases e
     have d':Data.seq vs.toArray _=Data.dict es ep:=d
     cases d'
    ·subst e'
     rw[hP] at e;cases e
     have d':Data.fields _=Data.dict es ep:=d
     cases d'
  have nsK:∀ {b:Addr} {m:Str->Option Ae},s₁.heap.Ns b m->(iK s₁.heap H).Ns b m:=fun {b m} ⟨o,es,ep,e,d,r⟩=>⟨o,es,ep,base_of e (noA e d),d,r⟩
  have hKb:K.In (iK s₁.heap H):=fun b o e=>base_of (KX b o e) (by
   cases q:H b with
   | none=>rfl
   | some u=>
    rcases hA b (by rw[q];simp) with e' | e'
    ·subst e'
     rw[hK (by rw[q];simp)] at e;cases e
    ·subst e'
     rw[hPK] at e;cases e)
  have hM:Mod K mg (iK s₁.heap H):=⟨hKb,nsK hns,⟨mb,nsK hb,hbb⟩,let ⟨mc,h1,h2⟩:=hlim;⟨mc,nsK h1,h2⟩⟩
  have e0:lB Pr w K mg (iK s₁.heap H) callerA [] s₁ H:=⟨rfl,hM,fun b o e=>CO e,Ez (CN _ _),trivial,fun b hb=>absurd (show b∈([]:List Addr) from hb) (by simp),hok,.of_eq hg⟩
  refine Kf ((F _ hKb (nsK hns)).run callerA [] s₁ H ⟨[.ref a],[]⟩ [.ref a] [.ref a] _ _ hr e0 (hbind s₁ (.ref a)) (.cons rfl .nil) (hsp H hO hS)) fun r s' h=>?_
  cases r with
  | error e=>exact Du h
  | ok fl=>
   cases fl with
   | next=>exact Du h
   | brk=>exact Du h
   | cont=>exact Du h
   | ret u=>
    obtain⟨v,H',os,bare,un,hok',r',q',o',qP⟩:=h
    subst q'
    obtain rfl:u=Value.bool true:=r'
    have kp:∀ b o,b≠P->s₁.heap.get? b=some o->s'.heap.get? b=some o:=fun b o hb e=>by
     cases q:H b with
     | none=>exact un.keep b o e q (by intro z;exact absurd (show b∈([]:List Addr) from z) (by simp)) (by simp)
     | some u=>
      rcases hO.1 b hb with z | ⟨ob,xs,z⟩
      ·rw[q] at z;cases z
      ·have z2:=un.frzs b ob _ z
       obtain⟨e1,_⟩:=hok b _ z
       obtain⟨e2,_⟩:=hok' b _ z2
       rw[e] at e1;cases e1
       exact e2
    have e2:s'.heap.get? P=some (Fh (L3.lJ lp o')):=(hok' P _ qP).1
    refine⟨rfl,⟨fun b o e=>?_,fun b o e=>?_⟩,os,bare⟩
    ·by_cases hb:b=P
     ·subst hb
      rw[hP] at e;cases e
      exact .inr (.inl ⟨((PySem.W.codeHd_of_K KX hC).tab hP).isCodeTable,rfl,#[],L3.lJ lp o',rfl,by rw[Array.empty_append];exact e2⟩)
     ·exact .inl (kp b o hb e)
    ·by_cases hb:b=P
     ·exact⟨_,hb ▸ e2⟩
     ·exact⟨o,kp b o hb e⟩
 cases hk:K.lookup a with
 | some o=>
  have e:=KX a o hk
  rw[ha] at e
  cases e
  refine core (fun b=>if b=P then some (nA P lp none) else none) ⟨fun b hb=>.inl (if_neg hb),if_pos rfl⟩ (.inr ⟨_,vs.toArray,_,hk,rfl,rfl,rfl,by rw[Aw,lenV];exact hl,by simpa using rv⟩) (fun b u z=>?_) (fun b z=>?_) fun z=>absurd (if_neg aP) z
  ·by_cases hb:b=P
   ·subst hb
    cases (if_pos rfl).symm.trans z
    exact tabOk _
   ·cases (if_neg hb).symm.trans z
  ·by_cases hb:b=P
   ·exact .inr hb
   ·exact absurd (if_neg hb) z
 | none=>
  refine core (fun b=>if b=P then some (nA P lp none) else if b=a then some (.frz {cls:=.type "list",data:=.seq vs.toArray} (.lst (ns.map V.int))) else none) ⟨fun b hb=>?_,if_pos rfl⟩ (.inl (.inr ⟨{cls:=.type "list",data:=.seq vs.toArray},(if_neg aP).trans (if_pos rfl)⟩)) (fun b u z=>?_) (fun b z=>?_) fun _=>hk
  ·by_cases hb2:b=a
   ·exact .inr ⟨_,_,(if_neg hb).trans (if_pos hb2)⟩
   ·exact .inl ((if_neg hb).trans (if_neg hb2))
  ·by_cases hb:b=P
   ·subst hb
    cases (if_pos rfl).symm.trans z
    exact tabOk _
   ·have z:=(if_neg hb).symm.trans z
    by_cases hb:b=a
    ·have z':=(if_pos hb).symm.trans z
     cases z'
     subst hb
     exact⟨ha,by rw[Aa];exact hl,vs,_,rv,ha⟩
    ·have z':=(if_neg hb).symm.trans z
     cases z'
  ·by_cases hb:b=P
   ·exact .inr hb
   ·by_cases hb2:b=a
    ·exact .inl hb2
    ·exact absurd ((if_neg hb).trans (if_neg hb2)) z
theorem zbp{l:PySem.W.OpenLaw}{n k:Nat}{q:Bu}{loose:List Str}{XP:(Str->Option Ae)->Heap->Prop}{YP:Cm->Heap->Prop}{d:DefRec}{K:Params->Ab}{sp:Cm->Sp}{x:Str}{c P:Addr}{lp:Pos}
  (hn:l.most=some n) (hn2:n<=Ak) (hdf:d.params.defaults=[]) (hr:cF k callerA)
  (hY:∀ (w:Cm) (h:Heap),YP w h->(K w.params).In h/\h.get? P=some (Fh #[])) (hC:∀ w:Cm,Ki (K w.params) c P=true) (hPK:∀ w:Cm,(K w.params).lookup P=none)
  (F:∀ (w:Cm) (mg:Str->Option Ae) (fa:Addr) (h:Heap),(K w.params).In h->h.Ns De mg->mg d.name=some (.ref fa)->
   ∃ fd:Bi,(∀ (s:Ag) (u:Ae),BindsTo s fd ⟨[u],[]⟩ [(x,u)])/\
    ∀ base:Heap,(K w.params).In base->base.Ns De mg->eV l.prog w (K w.params) mg base e9 k fa fd [x] (sp w))
  (hsp:∀ (w:Cm) (H:Hp) (a:Addr) (ns:List Int),ns.length<=n->t8 P lp H->bQ (K w.params) H a (ns.map V.int)->sp w [.ref a] H (fun v H'=>v=.bl true/\∃ o,H' P=some (nA P lp o)) fun _ _ _=>False) :
  PySem.W.WalkO q loose XP YP l.row.toRowW d [] (fun f vs=>PySem.call f vs):=by
 refine Att.attach_call hn hdf fun w s₀ s₁ mg mb fa o pm cd doc a vs ns G Y ho hd hcd hmg hobj hints hlen hg=>?_
 have KX:=hY w _ Y
 obtain⟨fd,hb,hF⟩:=F w mg fa _ KX.1 G.T.g hmg
 exact zbo KX.1 G.T.g G.T.b G.T.builtins G.T.nolimit hg KX.2 (hC w) (hPK w) hobj hints (Ao hlen hn2) hr hF hb (fun H hO hS=>hsp w H a ns hlen hO hS)
end L2
namespace L3
open PySem PySem.Spec PyProof.Rows L2
variable {K:Ab}
def qG(P:Addr)(lp:Pos)(qual:Str):bH:=fun ws M R=>∃ ns:List Int,ws=[.sc (ns.map W.int)]/\ns.length<=63/\M P=some (.tb lp qual)/\∀ M',M' P=some (.tb lp qual)->R (.bl true) M'
theorem zbq{P:Addr}{lp:Pos}{qual:Str}{H:Hp}{a:Addr}{ns:List Int}(hl:ns.length<=63)(ho:t8 P lp H)(hs:bQ K H a (ns.map V.int)):fV K (qG P lp qual) [.ref a] H (fun v H'=>v=.bl true/\∃ o,H' P=some (nA P lp o)) fun _ _ _=>False:=by
 have hr:kI K H a (ns.map V.int):=by
  rcases hs with(e | ⟨o,e⟩) | e
  ·by_cases hb:a=P
   ·rw[hb,ho.2] at e;cases e
   ·rcases ho.1 a hb with z | ⟨o,xs,z⟩
    ·rw[z] at e;cases e
    ·rw[z] at e;cases e
  ·exact .inl ⟨o,e⟩
  ·exact .inr e
 refine⟨[.sc (ns.map W.int)],fun b=>if b=P then some (.tb lp qual) else none,fun w M'=>w=.bl true/\M' P=some (.tb lp qual),fun b o e=>?_,.cons (.sc hr (aL.int ns)) .nil,⟨ns,rfl,hl,if_pos rfl,fun M' e=>⟨rfl,e⟩⟩,fun v H' w M' _ am av r=>?_⟩
 ·by_cases hb:b=P
  ·subst hb
   cases (if_pos rfl).symm.trans e
   exact⟨none,ho.2,fun c h=>nomatch h⟩
  ·cases (if_neg hb).symm.trans e
 ·obtain⟨rfl,e⟩:=r
  obtain⟨o,e1,_⟩:=am P _ e
  exact⟨av.bl_inv,o,e1⟩
end L3
namespace L2
open PySem PySem.Spec PyProof.Rows
def oJ(base:Heap)(cy:Addr)(v:V):Prop:=∃ u,base.IsCell cy (some u)/\RelV v u
theorem JT{h base base':Heap}:∀ {l:List Env},(∀ b∈f6 l,base'.get? b=none)->h.FunFrames base l->h.FunFrames base' l
 | [],_,_=>trivial
 | env :: l,hb,⟨hk,⟨L,o,hf,hn,ho,hd⟩,hr⟩=>by
  have hL:L∈f6 (env :: l):=by unfold f6;rw[Ea,hf];exact Bb
  exact⟨hk,⟨L,o,hf,hb L hL,ho,hd⟩,JT (fun b hb'=>hb b (by unfold f6;rw[Ea,hf];exact Av _ hb')) hr⟩
section
variable {X:Cx}{pins:List (Addr×Obj)}{σ:St}{H:Hp}{s:Ag}
theorem Inv.envC{y:Str}{cy:Addr}{j:Nat}{v:V}(I:Inv X pins σ H s)(hy:X.env.cells.lookup y=some cy)(hj:X.N[j]? = some y)(hσ:σ[j]? = some (some v))(hk:X.env.scope.names.lookup y=some .cell)(hfn:X.fn y=true) :
  ∃ base,oJ base cy v/\lB X.prog X.w X.K X.mg base X.A X.stack s H:=by
 obtain⟨m,_,hl⟩:=I.loc
 obtain⟨u,ru,q⟩:=hl j y v hj hσ (.inr (.inl hk))
 obtain⟨o,ho,hd⟩:s.heap.IsCell cy (some u):=by
  rcases q with⟨e,_⟩ | ⟨_,c2,e,q⟩
  ·rw[show X.env.kindOf y=some .cell from hk] at e;cases e
  ·rw[hy] at e;cases e;exact q
 obtain⟨Hh,eH⟩:∃ Hh:Hp,Hh=fun b=>if (X.base.get? b).isSome=true\/b=cy then none else some (.tup []):=⟨_,rfl⟩
 have inB:∀ b o,X.base.get? b=some o->(iK s.heap Hh).get? b=some o:=fun b o e=>uK (I.bk b o e) (by rw[eH];exact if_pos (.inl (by rw[e];rfl)))
 have ofB:∀ b o,(iK s.heap Hh).get? b=some o->s.heap.get? b=some o/\((∃ o',X.base.get? b=some o')\/b=cy):=fun b o e=>by
  obtain⟨e1,e2⟩:=CO e
  rw[eH] at e2
  refine⟨e1,?_⟩
  by_cases z:(X.base.get? b).isSome=true\/b=cy
  ·exact z.imp Cq.mp id
  ·cases (if_neg z).symm.trans e2
 have E:=I.env0
 refine⟨iK s.heap Hh,⟨u,⟨o,uK ho (by rw[eH];exact if_pos (.inr rfl)),hd⟩,ru⟩,E.frames,⟨E.mod.kin.keeps inB,E.mod.glob.keeps inB,let ⟨mb,h1,h2⟩:=E.mod.blt;⟨mb,h1.keeps inB,h2⟩,E.mod.nolimit.keeps inB⟩,fun b o' e=>?_,Ez (CN _ _),JT (fun b hb=>?_) E.funs,E.frf,E.hok,E.bare⟩
 ·obtain⟨e1,e2⟩:=ofB b o' e
  refine⟨e1,?_⟩
  rcases e2 with⟨o2,e2⟩ | rfl
  ·exact(I.bs b o2 e2).2
  ·exact I.freeC y _ hy
 ·cases q:(iK s.heap Hh).get? b with
  | none=>rfl
  | some o'=>
   obtain⟨_,e2⟩:=ofB b o' q
   rcases e2 with⟨o2,e2⟩ | rfl
   ·obtain⟨hn,_⟩:=E.funs.mem hb
    rw[e2] at hn;cases hn
   ·rcases Ay.mp (I.stkSub b hb) with e | hb'
    ·exact absurd e (I.cne y b hy)
    ·obtain⟨_,o3,ho3,_⟩:=I.ok.funs.mem hb'
     exact absurd (Az ho3) (Nat.not_lt.mpr (I.ok.cab y b hfn hy))
structure t9(a b c y g:Str)(sc:Hc):Prop where
 kind:sc.kind=.function
 co:sc.isCoroutine=false
 gen:sc.isGenerator=false
 nm:sc.names=[(a,.local),(b,.local),(c,.local),(y,.free),(g,.globalImplicit)]
 ba:(b == a)=false
 ca:(c == a)=false
 cb:(c == b)=false
 ya:(y == a)=false
 yb:(y == b)=false
 yc:(y == c)=false
 ac:(a == c)=false
 ab:(a == b)=false
 bc:(b == c)=false
theorem zbr{A:Co}{k:Nat}{a b c y g:Str}{sc:Hc}{f c' cy:Addr}{qual:Str}{params:Arguments}{body:Expr}{pm ctv:Ae}{v1 v2 v3 v:V}{u1 u2 u3:Ae}{Q:VK}{t:TE}
  (I:Inv X pins σ H s) (hfr:A.frames=some X.stack) (hr:cF k A) (S:t9 a b c y g sc) (hc:oJ X.base cy v)
  (hf:s.heap.get? f=some (Hw "<lambda>" qual params body sc [(y,cy)] pm c' ctv)) (hcd:s.heap.CodeRec (.ref c') qual)
  (hb:bindArgs (PySem.W.kla_fn "<lambda>" qual params body sc [(y,cy)] pm (.ref c') ctv) ⟨[u1,u2,u3],[]⟩=pure [(a,u1),(b,u2),(c,u3)]) (r1:RelV v1 u1) (r2:RelV v2 u2) (r3:RelV v3 u3)
  (ht:PE (yR X A [a,b,c,y] qual sc f (.ref c') [(y,cy)] s H) body t) (h:t [some v1,some v2,some v3,some v] H Q) :
  Jb (Bq X.prog X.w) A (.call (.ref f) ⟨[u1,u2,u3],[]⟩) (CR e9 X.stack X.prog X.w H s Q E0) s:=by
 have cy':∀ z d,([(y,cy)]:List (Str×Addr)).lookup z=some d->z=y/\d=cy:=fun z d e=>by
  cases An.mp (Es e);exact⟨rfl,rfl⟩
 have la:sc.names.lookup a=some .local:=by rw[S.nm,Br,beq_self_eq_true]
 have lb:sc.names.lookup b=some .local:=by rw[S.nm,Br,S.ba,Br,beq_self_eq_true]
 have lc:sc.names.lookup c=some .local:=by rw[S.nm,Br,S.ca,Br,S.cb,Br,beq_self_eq_true]
 have ly:sc.names.lookup y=some .free:=by rw[S.nm,Br,S.ya,Br,S.yb,Br,S.yc,Br,beq_self_eq_true]
 have lf:∀ z n,sc.names.lookup z=some n->n=.cell\/n=.free->z=y/\n=.free:=fun z n e hn=>by
  rw[S.nm] at e
  rcases Ay.mp (Es e) with e | e
  ·cases e;rcases hn with z | z <;> cases z
  rcases Ay.mp e with e | e
  ·cases e;rcases hn with z | z <;> cases z
  rcases Ay.mp e with e | e
  ·cases e;rcases hn with z | z <;> cases z
  rcases Ay.mp e with e | e
  ·cases e;exact⟨rfl,rfl⟩
  ·cases An.mp e;rcases hn with z | z <;> cases z
 obtain⟨u,⟨oc,hoc,hdc⟩,ru⟩:=hc
 refine PySem.W.kla_callFunE hr.depth hf rfl S.co S.gen rfl hcd ?_
 rw[hb]
 refine Am (wpAny_newFunctionEnv (fun z hz=>?_) (fun z hz=>?_) (fun h1 hns hsb=>?_) S.kind)
 ·rw[S.nm] at hz
  rcases Ay.mp hz with rfl | hz
  ·exact fun e=>nomatch e
  rcases Ay.mp hz with rfl | hz
  ·exact fun e=>nomatch e
  rcases Ay.mp hz with rfl | hz
  ·exact fun e=>nomatch e
  rcases Ay.mp hz with rfl | hz
  ·exact fun e=>nomatch e
  ·rw[An.mp hz];exact fun e=>nomatch e
 ·rcases Ay.mp hz with rfl | hz
  ·exact la
  rcases Ay.mp hz with rfl | hz
  ·exact lb
  ·rw[An.mp hz];exact lc
 ·have hk:∀ b o,s.heap.get? b=some o->h1.get? b=some o:=fun b o e=>hsb.extBut b o (Bo (Az e)) (Aj _ e)
  refine⟨I.nolimit.keeps hk,?_⟩
  show Jb _ _ (.expr body (PySem.W.envX qual sc s.heap.objs.size f (.ref c') [(y,cy)])) _ _
  refine PySem.W.kla_codeExpr ?_
  have J:Inv (yR X A [a,b,c,y] qual sc f (.ref c') [(y,cy)] s H) [] [some v1,some v2,some v3,some v] H {s with heap:=h1,toks:=s.toks + 3}:=by
   refine⟨⟨I.ok.mod,S.kind,rfl,rfl,Ai _,fun z z' d e1 e2=>(cy' z d e1).1.trans (cy' z' d e2).1.symm,fun z hz=>?_,(fun z d e _=>nomatch e),fun _=>hr.hd,Around.frames_deeper hfr,.inr ⟨rfl,rfl⟩,(fun b z=>nomatch z),I.bs,Ao I.ok.bsz I.sz,(fun b _ _ z=>nomatch z),(fun b z=>nomatch z),I.stack,I.stkFree⟩,
    rfl,I.bare,Un.kept hk,⟨_,hns,fun i z v' h1 h2 h3=>?_⟩,fun z d e=>?_,I.hok.fresh (Ai _),fun z d e=>?_,(fun p hp=>nomatch hp),I.hok.kept hk,rfl⟩
   ·have hz:sc.names.lookup z=some .cell\/sc.names.lookup z=some .free:=hz
    have:=hz.elim (fun e=>(lf z _ e (.inl rfl)).1) fun e=>(lf z _ e (.inr rfl)).1
    exact⟨cy,by show([(y,cy)]:List (Str×Addr)).lookup z=_;rw[this,Br,beq_self_eq_true]⟩
   ·match i,h1,h2 with
    | 0,h1,h2=>
     cases (show some a=some z from h1)
     cases (show some (some v1)=some (some v') from h2)
     exact⟨u1,r1,.inl ⟨la,by show Bz a [(c,u3),(b,u2),(a,u1)]=_;rw[Br,S.ac,Br,S.ab,Br,beq_self_eq_true]⟩⟩
    | 1,h1,h2=>
     cases (show some b=some z from h1)
     cases (show some (some v2)=some (some v') from h2)
     exact⟨u2,r2,.inl ⟨lb,by show Bz b [(c,u3),(b,u2),(a,u1)]=_;rw[Br,S.bc,Br,beq_self_eq_true]⟩⟩
    | 2,h1,h2=>
     cases (show some c=some z from h1)
     cases (show some (some v3)=some (some v') from h2)
     exact⟨u3,r3,.inl ⟨lc,by show Bz c [(c,u3),(b,u2),(a,u1)]=_;rw[Br,beq_self_eq_true]⟩⟩
    | 3,h1,h2=>
     cases (show some y=some z from h1)
     cases (show some (some v)=some (some v') from h2)
     exact⟨u,ru,.inr ⟨.inr ly,cy,by show Bz y [(y,cy)]=_;rw[Br,beq_self_eq_true],oc,hk _ _ (I.bk _ _ hoc),hdc⟩⟩
    | i + 4,h1,h2=>exact nomatch h1
   ·obtain⟨_,rfl⟩:=cy' z d e
    exact⟨_,oc,hk _ _ (I.bk _ _ hoc),hdc⟩
   ·obtain⟨_,rfl⟩:=cy' z d e
    exact(I.bs _ _ hoc).2
  exact He (ht [] _ _ H Q J h) (fun u' s' ⟨v',H',J',rv',q⟩=>⟨v',H',J'.os,J'.bare,J'.base,J'.hok,rv',q⟩) fun _ _ z=>z.elim
end
end L2
namespace L3
open PySem PySem.Spec PyProof.Rows L2
theorem yS{M:Mm}{f:Addr}:Sub (del M f) M:=fun a o e=>by
 by_cases h:a=f
 ·rw[h,mJ] at e;cases e
 ·rwa [nG h] at e
section
variable {X:Cx}{i j k n:Nat}{P c cy f0:Addr}{lp p pos:Pos}{L:mI}{x y:Str}{e:Expr}{es:List Expr}{t:dE}{tb:aY}{v:V}
def JU(P:Addr)(lp:Pos)(L:mI)(cy:Addr):aY:=fun _ M R=>M P=some (.tb lp L.qual)/\∀ f,M f=none->R (.ref f) (put M f (.cl L cy .non .non))
theorem zbs{a b d g:Str}(hbm:BMod X.K X.mg)(hcode:X.env.code=.ref c)(hcd:Ki X.K c P=true)(hq:X.env.qual ++ "<lambda>" = L.qual)(hcy:X.env.cells.lookup L.y=some cy)(S:t9 a b d L.y g L.sc)
  (hdef:defaultsOf L.params X.env=([],[]):=by rfl):E3 X (.Lambda L.params L.body L.sc lp) (JU P lp L cy):=by
 obtain⟨qual,y,params,body,sc⟩:=L
 cases hq
 rintro pins s σ H Q I ⟨τ,M,R,as,am,⟨mP,h⟩,k⟩
 obtain⟨o,hP,ho⟩:=am P _ mP
 have hPo:=(I.hok P _ hP).1
 have hcl:closureFor sc X.env=pure [(y,cy)]:=by
  rw[u5 (fun z hz hk=>by
   rw[S.nm] at hz
   rcases Ay.mp hz with rfl | hz
   ·cases hk
   rcases Ay.mp hz with rfl | hz
   ·cases hk
   rcases Ay.mp hz with rfl | hz
   ·cases hk
   rcases Ay.mp hz with rfl | hz
   ·exact⟨cy,hcy⟩
   ·rw[An.mp hz] at hk;cases hk),S.nm]
  show pure [(y,(X.env.cells.lookup y).getD 0)]=_
  rw[show X.env.cells.lookup y=some cy from hcy];rfl
 have hgl:s.heap.Ns De X.mg:=I.ok.mod.glob.keeps I.bk
 have none_of:∀ {b o},X.base.get? b=some o->b≠P:=fun {b o} e z=>by
  have:=(I.bs b o e).2
  rw[z,hP] at this;cases this
 have hgP:De≠P:=by
  obtain⟨o,es,ep,e,_⟩:=I.ok.mod.glob
  exact none_of e
 have hba:s.heap.BuiltinsAt X.mg P:=by
  obtain⟨bm,ob,b1,b2,b3,b4,b5,b6,b7⟩:=hbm
  exact⟨bm,ob,b1,b2,b3,none_of (I.ok.mod.kin bm ob b4),I.kIn bm ob b4,b5,b6,b7⟩
 have C:PySem.W.CodeHd s.heap c P:=PySem.W.codeHd_of_K I.kIn hcd
 have fin:∀ (h':Heap) (tk:Nat) (H2:Hp) (c':Addr) (pm ctv:Ae),Inv X pins σ H2 {s with heap:=h',toks:=tk}->AM X.K H2 M->Kp H M H2 M->H2 c'=some (.ext fun h=>h.CodeRec (.ref c') (X.env.qual ++ "<lambda>"))->M c'=none->H2 h'.objs.size=none->
   EP X pins σ Q (.ref h'.objs.size) {s with heap:=h'.push (Hw "<lambda>" (X.env.qual ++ "<lambda>") params body sc [(y,cy)] pm c' ctv),toks:=tk}:=fun h' tk H2 c' pm ctv I2 am2 k2 hc' mc hn=>by
  have I3:=I2.laid (a:=h'.objs.size) (o:=.ext fun h=>h.get? h'.objs.size=some (Hw "<lambda>" (X.env.qual ++ "<lambda>") params body sc [(y,cy)] pm c' ctv)) (h':=h'.push (Hw "<lambda>" (X.env.qual ++ "<lambda>") params body sc [(y,cy)] pm c' ctv)) (t':=tk) (fun b o e=>Aj _ e) (Ai _) ⟨Bd _ rfl,⟨_,Bd _ rfl⟩,fun h1 h2 e k=>k _ e⟩
  have hne:c'≠h'.objs.size:=fun e=>by rw[e,hn] at hc';cases hc'
  obtain⟨am3,k3⟩:=am2.laid (o:=.cl ⟨X.env.qual ++ "<lambda>",y,params,body,sc⟩ cy .non .non) (u:=.ext fun h=>h.get? h'.objs.size=some (Hw "<lambda>" (X.env.qual ++ "<lambda>") params body sc [(y,cy)] pm c' ctv)) hn ⟨c',pm,ctv,cZ,⟨by rw[bG hne];exact hc',by rw[aQ hne];exact mc⟩,.non⟩
  exact⟨.ref _,_,I3,rfl,k _ _ _ _ (k2.trans k3) am3 (.ref _) (h _ (am2.nonM hn))⟩
 cases o with
 | none=>
  refine PySem.W.kla_eval hdef (PySem.W.kla_makeFunction hcl I.ok.glob hgl hcode C hPo trivial rfl hgP hba fun c' ctv h' tk hx hge hlt hrec htb=>?_)
  obtain⟨H2,I2,am2,k2,hc',mc,hfr⟩:=zbn (tk:=tk) I am hP mP hx hge hrec htb
  exact fin h' tk H2 c' _ ctv I2 am2 k2 hc' mc (hfr _ (Ao hge (Fv hlt)) (Fu hlt))
 | some c'=>
  obtain⟨hc',mc⟩:=ho c' rfl
  refine PySem.W.kla_eval hdef (PySem.W.kla_makeFunctionHit (cv:=.ref c') hcl I.ok.glob hgl hcode C hPo trivial (codeAmong_snoc [] trivial rfl) hba fun ctv h' tk hk hsz=>?_)
  exact fin h' tk H c' _ ctv (I.kept (t':=tk) hk) am (Kp.refl am) hc' mc (I.hok.fresh hsz)
def JV(cy:Addr)(j:Nat)(sp:Addr->V->bH)(t:dE):aY:=fun τ M R=>t τ M fun ws M1=>∃ (f:Addr) (L:mI) (v0:V) (b0 b:W),τ[j]? = some (some b)/\M1 f=some (.cl L cy v0 b0)/\∀ v,sp cy v ws (put M1 f (.cl L cy v b)) fun w M2=>R w (del M2 f)
theorem zbt{sp:Addr->V->bH}{fd:Bi}{ps:List Str}(F:∀ base v,oJ base cy v->eV X.prog X.w X.K X.mg base e9 k f0 fd ps (fV X.K (sp cy v)))(hr:cF n X.A)(hm:X.mg x=some (.ref f0))(hk:Eb X.K (.ref f0)=true)(hb:Binds X.K fd ps [])
  (ha:A3 X (e :: es) t) (hcy:X.env.cells.lookup y=some cy) (hyk:X.env.scope.names.lookup y=some .cell) (hfn:X.fn y=true) (hn:k<=n:=by decide) (hj:X.N[j]? = some y:=by rfl) (hg:Gl X x:=by rfl) (hdb:(x == ("__debug__" : Str))=false:=by decide)
  (he:Bg (e :: es) X.env=(false,eval e X.env) :: Bg es X.env:=by rfl) (hpl:(Gf pos (Bg es X.env)).any (·.1)=false:=by rfl) :
  E3 X (.Call (.Name x p) (e :: es) [] pos) (JV cy j sp t):=by
 rintro pins s σ H Q I ⟨τ,M,R,as,am,h,kk⟩
 refine Dg (oQ I hg hm ?_ hdb)
 refine Hy (h₀:=X.base) I.ok.mod.kin hk (a8 (ha pos pins s σ H (fun vs H1=>∃ ws M1,Kp H M H1 M1/\AM X.K H1 M1/\aL X.K H1 M1 vs ws/\∃ (f:Addr) (L:mI) (v0:V) (b0 b:W),τ[j]? = some (some b)/\M1 f=some (.cl L cy v0 b0)/\∀ v,sp cy v ws (put M1 f (.cl L cy v b)) fun w M2=>R w (del M2 f)) I ⟨τ,M,_,as,am,h,fun vs H1 ws M1 k1 am1 ax r=>⟨ws,M1,k1,am1,ax,r⟩⟩) fun us s1 ⟨vs,H1,I1,r,ws,M1,k1,am1,ax,f,L,v0,b0,b,ej,mf,hsp⟩=>⟨I1.kIn,?_⟩) he hpl
 obtain⟨v,eσ,av⟩:=(as.kp am k1).get ej
 obtain⟨base,hc,E1⟩:=I1.envC hcy hj eσ hyk hfn
 have ne:∀ {b:Addr},M1 b=none->b≠f:=fun {b} e z=>by rw[z,mf] at e;cases e
 have g:Go H1 M1 H1 (put M1 f (.cl L cy v b)):=⟨fun _ _ e=>e,fun _ _ _ e=>e,fun b o n e=>⟨e,by rw[aQ (ne n)];exact n⟩⟩
 have kr:Kp H1 M1 H1 (put M1 f (.cl L cy v b)):=⟨g.hl,fun a o e=>(am1 a o e).has⟩
 have am2:AM X.K H1 (put M1 f (.cl L cy v b)):=fun a o e=>by
  by_cases ha:a=f
  ·subst ha
   rw[aT] at e;cases e
   obtain⟨c,pm,ct,e1,z,q⟩:=am1 _ _ mf
   exact⟨c,pm,ct,e1,⟨z.1,by rw[aQ (ne z.2)];exact z.2⟩,av.go g⟩
  ·rw[aQ ha] at e
   exact(am1 a o e).go g rfl
 have sp2:fV X.K (sp cy v) vs H1 Q E0:=⟨ws,_,_,am2,ax.go g,hsp v,fun v' H' w M2 k2 am3 av3 r3=>kk v' H' w (del M2 f) (((k1.trans kr).trans k2).sub yS) (am3.sub yS) (av3.sub yS) r3⟩
 have F1:=F base v hc
 have hl:us.length=ps.length:=by rw[<-r.length];exact F1.len _ _ _ _ sp2
 have hb2:=hb s1 us I1.kIn (by rw[Ct];exact hl)
 rw[Ct] at hb2
 refine wpAny_call (Kf (F1.run X.A X.stack s1 H1 ⟨us,[]⟩ us vs Q E0 (hr.mono hn) E1 hb2 r sp2) fun r s' hq=>?_)
 cases r with
 | error e=>exact lI pins σ H1 s1 e s' I1 hq
 | ok fl=>
  cases fl with
  | ret u=>exact I1.after hq
  | next=>exact Du hq
  | brk=>exact Du hq
  | cont=>exact Du hq
def JW(i:Nat)(L:mI)(cy:Addr)(v:V)(t:dE)(tb:aY):aY:=fun τ M R=>∃ (f:Addr) (b0:W),τ[i]? = some (some (.ref f))/\M f=some (.cl L cy v b0)/\t τ M fun ws M1=>∃ b w1 w2 w3:W,ws=[w1,w2,w3]/\M1 f=some (.cl L cy v b)/\tb [some w1,some w2,some w3,some b] M1 R
theorem zbu{a b' d g:Str}(hc:oJ X.base cy v)(S:t9 a b' d L.y g L.sc)(hr:cF k X.A)(hbd:∀ (A:Co) (f:Addr) (cd:Ae) (cl:List (Str×Addr)) (s:Ag) (H:Hp),cF k A->E3 (yR X A [a,b',d,L.y] L.qual L.sc f cd cl s H) L.body tb)(ha:A3 X (e :: es) t)
  (hbind:∀ (pm:Ae) (c':Addr) (ctv u1 u2 u3:Ae),bindArgs (PySem.W.kla_fn "<lambda>" L.qual L.params L.body L.sc [(L.y,cy)] pm (.ref c') ctv) ⟨[u1,u2,u3],[]⟩=pure [(a,u1),(b',u2),(d,u3)]:=by intros;rfl)
  (hN:X.N[i]? = some x:=by rfl) (hv:oP X.env.scope x:=by first | exact Or.inl rfl | exact Or.inr (Or.inl rfl) | exact Or.inr (Or.inr rfl)) (hd:(x == ("__debug__" : Str))=false:=by decide)
  (hcd:(x == ("__classdict__" : Str))=false:=by decide) (he:Bg (e :: es) X.env=(false,eval e X.env) :: Bg es X.env:=by rfl) (hpl:(Gf pos (Bg es X.env)).any (·.1)=false:=by rfl) :
  E3 X (.Call (.Name x p) (e :: es) [] pos) (JW i L cy v t tb):=by
 rintro pins s σ H Q I ⟨τ,M,R,as,am,⟨f,b0,ef,mf,h⟩,kk⟩
 obtain⟨vf,e1,avf⟩:=as.get ef
 refine Dg (a8 (uL (pos:=p) hN hv hd hcd pins s σ H (fun w H'=>w=.ref f/\H'=H) I ⟨vf,e1,avf.inv,rfl⟩) fun u s1 ⟨w,H1,I1,r1,ew,eH⟩=>?_)
 subst ew eH
 cases r1
 have fnAt:∀ {s:Ag} {H:Hp} {M:Mm} {b:W},Inv X pins σ H s->AM X.K H M->M f=some (.cl L cy v b)->PySem.W.FnAt f s.heap:=fun {s H M b} I am m=>by
  obtain⟨c,pm,ct,e1,_⟩:=am f _ m
  exact⟨_,_,_,_,(I.hok f _ e1).1⟩
 refine PySem.W.callWith_F (first:=[]) (fnAt I1 am mf) (a8 (ha pos pins s1 σ H1 (fun vs H2=>∃ ws M1,Kp H1 M H2 M1/\AM X.K H2 M1/\aL X.K H2 M1 vs ws/\∃ b w1 w2 w3:W,ws=[w1,w2,w3]/\M1 f=some (.cl L cy v b)/\tb [some w1,some w2,some w3,some b] M1 R) I1 ⟨τ,M,_,as,am,h,fun vs H2 ws M1 k1 am1 ax r=>⟨ws,M1,k1,am1,ax,r⟩⟩) fun us s2 ⟨vs,H2,I2,r,ws,M1,k1,am1,ax,b,w1,w2,w3,ew,mf1,h1⟩=>⟨fnAt I2 am1 mf1,?_⟩) he hpl
 subst ew
 obtain⟨c,pm,ct,o1,z,av⟩:=am1 f _ mf1
 cases ax with
 | @cons v1 _ _ _ a1 ax=>
 cases ax with
 | @cons v2 _ _ _ a2 ax=>
 cases ax with
 | @cons v3 _ _ _ a3 ax=>
 cases ax
 cases r with
 | @cons _ u1 _ _ r1 r=>
 cases r with
 | @cons _ u2 _ _ r2 r=>
 cases r with
 | @cons _ u3 _ _ r3 r=>
 cases r
 refine wpAny_call (Kf (zbr (A:=X.A) (Q:=Q) I2 I2.ok.frames hr S hc (I2.hok f _ o1).1 (I2.hok c _ z.1).1 (hbind pm c ct u1 u2 u3) r1 r2 r3 (hbd _ _ _ _ _ _ hr) ⟨[some w1,some w2,some w3,some b],M1,R,.cons (fun _ e=>⟨v1,rfl,by cases e;exact a1⟩) (.cons (fun _ e=>⟨v2,rfl,by cases e;exact a2⟩) (.cons (fun _ e=>⟨v3,rfl,by cases e;exact a3⟩) (.cons (fun _ e=>⟨v,rfl,by cases e;exact av⟩) .nil))),am1,h1,fun v' H' w' M' k' am' av' r'=>kk v' H' w' M' (k1.trans k') am' av' r'⟩) fun r s' hq=>?_)
 cases r with
 | error e=>exact lI pins σ H2 s2 e s' I2 hq
 | ok fl=>
  cases fl with
  | ret u=>exact I2.after hq
  | next=>exact Du hq
  | brk=>exact Du hq
  | cont=>exact Du hq
end
def JX:W->List W->Mm->K3->Prop
 | .rl ws,[.str t],M,R=>∃ ts:List Str,ws=ts.map W.str/\t∈ts/\ts.length<=1000/\R (.int (ts.idxOf t:Nat)) M
 | _,_,_,_=>False
def JY(t:Str):Ae->Bool
 | .str z _=>z == t
 | _=>false
section
variable {X:Cx}
theorem zbv:iX X "list.index" (jW X.K JX):=by
 rintro pins s σ H x xs v us Q I rx rs ⟨wx,ws,M,R,am,ax,axs,h,k⟩
 match wx,ws,h with
 | .rl ws,[.str t],h=>
  obtain⟨ts,rfl,ht,hl,r⟩:=h
  obtain⟨z,rfl,az⟩:=axs.one
  obtain rfl:=az.inv
  obtain⟨u,rfl,ru⟩:=rs.one
  obtain⟨tok,rfl⟩:=ru
  cases ax with
  | @rl l vs _ e n q=>
   cases rx
   obtain⟨hz,its,n,rel,oM⟩:=I.hok l _ e
   have hit:∀ {i:Nat} {y:Str},ts[i]? = some y->∃ tk,its[i]? = some (.str y tk):=fun {i y} hy=>by
    obtain⟨v,h1,h2⟩:=q.getW (i:=i) (w:=.str y) (by rw[Au,hy];rfl)
    obtain rfl:=h2.inv
    obtain⟨u,h3,tk,rfl⟩:=rel.get h1
    exact⟨tk,h3⟩
   have hlen:its.length=ts.length:=by rw[<-rel.length,q.length,Aa]
   have at_:∀ (m:Nat) (hm:m < its.toArray.size),∃ hm':m < ts.length,JY t its.toArray[m]=(ts[m] == t):=fun m hm=>by
    have hm':m < ts.length:=by rw[Aw] at hm;lia
    obtain⟨tk,h⟩:=hit (Ax hm')
    refine⟨hm',?_⟩
    have:its.toArray[m]=.str ts[m] tk:=by
     rw[List.getElem_toArray]
     exact(Ah.mp h).2
    rw[this];rfl
   have hj:=List.idxOf_lt_length_iff.mpr ht
   refine Jn F.slot_list_index ⟨_,oM,rfl⟩ F.entry_list_index (F.args_list_index_2 _ _) (MeetsSeq.list_index l its.toArray n (.str t tok) (JY t) (fun y hy=>?_) (ts.idxOf t) (by rw[Aw];lia) (by lia) ?_ fun m hm hlt=>?_) ⟨oM,?_⟩
   ·obtain⟨m,hm,rfl⟩:=Array.mem_iff_getElem.mp hy
    have hm':m < ts.length:=by rw[Aw] at hm;lia
    obtain⟨tk,h⟩:=hit (Ax hm')
    have:its.toArray[m]=.str ts[m] tk:=by
     rw[List.getElem_toArray]
     exact(Ah.mp h).2
    rw[this]
    show MeetsSeq.EqGives _ _ (ts[m] == t)
    rw[<-SeqAt.str_beq]
    exact SeqRoads2.EqGives.str ts[m] t tk tok
   ·obtain⟨h1,h2⟩:=at_ (ts.idxOf t) (by rw[Aw];lia)
    rw[h2,List.getElem_idxOf];exact beq_self_eq_true t
   ·obtain⟨h1,h2⟩:=at_ m hm
    rw[h2]
    exact List.not_of_lt_findIdx hlt
   ·exact⟨.int _,H,I.kept (h':=s.heap) (t':=s.toks + 1) fun _ _ e=>e,⟨_,rfl⟩,k.at am (.int _) r⟩
end
end L3
namespace PySem
namespace Rw
open PyProof.Rows L2 PySem.Spec
section
variable {prog:Bu}{w:Cm}{A:Co}{E:Ae->Ag->Prop}{s:Ag}
theorem zbw:typeLookup (.type "list_reverseiterator") "__len__" = pure none:=by rw[typeLookup_type,Lw];kernel_rfl
theorem zbx:typeLookup (.type "list_reverseiterator") "__length_hint__" = pure (some (.builtin "list_reverseiterator.__length_hint__")):=by rw[typeLookup_type,Lw];kernel_rfl
theorem zby{r l:Addr}{i:Int}{Q:Bool->Ag->Prop}(hr:s.heap.IsRevIter r l i)(h:Q false s):Bh (Bq prog w) A (Builtin.List.listLengthHint (.ref r)) Q E s:=by
 unfold Builtin.List.listLengthHint
 refine Ac (wpAny_specialOf hr.typeIs zbw ?_)
 try dsimp only
 rw[if_neg (by decide)]
 rw[if_neg (by decide)]
 refine Ac (wpAny_specialOf hr.typeIs zbx ?_)
 generalize hid:("list_reverseiterator.__length_hint__" : String)=id0
 try dsimp only
 rw[show splitId id0=some ("list_reverseiterator","__length_hint__") from by subst hid;decide +kernel]
 subst hid
 refine Ac (Ld (T:="list_reverseiterator") (b:=true) hr.typeIs (by rw[isSubtype_type];kernel_rfl) ?_)
 try dsimp only
 rw[if_neg (by decide)]
 rw[if_pos (by decide +kernel)]
 rw[if_neg (by decide)]
 exact Am h
theorem zbz{R:Result->Ag->Prop}{S r t:Addr}{items:Array Ae}{c₀:Nat}(hh:A.handled=none)(hr:s.heap.IsRevIter r t ((items.size:Int) - 1))(ht:s.heap.IsList t items)(hz:items.size<=Ak)
  (hSr:S≠r) (hSt:S≠t) (htr:t≠r) (hS:s.heap.get? S=some {cls:=.type "list",data:=.seq #[] c₀})
  (hR:∀ h' tk acc' c',(∀ b o,b≠S->b≠r->s.heap.get? b=some o->h'.get? b=some o)->h'.get? S=some {cls:=.type "list",dict:=none,data:=.seq acc' c',slots:=#[]}->ItemsOf (fun i v=>items[items.size - 1 - i]? = some v) acc' items.size->R (.ok (.ret .none)) {s with heap:=h',toks:=tk}) :
  Bh (Bq prog w) A.in1 (Iv (.ref S) (.ref r) .none)
   (fun fin s'=>match fin with | .done f=>R (.ok f) s' | .again c'=>c'.quiet=true/\Jb (Bq prog w) A c' R s') (fun e s'=>R (.error e) s') s:=by
 have W:=Walks.listRev (prog:=prog) (w:=w) (A:=A.in1) hh r t htr items
 have hSf:S∉[r,t]:=by simp[hSr,hSt]
 unfold Iv
 refine Ac (wpAny_typeOf (T:="list_reverseiterator") hr.typeIs ?_)
 rw[if_neg (by simp[Builtin.List.listSameRef,hSr])]
 refine Ac (wpAny_pyIter_revIter hr (Ac (Dq (zby hr ?_))))
 refine wpAny_ite_split (fun hab=>absurd hab (by decide)) (fun _=>Am ⟨plainId_quiet PySem.F.plain_extend_loop _,?_⟩)
 refine codeAny_extend_loopS W.toS hz S hSf .none items.size 0 _ #[] c₀ rfl (Cd _) ⟨Cd _,by simpa using hr,ht⟩ hS (ItemsOf.nil _) fun s' acc' c' hm hS' hacc=>?_
 rw[Moved.eq_with hm]
 exact hR s'.heap s'.toks acc' c' (fun b o hb hbr e=>hm.heap b o (by simp[hb,hbr]) e) hS' hacc
theorem list_rev{Q:Ae->Ag->Prop}{r t:Addr}{items:Array Ae}(hh:A.handled=none)(hr:s.heap.IsRevIter r t ((items.size:Int) - 1))(ht:s.heap.IsList t items)(hz:items.size<=Ak)(htr:t≠r)
  (hQ:∀ h' tk acc' c',(∀ b o,b≠r->s.heap.get? b=some o->h'.get? b=some o)->h'.get? s.heap.objs.size=some {cls:=.type "list",dict:=none,data:=.seq acc' c',slots:=#[]}->ItemsOf (fun i v=>items[items.size - 1 - i]? = some v) acc' items.size->
   Q (.ref s.heap.objs.size) {s with heap:=h',toks:=tk}):Bh (Bq prog w) A (call (.type "list") [.ref r]) Q E s:=by
 have lr:r < s.heap.objs.size:=by obtain⟨o,e,_⟩:=id hr;exact Az e
 have lt:t < s.heap.objs.size:=by obtain⟨o,e,_⟩:=id ht;exact Az e
 refine callType_codes (Q₁:=fun obj s₁=>obj=.ref s.heap.objs.size/\s₁ = {s with heap:=s.heap.push {cls:=.type "list",data:=.seq #[]}}) PySem.F.called_list (PySem.F.typeCall_list_1 _) PySem.F.entry_list_init (code_list_new _ ⟨rfl,rfl⟩) ?_
 rintro obj s₁ ⟨rfl,rfl⟩
 have g0:(s.heap.push {cls:=.type "list",data:=.seq #[]}).get? s.heap.objs.size=some {cls:=.type "list",data:=.seq #[]}:=Bd _ rfl
 have g1:=Gb (Jy fun _=>(#[]:Array Ae)) g0 rfl
 have ot:∀ b o,b≠s.heap.objs.size->s.heap.get? b=some o->((s.heap.push {cls:=.type "list",data:=.seq #[]}).update s.heap.objs.size (Jy fun _=>(#[]:Array Ae))).get? b=some o:=fun b o hb e=>by
  rw[Gw _ _ (Cg hb)];exact Aj _ e
 refine⟨⟨_,g0,rfl⟩,PySem.F.args_list_init_2 _ _,?_⟩
 show Bh _ _ (Builtin.List.listItems (.ref s.heap.objs.size) >>= fun old=>Builtin.List.listUpdate (.ref s.heap.objs.size) (fun _=>#[]) >>= fun _=>letGo old.toList.reverse >>= fun _=>Iv (.ref s.heap.objs.size) (.ref r) .none) _ _ _
 refine Ac (wpAny_listItems g0 rfl (Ac ?_))
 show Bh _ _ (updateSeq s.heap.objs.size (fun _=>#[])) _ _ _
 exact wpAny_updateSeq g0 rfl (Ac (wpAny_letGo (zbz (A:=A.in1) hh (hr.at (h':=_) fun o e=>ot r o (Bo lr) e) (ht.at fun o e=>ot t o (Bo lt) e) hz (Fu lr) (Fu lt) htr g1 fun h' tk acc' c' hk hS' hacc=>⟨rfl,hQ h' tk acc' c' (fun b o hb e=>hk b o (Bo (Az e)) hb (ot b o (Bo (Az e)) e)) hS' hacc⟩)))
end
end Rw
end PySem
namespace L2
open PySem PySem.Spec PyProof.Rows
section
variable {X:Cx}{a:Expr}{ta:TA}{p p2 pos pos2:Pos}
def zbA(K:Ab)(ta:TA):TE:=fun σ H Q=>ta σ H fun vs H1=>∃ t xs,vs=[.ref t]/\bQ K H1 t xs/\∀ q,H1 q=none->Q (.ref q) (aR H1 q (.lst xs.reverse))
theorem zbB(hc:X.calm=true)(hg:Gl X "list")(hm:X.mg "list" = none)(hg2:Gl X "reversed")(hm2:X.mg "reversed" = none)(ha:PA X [a] ta)
  (hs1:Bg [.Call (.Name "reversed" p2) [a] [] pos2] X.env=[(false,eval (.Call (.Name "reversed" p2) [a] [] pos2) X.env)]:=by rfl) (hs2:Bg [a] X.env=[(false,eval a X.env)]:=by rfl) :
  PE X (.Call (.Name "list" p) [.Call (.Name "reversed" p2) [a] [] pos2] [] pos) (zbA X.K ta):=by
 intro pins s σ H Q I h
 refine Dg (kE I hg hm SE (Cy ?_ hs1 rfl))
 rw[hs1]
 refine Calls.spliced_cons (Dg (kE I hg2 hm2 SD (Cy (a8 (ha pos2 pins s σ H _ I h) fun us s1 ⟨vs,H1,I1,r1,q1⟩=>?_) hs2 rfl)))
 obtain⟨t,xs,rfl,hq,q⟩:=q1
 obtain⟨u,rfl,ru⟩:=vals1 r1
 cases ru
 obtain⟨its,rv,pl,hz⟩:=I1.list hq
 have hsz:its.toArray.size<=Ak:=by rw[Aw];have:=rv.length;lia
 have lt:t < s1.heap.objs.size:=by obtain⟨o,e,_⟩:=pl.isList;exact Az e
 refine call_reversed_list pl.isList (Calls.spliced_nil ?_)
 have st:(s1.heap.push (revObj t ((its.toArray.size:Int) - 1))).IsRevIter s1.heap.objs.size t ((its.toArray.size:Int) - 1):=⟨_,Bd _ rfl,rfl,rfl⟩
 refine Rw.list_rev (s:={s1 with heap:=s1.heap.push (revObj t ((its.toArray.size:Int) - 1))}) (t:=t) (items:=its.toArray) (I1.ok.hd hc) st (pl.isList.at fun o e=>Aj _ e) hsz (Bo lt) fun h' tk acc' c' hk hS hacc=>?_
 have hp:({s1 with heap:=s1.heap.push (revObj t ((its.toArray.size:Int) - 1))}:Ag).heap.objs.size=s1.heap.objs.size + 1:=Ey ..
 rw[hp] at hS ⊢
 have hle:s1.heap.objs.size<=s1.heap.objs.size + 1:=Lq _
 have va:=SA rv hacc
 exact⟨.ref (s1.heap.objs.size + 1),_,I1.laid (o:=.lst xs.reverse) (t':=tk) (fun b o e=>hk b o (Bo (Az e)) (Aj _ e)) hle ⟨by rw[List.length_reverse];exact hz,acc'.toList,c',va,by rw[Jg];exact hS⟩,rfl,q _ (I1.hok.fresh hle)⟩
end
end L2
namespace L3
open PySem PySem.Spec PyProof.Rows L2
section
variable {X:Cx}{a:Expr}{ta:aY}
def JZ(ta:aY):aY:=fun τ M R=>ta τ M fun w M1=>∃ l ws,w=.ref l/\M1 l=some (.lst ws)/\aZ ws.reverse M1 R
theorem zbC{p p2 pos pos2:Pos}(hg:Gl X "list")(hm:X.mg "list" = none)(hg2:Gl X "reversed")(hm2:X.mg "reversed" = none)(ha:E3 X a ta)(hc:X.calm=true:=by rfl)
  (hs1:Bg [.Call (.Name "reversed" p2) [a] [] pos2] X.env=[(false,eval (.Call (.Name "reversed" p2) [a] [] pos2) X.env)]:=by rfl) (hs2:Bg [a] X.env=[(false,eval a X.env)]:=by rfl) :
  E3 X (.Call (.Name "list" p) [.Call (.Name "reversed" p2) [a] [] pos2] [] pos) (JZ ta):=
 (zbB hc hg hm hg2 hm2 (aC ha aF (by rw[hs2];rfl)) hs1 hs2).weak fun σ H Q z0=>z0.el fun τ M R as am h k=>⟨τ,M,fun ws M1=>match ws with | [w]=>∃ l ws,w=.ref l/\M1 l=some (.lst ws)/\aZ ws.reverse M1 R | _=>False,as,am,h,fun vs H1 ws M1 k1 am1 ax r=>by
  match ws,r with
  | [w],⟨l,ws,e,m,r⟩=>
   obtain⟨v,rfl,av⟩:=ax.one
   subst e
   obtain rfl:=av.inv
   obtain⟨xs,e,q⟩:=am1.lst m
   exact⟨l,xs,rfl,bQ.of e,fun p hp=>iD am1 (k.kp k1) hp q.reverse r⟩⟩
end
end L3
namespace Rg
open PySem PySem.Spec PyProof.Rows L2 L3
theorem J0{G:Sr}{B:bE}(o:oA G B):(B.map (·.1)).Nodup:=by
 rw[List.nodup_iff_pairwise_ne,List.pairwise_map]
 refine Kb.mpr fun i j hi hj hij e=>?_
 obtain⟨r,E⟩:=o (B.take j) B[j] (B.drop (j + 1)) (by rw[<-Ke hj,Iw])
 have hm:B[j].1∈(B.take j).map (·.1):=by
  rw[<-e]
  exact List.mem_map_of_mem (List.mem_iff_getElem.mpr ⟨i,by rw[Bj];lia,by rw[List.getElem_take]⟩)
 rw[<-gT,E.no] at hm
 cases hm
theorem zbD{l:List a7}(nd:l.Nodup){a b:List a7}{f:a7}(e:l=a ++ f :: b){j:Nat}(h:l[j]? = some f):l.take j=a:=by
 have:j=a.length:=(List.getElem?_inj (Ah.mp h).1 nd).mp (h.trans (by rw[e,Hm (Ai _),Nat.sub_self];rfl))
 rw[this,e,List.take_left]
theorem J1{κ β:Type}[DecidableEq κ]{t:List (κ×β)}{k:κ}{v:β}(h:aH t k=some v):(k,v)∈t:=by
 obtain⟨a,b,e⟩:=iS h
 rw[e];simp
theorem yU{lo:Int}{n i:Nat}{w:W}(h:(i4 lo n)[i]? = some w):i < n/\w=.int (lo + i):=by
 unfold i4 at h
 rw[Au] at h
 obtain⟨j,hj,rfl⟩:=Bk.mp h
 obtain⟨h1,h2⟩:=Ah.mp hj
 simp at h1 h2
 subst h2
 exact⟨h1,rfl⟩
theorem yV{xs:List Str}(h:∀ x∈xs,g9 x):Pl 1 (.rl (xs.map W.str)):=fun w hw=>by
 obtain⟨x,hx,rfl⟩:=Ba.mp hw;exact h x hx
theorem zbE{acc:List Str}{t:Str}(h:acc.Nodup):(fB acc t).Nodup:=by
 unfold fB
 split
 ·exact h
 ·rename_i hn
  rw[Ew]
  refine⟨h,by simp,fun a ha b hb e=>hn ?_⟩
  have:b=t:=by simpa using hb
  rw[<-this,<-e];exact ha
def J2:bH:=fun ws M R=>∃ (rs:List aV) (U:List Str),ws=[cJ rs]/\rs.length<=100/\U.length < 64/\IE rs U/\∀ ss:List Str,IE rs ss->ss.Nodup->(∀ t∈ss,t∈U)->R (.rl (ss.map W.str)) M
abbrev zbF:List Str:=["grammar","own","found","rule","part"]
def zbG:aI:=
   (bB 1 (bJ pX (aB (cM (bJ pW (aB (aA 0) aD))) aD)))
def zbH:aI:=
   (bB 2 wA)
def zbI:aI:=
   (fS (dG eO (aE aW (aA 3) (vC (.int 1)))) (bW 4)
    (cN (bU (aE (rIn true) (aA 4) (aA 1)))
    (iZ (vC (.bl true)) (j3 (aA 2) (aA 4)))
    eN))
def zbJ:aI:=
   (fS (dG eO (aA 0)) (bW 3) zbI)
def zbK:aI:=
   (bS (bY F6 (aB (cM (aA 2)) aD)))
def zbL:aI:=(aN zbG (aN zbH (aN zbJ zbK)))
theorem Paired.getP{α β:Type}{F:α->β->Prop}:∀ {l₁:List α} {l₂:List β} {i:Nat} {a:α},Fn F l₁ l₂->l₁[i]? = some a->∃ b,l₂[i]? = some b/\F a b
 | _,_,_,_,.nil,e=>by simp at e
 | _,_,0,_,.cons r _,e=>by simp at e;subst e;exact⟨_,rfl,r⟩
 | _,_,i + 1,_,.cons _ t,e=>by
  obtain⟨b,h1,h2⟩:=Paired.getP (i:=i) t (by simpa using e)
  exact⟨b,by simpa using h1,h2⟩
theorem J3{α:Type}{xss:List (List α)}{i:Nat}{xs:List α}(h:xss[i]? = some xs):(xss.take (i + 1)).flatten=(xss.take i).flatten ++ xs:=by
 rw[lV h,Jo];simp
theorem zbM{α:Type}{xss:List (List α)}{i:Nat}{xs:List α}(h:xss[i]? = some xs):(xss.take i).flatten.length + xs.length<=xss.flatten.length:=by
 have e:xss=xss.take (i + 1) ++ xss.drop (i + 1):=(Iw _ _).symm
 have:=congrArg (fun z=>(List.flatten z).length) e
 simp only[Jo,Af] at this
 rw[J3 h,Af] at this
 lia
theorem zbN{ws:List W}{M:Mm}{R:K3}(h:J2 ws M R):zbL (bI R) (bP zbF ws) M:=by
 obtain⟨rs,U,rfl,hl,hU,aU,r⟩:=h
 refine⟨_,rfl,rs,rfl,Ao hl (by decide),aZ.frz ?_⟩
 refine⟨namesOf rs,rfl,by have:=IF rs;lia,?_⟩
 obtain⟨ow,how⟩:∃ ow,ow=(((namesOf rs).foldl fB []).map fF):=⟨_,rfl⟩
 have lo:∀ t,(bA ow (Sum.inr t:aG)).isSome=cH rs t:=fun t=>by rw[how];exact qC rs t
 rw[<-how]
 refine fun p hp=>⟨_,rfl,fP ?_⟩
 refine sM (fun i τ M'=>∃ (ss:List Str) (o3 o4:Option W),τ=[some (.rl (rs.map eS)),some (.dk ow),some (.ref p),o3,o4]/\M'=put M p (.dK (ss.map fF))/\ss.Nodup/\(∀ t∈ss,t∈U)/\∀ q∈rs.take i,∀ t∈q.parts,cH rs t=false->t∈ss) ⟨[],_,_,rfl,rfl,Gm,by simp,by simp⟩ ?_ ?_
 ·rintro i w τ M' hw ⟨ss,o3,o4,rfl,rfl,nd,hsU,hin⟩
  rw[Au] at hw
  obtain⟨q,hq,rfl⟩:=Bk.mp hw
  refine⟨_,rfl,_,rfl,?_⟩
  refine sM (ws:=q.parts.map W.str) (fun j τ M'=>∃ (s2:List Str) (o4:Option W),τ=[some (.rl (rs.map eS)),some (.dk ow),some (.ref p),some (eS q),o4]/\M'=put M p (.dK (s2.map fF))/\s2.Nodup/\(∀ t∈s2,t∈U)/\(∀ t∈ss,t∈s2)/\∀ t∈q.parts.take j,cH rs t=false->t∈s2) ⟨ss,_,rfl,rfl,nd,hsU,fun _ h=>h,by simp⟩ ?_ ?_
  ·rintro j w τ M' hw ⟨s2,o4,rfl,rfl,nd2,hsU2,hs2,hin2⟩
   rw[Au] at hw
   obtain⟨t,ht,rfl⟩:=Bk.mp hw
   refine⟨_,rfl,_,rfl,_,⟨Sum.inr t,rfl,rfl⟩,_,rfl,?_⟩
   show if (!(bA ow (Sum.inr t:aG)).isSome)=true then _ else _
   rw[lo t]
   cases ho:cH rs t with
   | true=>
    refine⟨_,Sub.refl _,s2,_,rfl,rfl,nd2,hsU2,hs2,fun x hx hox=>?_⟩
    rw[lV ht] at hx
    rcases Be.mp hx with z | z
    ·exact hin2 x z hox
    ·rw[An.mp z,ho] at hox;cases hox
   | false=>
    have hl2:s2.length<=U.length:=len_sub nd2 hsU2
    refine⟨_,rfl,_,rfl,FZ aT (by rw[Aa];exact eR (by lia)) ⟨_,Sub.refl _,fB s2 t,_,rfl,by rw[fJ,xG],zbE nd2,fun x hx=>?_,fun x hx=>pK.mpr (.inl (hs2 x hx)),fun x hx hox=>?_⟩⟩
    ·rcases pK.mp hx with z | z
     ·exact hsU2 x z
     ·rw[z];exact aU q (Bn hq) t (Bn ht) ho
    ·rw[lV ht] at hx
     rcases Be.mp hx with z | z
     ·exact pK.mpr (.inl (hin2 x z hox))
     ·exact pK.mpr (.inr (by simpa using z))
  ·rintro τ M' ⟨s2,o4,rfl,rfl,nd2,hsU2,hs2,hin2⟩
   rw[Aa,Ck] at hin2
   refine⟨_,Sub.refl _,s2,_,_,rfl,rfl,nd2,hsU2,fun x hx t ht ho=>?_⟩
   rw[lV hq] at hx
   rcases Be.mp hx with z | z
   ·exact hs2 t (hin x z t ht ho)
   ·rw[An.mp z] at ht
    exact hin2 t ht ho
 ·rintro τ M' ⟨ss,o3,o4,rfl,rfl,nd,hsU,hin⟩
  rw[Aa,Ck] at hin
  refine⟨_,rfl,SO hp ?_⟩
  have hl2:ss.length<=U.length:=len_sub nd hsU
  refine⟨ss,by rw[Bv];rfl,by lia,fun s3 hperm=>⟨_,Sub.refl _,r s3 (fun q hq t ht ho=>hperm.mem_iff.mpr (hin q hq t ht ho)) (hperm.nodup_iff.mpr nd) fun t ht=>hsU t (hperm.mem_iff.mp ht)⟩⟩
section
variable {κ β γ:Type}[DecidableEq κ]
theorem zbO{t:List (κ×β)}{k:κ}{v:β}{e:κ×β}(h:e∈cS t k v):e=(k,v)\/(e∈t/\e.1≠k):=by
 unfold cS at h
 split at h
 ·obtain⟨x,hx,rfl⟩:=Ba.mp h
  split
  ·rename_i z;exact .inl (by rw[z])
  ·rename_i z;exact .inr ⟨hx,z⟩
 ·rename_i z
  rcases Be.mp h with h | h
  ·exact .inr ⟨h,fun y=>z (by rw[kR,gT];exact Ba.mpr ⟨e,h,y⟩)⟩
  ·exact .inl (An.mp h)
end
theorem yW{n:Nat}:(dO n).length=n + 1:=by unfold dO;simp
end Rg
namespace M69
open PySem PySem.Spec PyProof.Rows L2 L3 Rg
def qH(M:Mm)(w:W)(ws:List W):Prop:=w=.rl ws\/∃ a,w=.ref a/\M a=some (.lst ws)
def J4:bH:=fun ws M R=>∃ (ls:List W) (xss:List (List W)),ws=[.rl ls]/\ls.length<=1000/\Fn (qH M) ls xss/\xss.flatten.length<=1000000/\aZ xss.flatten M R
def yX:bH:=fun ws M R=>∃ (n:Int) (ls:List W) (xss:List (List W)),ws=[.int n,.rl ls]/\ls.length<=1000/\Fn (qH M) ls xss/\xss.flatten.length<=1000000/\aZ xss.flatten M R
def yY:bH:=fun ws M R=>∃ (n:Nat) (vs:List W),ws=[.int n,.rl vs]/\R (.tup [.int n,.tup vs]) M
abbrev zbP:List Str:=["lists","whole","one"]
def zbQ:aI:=
   (bB 1 (iC aD))
def zbR:aI:=
   (cR (cQ "list" FE (aA 1) (aB (aA 2) aD)))
def zbS:aI:=
   (fS (dG eO (aA 0)) (bW 2) zbR)
def zbT:aI:=
   (bS (aA 1))
def zbU:aI:=(aN zbQ (aN zbS zbT))
abbrev zbV:List Str:=["number","lists"]
def zbW:aI:=
   (bS (bJ J4 (aB (aA 1) aD)))
abbrev zbX:List Str:=["number","children"]
def zbY:aI:=
   (bS (bK (aB (aA 0) (aB (bY rX (aB (aA 1) aD)) aD))))
theorem J5{ws:List W}{M:Mm}{R:K3}(h:J4 ws M R):zbU (bI R) (bP zbP ws) M:=by
 obtain⟨ls,xss,rfl,hl,hp,ht,r⟩:=h
 refine⟨Cd _,fun p hpn=>xI rfl (fP ?_)⟩
 have hlen:=Dw hp
 have big:∀ {n:Nat},n<=1000000->n<=Ak:=fun h=>Ao h (by decide)
 refine sM (fun i τ M'=>∃ o,τ=[some (.rl ls),some (.ref p),o]/\M'=put M p (.lst (xss.take i).flatten)) (xI rfl rfl) ?_ ?_
 ·rintro i w τ M' hw ⟨o,rfl,rfl⟩
  obtain⟨xs,hxs,hat⟩:=Paired.getP hp hw
  have hfl:=big (Ao (zbM hxs) ht)
  have e2:(xss.take (i + 1)).flatten=(xss.take i).flatten ++ xs:=J3 hxs
  rcases hat with rfl | ⟨a,rfl,e⟩
  ·exact xI rfl ⟨eT aT,xI rfl ⟨_,aT,hfl,_,Sub.refl _,xI rfl (by rw[fJ,e2])⟩⟩
  ·exact xI rfl ⟨eT aT,xI rfl ⟨_,_,aT,by rw[aQ (fun z=>by rw[z,hpn] at e;cases e)];exact e,hfl,_,Sub.refl _,xI rfl (by rw[fJ,e2])⟩⟩
 ·rintro τ M' ⟨o,rfl,rfl⟩
  rw[hlen,Ck]
  exact xI rfl ⟨_,Sub.refl _,r p hpn⟩
theorem J6{ws:List W}{M:Mm}{R:K3}(h:yX ws M R):zbW (bI R) (bP zbV ws) M:=by
 obtain⟨n,ls,xss,rfl,h1,h2,h3,r⟩:=h
 exact xI rfl ⟨ls,xss,rfl,h1,h2,h3,tT r⟩
theorem J7{ws:List W}{M:Mm}{R:K3}(h:yY ws M R):zbY (bI R) (bP zbX ws) M:=by
 obtain⟨n,vs,rfl,r⟩:=h
 exact xI rfl (xI rfl ⟨z2,_,Sub.refl _,r⟩)
end M69
namespace M47
open PySem PySem.Spec PyProof.Rows L2 L3 Rg M69
abbrev nB:Pos:=⟨209,56,209,114⟩
abbrev iJ:mI:=⟨"fewest_mends.<locals>.<lambda>","row",
 {posonlyargs:=[],args:=[{arg:="word",annotation:=none,pos:=⟨209,63,209,67⟩},{arg:="begin",annotation:=none,pos:=⟨209,69,209,74⟩},{arg:="end",annotation:=none,pos:=⟨209,76,209,79⟩}],vararg:=none,kwonlyargs:=[],kw_defaults:=[],kwarg:=none,defaults:=[]},
 .Call (.Name "mend_steps" ⟨209,81,209,91⟩) [.Name "row" ⟨209,92,209,95⟩,.Name "word" ⟨209,97,209,101⟩,.Name "begin" ⟨209,103,209,108⟩,.Name "end" ⟨209,110,209,113⟩] [] ⟨209,81,209,114⟩,
 {kind:=.function,names:=[("word",.local),("begin",.local),("end",.local),("row",.free),("mend_steps",.globalImplicit)],isGenerator:=false,isCoroutine:=false,more:=[]}⟩
theorem J8:t9 "word" "begin" "end" iJ.y "mend_steps" iJ.sc:=⟨rfl,rfl,rfl,rfl,by decide,by decide,by decide,by decide,by decide,by decide,by decide,by decide,by decide⟩
def eC(s:dP):W:=.tup (s.map W.str)
structure uA(row:List Str)(t:Str)(b e:Int):Prop where
 rk:∀ x∈row,g9 x
 few:row.length<=60
 tk:g9 t
 b0:0<=b
 be:b<=e
 en:e<=row.length
def J9(p:Int×Int):W:=.tup [.int p.1,.int p.2]
def Hu(rs:List aV)(U:List Str):Prop:=∀ r∈rs,∀ t∈(bM r).parts,cH rs t=false->t∈U
def eM(q:aV)(row:List Str):a7:=(q.name,0,(row.length:Int))
def yZ:bH:=fun ws M R=>∃ rs,ws=[cJ rs]/\cT rs/\R (cJ (rs.map bM)) M
def KA:bH:=fun ws M R=>∃ row t b e,ws=[eL row,.str t,.int b,.int e]/\uA row t b e/\R (.int (gD row t b e)) M
def qI:bH:=fun ws M R=>∃ ts:List Str,ws=[.rl (ts.map W.str)]/\ts.length<=1000/\R (.rl (ts.map fun t=>eC (oF t))) M
def KC:bH:=fun ws M R=>∃ row t b e,ws=[eL row,.str t,.int b,.int e]/\uA row t b e/\R (.rl ((oG row t b e).map eC)) M
def oK(row:List Str)(t:Str)(b:Int):W:=.rl (((dO row.length).filter fun e=>decide (b<=e)).map fun e=>J9 (e,gD row t b e))
structure kZ(row:List Str)(A:Str->Int->Prop)(kvs:List (List aG×W)):Prop where
 hit:∀ t b,A t b->bA kvs (eK (t,b))=some (oK row t b)
 non:∀ t b,¬ A t b->bA kvs (eK (t,b))=none
def KD:bH:=fun ws M R=>∃ rs row,ws=[cJ (rs.map bM),eL row]/\cT rs/\hZ row/\∀ U kvs,Hu rs U->(∀ t∈U,t∈("" : Str) :: cI)->U.length<=4->kZ row (fun t b=>t∈U/\b∈dO row.length) kvs->iN kvs M R
def KG(C:Cc):bH:=fun ws M R=>∃ rs row,ws=[cJ rs,eL row]/\cT rs/\hZ row/\∀ U B,Hu rs U->(∀ t∈U,t∈("" : Str) :: cI)->dC (bX rs row U) B->iN (dX fK fG B) M R
def KH(C:Cc):bH:=fun ws M R=>∃ (G:Sr) (B:bE) (aM:a7),ws=[cJ G.rs,l0 B,eQ aM,.ref C.h,.ref C.i]/\Wb G B/\aM∈B.map (·.1)/\R (p9 G B aM) M
def y0(C:Cc)(cy:Addr)(v:V):bH:=fun ws M R=>∃ (rs:List aV) (row U:List Str) (B:bE) (aM:a7) (f:Addr),ws=[cJ (rs.map bM),l0 B,eQ aM,.ref f,.ref C.g]/\Wb (bX rs row U) B/\aM∈B.map (·.1)/\M f=some (.cl iJ cy v (eL row))/\hZ row/\(∀ t∈U,t∈("" : Str) :: cI)/\(gN row (yT (bX rs row U) B aM)).length<=200000/\
 ∀ p M',M p=none->L3.Sub M M'->M' p=some (.lst ((gN row (yT (bX rs row U) B aM)).map eC))->R (.ref p) M'
def y6(C:Cc):bH:=fun ws M R=>∃ (G:Sr) (B:bE) (aM:a7),ws=[cJ G.rs,l0 B,eQ aM]/\Wb G B/\aM∈B.map (·.1)/\R (p9 G B aM) M
def KI(C:Cc):bH:=fun ws M R=>∃ q rs row,ws=[cJ (q :: rs),eL row]/\cT (q :: rs)/\hZ row/\M C.t=some (.tb nB iJ.qual)/\∀ U B,Hu (q :: rs) U->(∀ t∈U,t∈("" : Str) :: cI)->dC (bX (q :: rs) row U) B->
 (aH B (eM q row)=none->R .non M)/\∀ x,aH B (eM q row)=some x->∀ p M',M p=none->L3.Sub M M'->M' p=some (.lst ((gN row (yT (bX (q :: rs) row U) B (eM q row))).map eC))->R (.tup [.int x.1.1,.ref p,p9 (qF (q :: rs) row U) B (eM q row)]) M'
structure y7(S:List dP)(r w:List Str)(n:Int):Prop where
 gn:Gn S r w n
 rk:∀ t∈r,g9 t
 few:S.length<=200
def KJ:bH:=fun ws M R=>∃ S r w n,ws=[.rl (S.map eC)]/\y7 S r w n/\aZ (w.map W.str) M R
def KL:bH:=fun ws M R=>∃ S r w n,ws=[eL r,.rl (S.map eC)]/\y7 S r w n/\R (.bl true) M
def uB:bH:=fun ws M R=>∃ (zs:List Int) (k:Int),ws=[.sc (zs.map W.int),.int k]/\zs.length<=63/\0<=k/\∀ i,R (.int i) M
def uC:bH:=fun ws M R=>∃ (d:Int) (hs:List Str),ws=[.int d,.rl (hs.map W.str)]/\hs≠[]/\hs.length<=3/\∀ ts:List Str,ts.length<=3->(∀ t∈ts,t∈hs\/t∈cI)->R (.tup (ts.map W.str)) M
def KN:bH:=fun ws M R=>∃ zs:List Int,ws=[.sc (zs.map W.int)]/\zs.length<=63/\∀ rs,cT rs->aZ (rs.map eS) M R
def y8:bH:=fun ws M R=>∃ (zs:List Int) (m:Int),ws=[.rl (zs.map W.int),.int m]/\0<=m/\m<=12/\zs.length<=63/\∀ row,hZ row->aZ (row.map W.str) M R
def KO:bH:=fun ws M R=>∃ c:Int,ws=[.int c]/\∀ rs,cT rs->aZ (rs.map eS) M R
def KP:bH:=fun ws M R=>∃ zs:List Int,ws=[.sc (zs.map W.int)]/\zs.length<=63/\∀ rs row,cT rs->hZ row->R (.tup [cJ rs,eL row]) M
def KQ(C:Cc):bH:=fun ws M R=>∃ (rs:List aV) (row:List Str),ws=[cJ rs,eL row,.rl (rs.map fun _=>W.int 0)]/\cT rs/\m9 row/\∀ B,dC (eU rs row) B->iN (dX fK fG B) M R
def y9(C:Cc):bH:=fun ws M R=>∃ (q:aV) (rs:List aV) (row:List Str),ws=[cJ (q :: rs),eL row]/\cT (q :: rs)/\m9 row/\∀ B,dC (eU (q :: rs) row) B->(∀ z,aH B (eM q row)=some z->∀ n ws,R (.tup [.int n,.tup ws]) M)/\(aH B (eM q row)=none->R .non M)
def zA:bH:=fun ws M R=>∃ (row:List Str) (zs:List Int),ws=[eL row,.rl (zs.map W.int)]/\hZ row/\zs.length<=12/\∀ S w n,Gn S row w n->m9 w->S.length<=200->aZ (S.map eC) M R
abbrev zbZ(C:Cc):bH:=qG C.t nB iJ.qual
abbrev zb0:List Str:=["grammar"]
def zb1:aI:=
   (bS (cM (fW (dG eO (aA 0)) (bW 0) i5 (rO (bU (aE (rEq true) (aE aW (aA 0) (vC (.int 1))) (bK aD))) (aA 0) (bK (aB (aE aW (aA 0) (vC (.int 0))) (aB (bK (aB (vC (.str "")) aD)) (aB (aE aW (aA 0) (vC (.int 2))) aD))))) [none])))
abbrev zb2:List Str:=["row","word","begin","end","between"]
def zb3:aI:=
   (bB 4 (iH (aA 0) (gF (aA 2)) (gF (aA 3))))
def zb4:aI:=
   (cN (bU (aE (rEq false) (aA 1) (vC (.str ""))))
    (bS (bY dA (aB (aA 4) aD)))
    eN)
def zb5:aI:=
   (cN (bU (aE (rEq false) (bY dA (aB (aA 4) aD)) (vC (.int 0))))
    (bS (vC (.int 1)))
    eN)
def zb6:aI:=
   (bS (rO (bU (aE (rIn false) (aA 1) (aA 4))) (aE mL (bY dA (aB (aA 4) aD)) (vC (.int 1))) (bY dA (aB (aA 4) aD))))
def zb7:aI:=(aN zb3 (aN zb4 (aN zb5 zb6)))
abbrev zb8:List Str:=["words"]
def zb9:aI:=
   (bS (cM (fW (dG eO (aA 0)) (bW 0) i5 (bK (aB (vC (.str "drop")) (aB (aA 0) aD))) [none])))
abbrev zca:List Str:=["row","word","begin","end","between","at"]
def zcb:aI:=
   (bB 4 (iH (aA 0) (gF (aA 2)) (gF (aA 3))))
def zcc:aI:=
   (cN (bU (aE (rEq false) (aA 1) (vC (.str ""))))
    (bS (bJ qI (aB (aA 4) aD)))
    eN)
def zcd:aI:=
   (cN (bU (aE (rEq false) (bY dA (aB (aA 4) aD)) (vC (.int 0))))
    (bS (fX (aB (bK (aB (vC (.str "put")) (aB (aA 1) aD))) aD)))
    eN)
def zce:aI:=
   (cN (bU (aE (rIn false) (aA 1) (aA 4)))
    (aN (bB 5 (cQ "list" JX (aA 4) (aB (aA 1) aD)))
   (bS (aE dH (aE dH (bJ qI (aB (iH (aA 4) iP (gF (aA 5))) aD)) (fX (aB (bK (aB (vC (.str "keep")) (aB (aA 1) aD))) aD))) (bJ qI (aB (iH (aA 4) (gF (aE dH (aA 5) (vC (.int 1)))) iP) aD)))))
    eN)
def zcf:aI:=
   (bS (aE dH (fX (aB (bK (aB (vC (.str "swap")) (aB (aE aW (aA 4) (vC (.int 0))) (aB (aA 1) aD)))) aD)) (bJ qI (aB (iH (aA 4) (gF (vC (.int 1))) iP) aD))))
def zcg:aI:=(aN zcb (aN zcc (aN zcd (aN zce zcf))))
abbrev zch:List Str:=["grammar","row","steps","word","begin","ends"]
def zci:aI:=
   (bB 2 lN)
def zcj:aI:=
   (fS (dG eO (cM (bJ qB (aB (aA 1) aD)))) (bW 4)
    (aN (bB 5 (cM (fW (dG eO (cM (bJ qB (aB (aA 1) aD)))) (bW 0) (bU (aE EV (aA 0) (aA 1))) (aA 0) [none,some 4])))
   (iZ (cM (fW (dG eO (aA 5)) (bW 0) i5 (bK (aB (aA 0) (aB (bJ KA (aB (aA 1) (aB (aA 2) (aB (aA 3) (aB (aA 0) aD))))) aD))) [none,some 1,some 3,some 4])) (j3 (aA 2) (bK (aB (aA 3) (aB (aA 4) aD)))))))
def zck:aI:=
   (fS (dG eO (bJ J2 (aB (aA 0) aD))) (bW 3) zcj)
def zcl:aI:=
   (bS (aA 2))
def zcm:aI:=(aN zci (aN zck zcl))
abbrev zcn:List Str:=["grammar","row","gapped"]
def zco(C:Cc):aI:=
   (aN (bB 2 (bJ yZ (aB (aA 0) aD)))
   (bS (bJ (xO C) (aB (aA 2) (aB (cM (bJ qB (aB (aA 1) aD))) (aB (cM (bJ KD (aB (aA 2) (aB (aA 1) aD)))) (aB (cM (bJ yF (aB (aA 0) aD))) aD)))))))
abbrev zB:List Str:=["grammar","best","top","of_word","of_rule","own","made","fact","number","cut","values","k","part"]
def zcp(cw cr:aY):aI:=
   (bB 5 (bJ pX (aB (cM (bJ pW (aB (aA 0) aD))) aD)))
def zcq(cw cr:aY):aI:=
   (bB 6 lN)
def zcr(cw cr:aY):aI:=
   (aN (bB 8 (aE aW (aE aW (aA 1) (aA 7)) (vC (.int 1))))
   (aN (bB 9 (aE aW (aE aW (aA 1) (aA 7)) (vC (.int 2))))
   (aN (bB 10 (iC aD))
   (aN (fS (yM (aB (aE aW (aE aW (aA 0) (aA 8)) (vC (.int 1))) aD)) (kP 2 (gC (bW 11) (gC (bW 12) kO)))
    (cN (bU (aE (rIn false) (aA 12) (aA 5)))
    (cR (cQ "list" d8 (aA 10) (aB (aE aW (aA 6) (bK (aB (aA 12) (aB (aE aW (aA 9) (aA 11)) (aB (aE aW (aA 9) (aE dH (aA 11) (vC (.int 1)))) aD))))) aD)))
    (cR (cQ "list" d8 (aA 10) (aB cw aD)))))
   (iZ cr (j3 (aA 6) (aA 7)))))))
def zcs(cw cr:aY):aI:=
   (fS (dG eO (cM (bJ JH (aB (aA 0) (aB (aA 1) (aB (aA 2) aD)))))) (bW 7) (zcr cw cr))
def zct(cw cr:aY):aI:=
   (bS (aE aW (aA 6) (aA 2)))
def zC(cw cr:aY):aI:=(aN (zcp cw cr) (aN (zcq cw cr) (aN (zcs cw cr) (zct cw cr))))
abbrev zcu(C:Cc):aI:=zC (tZ 3 C.h JI (aB (aA 12) (aB (aE aW (aA 9) (aA 11)) (aB (aE aW (aA 9) (aE dH (aA 11) (vC (.int 1)))) aD)))) (tZ 4 C.i yY (aB (aA 8) (aB (cM (aA 10)) aD)))
abbrev zcv(C:Cc)(cy:Addr)(v:V):aI:=zC (JW 3 iJ cy v (aB (aA 12) (aB (aE aW (aA 9) (aA 11)) (aB (aE aW (aA 9) (aE dH (aA 11) (vC (.int 1)))) aD))) (bJ KC (aB (aA 3) (aB (aA 0) (aB (aA 1) (aB (aA 2) aD)))))) (tZ 4 C.g yX (aB (aA 8) (aB (cM (aA 10)) aD)))
abbrev zcw:List Str:=["grammar","best","top"]
def zcx(C:Cc):aI:=
   (bS (bJ (KH C) (aB (aA 0) (aB (aA 1) (aB (aA 2) (aB (vC (.ref C.h)) (aB (vC (.ref C.i)) aD)))))))
abbrev zcy:List Str:=["grammar","row","best","top","steps"]
def zcz(C:Cc)(cy:Addr):aI:=
   (bB 2 (xQ (bJ (KG C) (aB (aA 0) (aB (aA 1) aD)))))
def zcA(C:Cc)(cy:Addr):aI:=
   (bB 3 (bJ yO (aB (aA 0) (aB (aA 1) aD))))
def zcB(C:Cc)(cy:Addr):aI:=
   (cN (bU (aE (rIn true) (aA 3) (aA 2)))
    (bS (vC .non))
    eN)
def zcC(C:Cc)(cy:Addr):aI:=
   (bB 4 (JV cy 1 (y0 C) (aB (bJ yZ (aB (aA 0) aD)) (aB (aA 2) (aB (aA 3) (aB (JU C.t ⟨209,56,209,114⟩ iJ cy) (aB (vC (.ref C.g)) aD)))))))
def zcD(C:Cc)(cy:Addr):aI:=
   (bS (bK (aB (aE aW (aE aW (aE aW (aA 2) (aA 3)) (vC (.int 0))) (vC (.int 0))) (aB (aA 4) (aB (bJ (y6 C) (aB (aA 0) (aB (aA 2) (aB (aA 3) aD)))) aD)))))
def zcE(C:Cc)(cy:Addr):aI:=(aN (zcz C cy) (aN (zcA C cy) (aN (zcB C cy) (aN (zcC C cy) (zcD C cy)))))
abbrev zcF:List Str:=["steps"]
def zcG:aI:=
   (bS (fW (dG eO (aA 0)) (bW 0) (bU (aE (rEq true) (aE aW (aA 0) (vC (.int 0))) (vC (.str "drop")))) (aE aW (aA 0) (jI jJ (vC (.int 1)))) [none]))
abbrev zcH:List Str:=["row","steps"]
def zcI:aI:=
   (bS (aE (rEq false) (cM (fW (dG eO (aA 1)) (bW 0) (bU (aE (rEq true) (aE aW (aA 0) (vC (.int 0))) (vC (.str "put")))) (aE aW (aA 0) (vC (.int 1))) [none])) (aA 0)))
abbrev zcJ:List Str:=["script","k"]
def zcK:aI:=
   (aN (cN (bU (aE lL (aA 1) (bY dA (aB (aA 0) aD))))
    (bS (aE aW (aA 0) (aA 1)))
    eN)
   (bS (vC (.int 0))))
abbrev zcL:List Str:=["d","heads","parts","k","one"]
def zcM:aI:=
   (bB 2 (iC aD))
def zcN:aI:=
   (aN (bB 4 (aE d3 (aE fR (aA 0) (aE dH (vC (.int 6)) (aE sA (vC (.int 90)) (aA 3)))) (vC (.int 15))))
   (cN (bU (aE lL (aA 4) (vC (.int 8))))
    (cR (cQ "list" d8 (aA 2) (aB (aE aW (fX (aB (vC (.str "a")) (aB (vC (.str "ab")) (aB (vC (.str "b")) aD)))) (aE d3 (aA 4) (vC (.int 3)))) aD)))
    (cR (cQ "list" d8 (aA 2) (aB (aE aW (aA 1) (aE d3 (aA 4) (bY dA (aB (aA 1) aD)))) aD)))))
def zcO:aI:=
   (fS (pI (aB (aE aW (fX (aB (vC (.int 0)) (aB (vC (.int 1)) (aB (vC (.int 2)) (aB (vC (.int 2)) (aB (vC (.int 3)) (aB (vC (.int 1)) aD))))))) (aE d3 (aA 0) (vC (.int 6)))) aD)) (bW 3) zcN)
def zcP:aI:=
   (bS (bY rX (aB (aA 2) aD)))
def zcQ:aI:=(aN zcM (aN zcO zcP))
abbrev zcR:List Str:=["script","cell","heads","rules","k","d","name"]
def zcS:aI:=
   (bB 1 (bJ uB (aB (aA 0) (aB (vC (.int 0)) aD))))
def zcT:aI:=
   (bB 2 (iH (fX (aB (vC (.str "S")) (aB (vC (.str "S_1")) (aB (vC (.str "S_12")) aD)))) iP (gF (aE dH (vC (.int 1)) (aE d3 (aE fR (aA 1) (vC (.int 2))) (vC (.int 3)))))))
def zcU:aI:=
   (bB 3 (iC aD))
def zcV:aI:=
   (aN (bB 5 (bJ uB (aB (aA 0) (aB (aE dH (vC (.int 1)) (aA 4)) aD))))
   (aN (cN (bU (aE (rEq false) (aE d3 (aA 1) (vC (.int 2))) (vC (.int 1))))
    (bB 5 (aE fR (aE sA (aE dH (aE d3 (aA 5) (aE vV (vC (.int 10)) (vC (.int 40)))) (aA 4)) (aE dH (aE dH (aE d3 (aA 5) (aE vV (vC (.int 10)) (vC (.int 40)))) (aE sA (vC (.int 5)) (aA 4))) (vC (.int 2)))) (vC (.int 7))))
    eN)
   (aN (bB 6 (aE aW (aA 2) (aE d3 (aA 5) (bY dA (aB (aA 2) aD)))))
   (aN (cN (bU (aE lL (aA 4) (bY dA (aB (aA 2) aD))))
    (bB 6 (aE aW (aA 2) (aA 4)))
    eN)
   (cR (cQ "list" d8 (aA 3) (aB (bK (aB (aA 6) (aB (bJ uC (aB (aE fR (aA 5) (vC (.int 3))) (aB (aA 2) aD))) (aB (aE d3 (aE fR (aA 5) (vC (.int 900))) (vC (.int 4))) aD)))) aD)))))))
def zcW:aI:=
   (fS (pI (aB (aE dH (bY dA (aB (aA 2) aD)) (aE d3 (aE fR (aA 1) (vC (.int 6))) (vC (.int 5)))) aD)) (bW 4) zcV)
def zcX:aI:=
   (bS (aA 3))
def zcY:aI:=(aN zcS (aN zcT (aN zcU (aN zcW zcX))))
abbrev zcZ:List Str:=["cells","most"]
def zc0:aI:=
   (bS (fW (dG eO (iH (aA 0) iP (gF (aA 1)))) (bW 0) i5 (aE aW (fX (aB (vC (.str "a")) (aB (vC (.str "ab")) (aB (vC (.str "b")) aD)))) (aE d3 (aA 0) (vC (.int 3)))) [none]))
abbrev zc1:List Str:=["cell","heads","rules","k"]
def zc2:aI:=
   (bB 1 (iH (fX (aB (vC (.str "S")) (aB (vC (.str "S_1")) (aB (vC (.str "S_12")) (aB (vC (.str "V")) (aB (vC (.str "W")) (aB (vC (.str "X")) (aB (vC (.str "Y")) (aB (vC (.str "Z")) aD))))))))) iP (gF (aE dH (vC (.int 3)) (aE d3 (aA 0) (vC (.int 6)))))))
def zc3:aI:=
   (bB 2 (iC aD))
def zc4:aI:=
   (cR (cQ "list" d8 (aA 2) (aB (bK (aB (aE aW (aA 1) (aA 3)) (aB (bK (aB (aE aW (aA 1) (aE dH (aA 3) (vC (.int 1)))) aD)) (aB (vC (.int 0)) aD)))) aD)))
def zc5:aI:=
   (fS (pI (aB (aE mL (bY dA (aB (aA 1) aD)) (vC (.int 1))) aD)) (bW 3) zc4)
def zc6:aI:=
   (cR (cQ "list" d8 (aA 2) (aB (bK (aB (aE aW (aA 1) (jI jJ (vC (.int 1)))) (aB (aE aW (fX (aB (bK (aB (vC (.str "a")) (aB (vC (.str "S")) aD))) (aB (bK (aB (vC (.str "S")) (aB (vC (.str "a")) aD))) (aB (bK (aB (vC (.str "b")) (aB (vC (.str "S")) (aB (vC (.str "ab")) aD)))) aD)))) (aE d3 (aE fR (aA 0) (vC (.int 6))) (vC (.int 3)))) (aB (vC (.int 1)) aD)))) aD)))
def zc7:aI:=
   (cR (cQ "list" d8 (aA 2) (aB (bK (aB (aE aW (aA 1) (aE d3 (aE fR (aA 0) (vC (.int 18))) (bY dA (aB (aA 1) aD)))) (aB (aE aW (fX (aB (bK (aB (vC (.str "ab")) aD)) (aB (bK aD) aD))) (aE d3 (aE fR (aA 0) (vC (.int 144))) (vC (.int 2)))) (aB (vC (.int 0)) aD)))) aD)))
def zc8:aI:=
   (cN (bU (aE (rEq false) (aE d3 (aE fR (aA 0) (vC (.int 288))) (vC (.int 2))) (vC (.int 1))))
    (bS (JZ (aA 2)))
    eN)
def zc9:aI:=
   (bS (aA 2))
def zda:aI:=(aN zc2 (aN zc3 (aN zc5 (aN zc6 (aN zc7 (aN zc8 zc9))))))
abbrev zdb:List Str:=["script","cell","many"]
def zdc:aI:=
   (bB 1 (bJ uB (aB (aA 0) (aB (vC (.int 0)) aD))))
def zdd:aI:=
   (bB 2 (aE d3 (aE fR (aA 1) (vC (.int 30))) (vC (.int 6))))
def zde:aI:=
   (cN (bU (aE (rEq false) (aE d3 (aE fR (aA 1) (vC (.int 360))) (vC (.int 4))) (vC (.int 0))))
    (bS (bK (aB (cM (bJ KO (aB (aE fR (aA 1) (vC (.int 1440))) aD))) (aB (cM (bJ y8 (aB (iH (aA 0) (gF (vC (.int 9))) iP) (aB (aE dH (aA 2) (vC (.int 6))) aD)))) aD))))
    eN)
def zdf:aI:=
   (bS (bK (aB (cM (bJ KN (aB (aA 0) aD))) (aB (cM (bJ y8 (aB (iH (aA 0) (gF (vC (.int 9))) iP) (aB (aA 2) aD)))) aD))))
def zdg:aI:=(aN zdc (aN zdd (aN zde zdf)))
abbrev zdh:List Str:=["grammar","row","weights"]
def zdi(C:Cc):aI:=
   (bS (bJ (xO C) (aB (aA 0) (aB (cM (bJ qB (aB (aA 1) aD))) (aB (cM (bJ IY (aB (aA 1) aD))) (aB (aA 2) aD))))))
abbrev zdj:List Str:=["grammar","row","best","top"]
def zdk(C:Cc):aI:=
   (bB 2 (xQ (bJ (KQ C) (aB (aA 0) (aB (aA 1) (aB (cM (bJ yF (aB (aA 0) aD))) aD))))))
def zdl(C:Cc):aI:=
   (bB 3 (bJ yO (aB (aA 0) (aB (aA 1) aD))))
def zdm(C:Cc):aI:=
   (bS (rO (bU (aE (rIn false) (aA 3) (aA 2))) (bJ (y6 C) (aB (aA 0) (aB (aA 2) (aB (aA 3) aD)))) (vC .non)))
def zdn(C:Cc):aI:=(aN (zdk C) (aN (zdl C) (zdm C)))
abbrev zdo:List Str:=["row","cells","steps","left","cell","word"]
def zdp:aI:=
   (bB 2 (iC aD))
def zdq:aI:=
   (bB 3 (bY j4 (aB (aA 0) aD)))
def zdr:aI:=
   (aN (bB 5 (aE aW (fX (aB (vC (.str "a")) (aB (vC (.str "ab")) (aB (vC (.str "b")) aD)))) (aE d3 (aE fR (aA 4) (vC (.int 5))) (vC (.int 3)))))
   (cN (rM (bU (aE (rEq false) (aE d3 (aA 4) (vC (.int 5))) (vC (.int 4)))) (bU (aE lL (bY dA (aB (aA 2) aD)) (vC (.int 5)))))
    (cR (cQ "list" d8 (aA 2) (aB (bK (aB (vC (.str "put")) (aB (aA 5) aD))) aD)))
    (cN (bU (aE (rEq true) (aA 3) (fX aD)))
    (aN (cN (bU (aE (rEq false) (aE d3 (aA 4) (vC (.int 5))) (vC (.int 3))))
    (cR (cQ "list" d8 (aA 2) (aB (bK (aB (vC (.str "drop")) (aB (aE aW (aA 3) (vC (.int 0))) aD))) aD)))
    (cN (bU (aE (rEq false) (aE d3 (aA 4) (vC (.int 5))) (vC (.int 2))))
    (cR (cQ "list" d8 (aA 2) (aB (bK (aB (vC (.str "swap")) (aB (aE aW (aA 3) (vC (.int 0))) (aB (aA 5) aD)))) aD)))
    (cR (cQ "list" d8 (aA 2) (aB (bK (aB (vC (.str "keep")) (aB (aE aW (aA 3) (vC (.int 0))) aD))) aD)))))
   (bB 3 (iH (aA 3) (gF (vC (.int 1))) iP)))
    eN)))
def zds:aI:=
   (fS (dG eO (aA 1)) (bW 4) zdr)
def zdt:aI:=
   (bS (aE vT (aA 2) (cM (fW (dG eO (aA 3)) (bW 0) i5 (bK (aB (vC (.str "keep")) (aB (aA 0) aD))) [none]))))
def zdu:aI:=(aN zdp (aN zdq (aN zds zdt)))
abbrev zdv:List Str:=["script","rules","row","found","begin","steps","words","many"]
def zdw(C:Cc):aI:=
   (iZ (bJ KP (aB (aA 0) aD)) (kP 2 (gC (bW 1) (gC (bW 2) kO))))
def zdx(C:Cc):aI:=
   (bB 3 (bJ (KI C) (aB (bY j4 (aB (aA 1) aD)) (aB (bY j4 (aB (aA 2) aD)) aD))))
def KR(C:Cc):aI:=
   (cN (bU (aE (lM true) (bJ (y9 C) (aB (bY j4 (aB (aA 1) aD)) (aB (bY j4 (aB (aA 2) aD)) aD))) (vC .non)))
    (bS (EL (aE (lM true) (aA 3) (vC .non)) (aE (rEq false) (aE aW (aA 3) (vC (.int 0))) (vC (.int 0)))))
    eN)
def KS(C:Cc):aI:=
   (cN (rM (bU (aE (lM true) (aA 3) (vC .non))) (bU (aE lL (aE aW (aA 3) (vC (.int 0))) (vC (.int 1)))))
    (bS (vC (.bl false)))
    eN)
def zdy(C:Cc):aI:=
   (aN (bB 5 (cM (bJ zA (aB (aA 2) (aB (iH (aA 0) (gF (aA 4)) (gF (aE dH (aA 4) (vC (.int 12))))) aD)))))
   (aN (bB 6 (cM (fW (dG eO (aA 5)) (bW 0) (bU (aE (rEq true) (aE aW (aA 0) (vC (.int 0))) (vC (.str "drop")))) (aE aW (aA 0) (aE mL (bY dA (aB (aA 0) aD)) (vC (.int 1)))) [none])))
   (aN (cN (rN (vL (rL (bJ KL (aB (bY j4 (aB (aA 2) aD)) (aB (bY j4 (aB (aA 5) aD)) aD))))) (bU (aE (rEq true) (cM (bJ KJ (aB (bY j4 (aB (aA 5) aD)) aD))) (aA 6))))
    (bS (vC (.bl false)))
    eN)
   (aN (bB 7 (bY dA (aB (cM (fW (dG eO (aA 5)) (bW 0) (bU (aE (rEq true) (aE aW (aA 0) (vC (.int 0))) (vC (.str "keep")))) (aA 0) [none])) aD)))
   (cN (rM (bU (aE (lM true) (bJ (y9 C) (aB (bY j4 (aB (aA 1) aD)) (aB (aA 6) aD))) (vC .non))) (rN (bU (aE (lM false) (aA 3) (vC .non))) (bU (aE vW (aE aW (aA 3) (vC (.int 0))) (aA 7)))))
    (bS (vC (.bl false)))
    eN)))))
def zD(C:Cc):aI:=
   (fS (dG eO (fX (aB (vC (.int 15)) (aB (vC (.int 27)) (aB (vC (.int 39)) (aB (vC (.int 51)) aD)))))) (bW 4) (zdy C))
def zE(C:Cc):aI:=
   (bS (vC (.bl true)))
def zdz(C:Cc):aI:=(aN (zdw C) (aN (zdx C) (aN (KR C) (aN (KS C) (aN (zD C) (zE C))))))
end M47
namespace M47
open PySem PySem.Spec PyProof.Rows L2 L3 Rg
theorem zdA{row:List Str}{b e:Int}(h0:0<=b)(h1:b<=e)(h2:e<=row.length):eF (row.map W.str) (some b) (some e)=(bL row b e).map W.str:=by
 obtain⟨i,rfl⟩:=Dk h0
 obtain⟨j,rfl⟩:=Dk (Dc h0 h1)
 unfold eF bL
 rw[HT.sIx_nat,HT.sIx_nat,Aa,Fo (by lia),Fo (by lia),Cu,Cu,List.drop_take,Kj,Jd]
theorem KU{ws:List W}{j:Nat}:eF ws (some (j:Int)) none=ws.drop j:=by
 unfold eF
 rw[HT.sIx_none,HT.sIx_nat]
 by_cases h:j<=ws.length
 ·rw[Fo h,Gs (by rw[Ds];exact Ai _)]
 ·rw[Nat.min_eq_right (by lia),Nat.sub_self,List.take_zero,Gu (by lia)]
theorem zdB{ws:List W}{j:Nat}(h:j<=ws.length):eF ws none (some (j:Int))=ws.take j:=by
 unfold eF
 rw[HT.sIx_none,HT.sIx_nat,Fo h]
 simp
theorem zdC{ws:List W}{M:Mm}{R:K3}(h:qI ws M R):zb9 (bI R) (bP zb8 ws) M:=by
 obtain⟨ts,rfl,hl,r⟩:=h
 refine xI rfl (fP (nT (rest:=[]) (fun w=>.tup [.str "drop",w]) (eP (by rw[Aa];exact Ao hl (by decide))) (fun _ _=>trivial) (fun w hw M' C sb h1=>xI rfl ⟨z2,h1⟩) (aZ.frz ⟨_,Sub.refl _,?_⟩)))
 rw[Bv];exact r
theorem zdD{row:List Str}{t:Str}{b e:Int}(a:uA row t b e):(bL row b e).length<=60:=Ao IV a.few
theorem KW{row:List Str}{b e:Int}{M:Mm}{R:K3}(h0:0<=b)(h1:b<=e)(h2:e<=row.length)(r:R (.rl ((bL row b e).map W.str)) M):mQ (eL row) (some b) (some e) M R:=by
 show R (.rl (eF (row.map W.str) (some b) (some e))) M
 rw[zdA h0 h1 h2];exact r
theorem qJ{ts:List Str}{j:Nat}{i:Int}{τ:S3}{M:Mm}{R:K3}(ei:i=j)(r:R (.rl ((ts.drop j).map W.str)) M):iP τ M fun u M3=>mQ (.rl (ts.map W.str)) (some i) u M3 R:=by
 subst ei
 show R (.rl (eF (ts.map W.str) (some (j:Int)) none)) M
 rw[KU,<-Jd];exact r
theorem KY{ts:List Str}{j:Nat}{M:Mm}{R:K3}(h:j<=ts.length)(r:R (.rl ((ts.take j).map W.str)) M):mQ (.rl (ts.map W.str)) none (some (j:Int)) M R:=by
 show R (.rl (eF (ts.map W.str) none (some (j:Int)))) M
 rw[zdB (by rw[Aa];exact h),<-Kj];exact r
theorem KZ{t:Str}{ts:List Str}{M:Mm}{R:K3}(r:R (.bl (decide (t∈ts))) M):rIn false (.str t) (.rl (ts.map W.str)) M R:=⟨rfl,XY ts,by
 show R (.bl (inW (.str t) (ts.map W.str))) M
 rw[XX];exact r⟩
theorem qK{ts:List Str}:decide (((ts.map W.str).length:Int)=0)=decide (ts=[]):=by
 rw[Aa]
 cases ts <;> simp <;> lia
theorem zdE{ws:List W}{M:Mm}{R:K3}(h:KA ws M R):zb7 (bI R) (bP zb2 ws) M:=by
 obtain⟨row,t,b,e,rfl,a,r⟩:=h
 refine xI rfl (xI rfl (xI rfl (xI rfl (xI rfl (KW a.b0 a.be a.en ?_)))))
 unfold gD at r
 obtain⟨w,hw⟩:∃ w,w=bL row b e:=⟨_,rfl⟩
 rw[<-hw] at r ⊢
 refine xI rfl (xI rfl (bC (fun z=>?_) fun z=>?_))
 ·rw[if_pos (of_decide_eq_true z)] at r
  exact xI rfl (by show(bI R).rt (.int (w.map W.str).length) M;rw[Aa];exact⟨_,Sub.refl _,r⟩)
 rw[if_neg (of_decide_eq_false z)] at r
 refine xI rfl (xI rfl (bC (fun z=>?_) fun z=>?_))
 ·rw[if_pos (of_decide_eq_true (qK.symm.trans z))] at r
  exact⟨_,Sub.refl _,r⟩
 rw[if_neg (of_decide_eq_false (qK.symm.trans z))] at r
 refine xI rfl (xI rfl (KZ (xI rfl (bC (fun z=>?_) fun z=>?_))))
 ·rw[if_pos (of_decide_eq_true z)] at r
  exact xI rfl (by show(bI R).rt (.int (((w.map W.str).length:Int) - 1)) M;rw[Aa];exact⟨_,Sub.refl _,r⟩)
 ·rw[if_neg (of_decide_eq_false z)] at r
  exact xI rfl (by show(bI R).rt (.int (w.map W.str).length) M;rw[Aa];exact⟨_,Sub.refl _,r⟩)
theorem zdF{ws:List W}{M:Mm}{R:K3}(h:KC ws M R):zcg (bI R) (bP zca ws) M:=by
 obtain⟨row,t,b,e,rfl,a,r⟩:=h
 refine xI rfl (xI rfl (xI rfl (xI rfl (xI rfl (KW a.b0 a.be a.en ?_)))))
 have hl:=zdD a
 unfold oG at r
 obtain⟨w,hw⟩:∃ w,w=bL row b e:=⟨_,rfl⟩
 rw[<-hw] at r hl ⊢
 refine xI rfl (xI rfl (bC (fun z=>?_) fun z=>?_))
 ·rw[if_pos (of_decide_eq_true z),Bv] at r
  exact xI rfl ⟨w,rfl,Ao hl (by decide),_,Sub.refl _,r⟩
 rw[if_neg (of_decide_eq_false z)] at r
 refine xI rfl (xI rfl (bC (fun z=>?_) fun z=>?_))
 ·rw[if_pos (of_decide_eq_true (qK.symm.trans z))] at r
  exact xI rfl ⟨z2,z1,_,Sub.refl _,r⟩
 rw[if_neg (of_decide_eq_false (qK.symm.trans z))] at r
 refine xI rfl (xI rfl (KZ (xI rfl (bC (fun z=>?_) fun z=>?_))))
 ·have hm:=of_decide_eq_true z
  rw[if_pos hm] at r
  have hi:=List.idxOf_lt_length_iff.mpr hm
  refine xI rfl ⟨rfl,xI rfl ⟨w,rfl,hm,Ao hl (by decide),xI rfl (xI rfl (xI rfl (KY (Fv hi) ⟨_,rfl,?_,xI rfl ⟨z2,z1,?_⟩⟩)))⟩⟩
  ·rw[Bj];lia
  refine⟨eP (by simp only[Aa,Bj,Ar,Fm];lia),xI rfl (xI rfl (xI rfl (qJ (j:=w.idxOf t + 1) (by lia) ⟨_,rfl,by rw[Ds];lia,eP (by simp only[Aa,Bj,Ds,Ar,Fm,Af];lia),_,Sub.refl _,?_⟩)))⟩
  rw[Bf,Bf,Bv,Bv] at r
  exact r
 ·rename_i z0
  rw[if_neg (of_decide_eq_false z)] at r
  cases w with
  | nil=>exact absurd rfl (of_decide_eq_false (qK.symm.trans z0))
  | cons x w=>
   rw[Ar] at hl
   refine xI rfl ⟨_,iL (j:=0) rfl,xI rfl ⟨z3,z1,xI rfl (xI rfl (qJ (j:=1) rfl ⟨w,rfl,by lia,eP (by simp only[Aa,Ar,Fm];lia),_,Sub.refl _,?_⟩))⟩⟩
   rw[Bc,Bv] at r
   exact r
theorem zdG{r:aV}(hs:∀ t∈r.parts,g9 t){M:Mm}{R:K3}(h:R (.bl (!decide (r.parts=[]))) M):rEq true (.tup (r.parts.map W.str)) (.tup []) M R:=by
 have p1:Pl 1 (.tup (r.parts.map W.str)):=fun w hw=>by
  obtain⟨t,ht,rfl⟩:=Ba.mp hw;exact hs t ht
 have p2:Pl 1 (.tup []):=fun w hw=>nomatch hw
 obtain⟨d1,s1,c1,k1⟩:=pJ (M:=M) p1
 obtain⟨d2,s2,c2,k2⟩:=pJ (M:=M) p2
 refine⟨d1,d2,s1,s2,⟨c1,Ao k1 (by decide)⟩,⟨c2,Ao k2 (by decide)⟩,?_⟩
 have:Ib d1 d2=decide (r.parts=[]):=by
  rw[Dr,wM p1 p2 s1 s2,decide_eq_true_eq]
  refine⟨fun e=>?_,fun e=>by rw[e];rfl⟩
  cases hp:r.parts with
  | nil=>rfl
  | cons t ts=>rw[hp] at e;cases e
 rw[this];exact h
def zF:W->W
 | .tup [n,.tup [],c]=>.tup [n,.tup [.str ""],c]
 | w=>w
theorem K0(r:aV):zF (eS r)=eS (bM r):=by
 unfold eS bM
 cases h:r.parts with
 | nil=>rw[if_pos rfl];rfl
 | cons t ts=>rw[if_neg (fun e=>nomatch e),h];rfl
theorem zdH{ws:List W}{M:Mm}{R:K3}(h:yZ ws M R):zb1 (bI R) (bP zb0 ws) M:=by
 obtain⟨rs,rfl,g,r⟩:=h
 have:=g.few
 refine xI rfl (fP (nT (rest:=[]) zF (eP (by rw[Aa];lia)) (fun _ _=>trivial) (fun w hw M' C sb h1=>?_) (aZ.frz ⟨_,Sub.refl _,?_⟩)))
 ·obtain⟨r0,hr,rfl⟩:=Ba.mp hw
  rw[K0] at h1
  refine xI rfl (xI rfl ⟨Cd _,zdG (fun t ht=>m7 (g.pt r0 hr t ht)) (xI rfl (bC (fun z=>?_) fun z=>?_))⟩)
  ·rw[t6 (fun e=>by rw[e] at z;cases z)] at h1
   exact xI rfl h1
  ·have:r0.parts=[]:=of_decide_eq_true (by rw[<-Kx (decide _),show(!decide (r0.parts=[]))=false from z];rfl)
   unfold bM at h1
   rw[if_pos this] at h1
   exact xI rfl (xI rfl ⟨z1,xI rfl (xI rfl ⟨z3,h1⟩)⟩)
 ·rw[Bv,show zF ∘ eS=eS ∘ bM from funext K0,<-Bv];exact r
theorem uD{rs:List aV}{t:Str}:cH (rs.map bM) t=cH rs t:=by
 unfold cH
 rw[Dr,decide_eq_true_eq,decide_eq_true_eq,mS,mS]
 constructor
 ·rintro⟨r,hr,e⟩
  obtain⟨r0,h0,rfl⟩:=Ba.mp hr
  exact⟨r0,h0,by rw[<-mZ];exact e⟩
 ·rintro⟨r,hr,e⟩
  exact⟨bM r,Ba.mpr ⟨r,hr,rfl⟩,by rw[mZ];exact e⟩
theorem zdI{rs:List aV}(g:cT rs){r:aV}(hr:r∈rs){t:Str}(ht:t∈(bM r).parts)(ho:cH rs t=false):t∈("" : Str) :: cI:=by
 rcases IJ ht with ht | rfl
 ·rcases g.pt r hr t ht with h | h
  ·rw[g.ow r hr t ht] at ho
   exact absurd h (of_decide_eq_false ho)
  ·exact Av _ h
 ·exact Bb
theorem K1{t:Str}(h:t∈("" : Str) :: cI):g9 t:=by
 rcases Ay.mp h with rfl | h
 ·unfold g9;decide +kernel
 ·exact m7 (.inr h)
theorem kZ.put{row:List Str}{A:Str->Int->Prop}{kvs:List (List aG×W)}(h:kZ row A kvs){t0:Str}{b0:Int}:kZ row (fun t b=>A t b\/(t=t0/\b=b0)) (cE kvs (eK (t0,b0)) (oK row t0 b0)):=by
 have e:∀ t b,bA (cE kvs (eK (t0,b0)) (oK row t0 b0)) (eK (t,b))=if eK (t0,b0)=eK (t,b) then some (oK row t0 b0) else bA kvs (eK (t,b)):=fun t b=>j6 kvs _ _ _
 refine⟨fun t b z=>?_,fun t b z=>?_⟩
 ·rw[e]
  split
  ·rename_i q
   cases sZ _ _ q;rfl
  ·rename_i q
   exact h.hit t b (z.resolve_right fun⟨h1,h2⟩=>q (by rw[h1,h2]))
 ·rw[e,if_neg (fun q=>z (.inr (by cases sZ _ _ q;exact⟨rfl,rfl⟩)))]
  exact h.non t b fun q=>z (.inl q)
theorem kZ.iff{row:List Str}{A A':Str->Int->Prop}{kvs:List (List aG×W)}(h:kZ row A kvs)(e:∀ t b,A t b↔A' t b):kZ row A' kvs:=⟨fun t b z=>h.hit t b ((e t b).mpr z),fun t b z=>h.non t b fun q=>z ((e t b).mp q)⟩
theorem uE{n:Nat}:((Cw (n + 1)).map fun(i:Nat)=>W.int i)=(dO n).map W.int:=by unfold dO;rw[Bv];rfl
def uF(b:Int):W->Option W
 | .int e=>if b<=e then some (.int e) else none
 | _=>none
theorem zdJ{b:Int}(l:List Int):(l.map W.int).filterMap (uF b)=(l.filter fun e=>decide (b<=e)).map W.int:=by
 induction l with
 | nil=>rfl
 | cons e l ih=>
  rw[Bc,Ea,Em,ih]
  by_cases h:b<=e
  ·rw[show uF b (.int e)=some (.int e) from if_pos h,if_pos (decide_eq_true h)];rfl
  ·rw[show uF b (.int e)=none from if_neg h,if_neg (fun z=>h (of_decide_eq_true z))]
def zdK(row:List Str)(t:Str)(b:Int):W->W
 | .int e=>J9 (e,gD row t b e)
 | w=>w
theorem zdL{ws:List W}{M:Mm}{R:K3}(h:KD ws M R):zcm (bI R) (bP zch ws) M:=by
 obtain⟨rs,row,rfl,g,w,r⟩:=h
 have hf:=g.few
 have hr:=w.few
 refine fun p hp=>xI rfl ⟨rs.map bM,("" : Str) :: cI,rfl,by rw[Aa];lia,by decide,fun q hq t ht ho=>?_,fun ss aw nd hs=>fP ?_⟩
 ·obtain⟨q0,h0,rfl⟩:=Ba.mp hq
  rw[uD] at ho
  exact zdI g h0 ht ho
 have hsl:ss.length<=4:=len_sub nd hs
 have hU:Hu rs ss:=fun q hq t ht ho=>aw (bM q) (Ba.mpr ⟨q,hq,rfl⟩) t ht (by rw[uD];exact ho)
 have hpl:(dO row.length).length=row.length + 1:=yW
 refine iT (fun i τ M'=>∃ (kvs:List (List aG×W)) (o:Option W×Option W×Option W),τ=[some (cJ (rs.map bM)),some (eL row),some (.ref p),o.1,o.2.1,o.2.2]/\M'=put M p (.dT kvs)/\kZ row (fun t b=>t∈ss.take i/\b∈dO row.length) kvs/\kvs.length<=13 * i) ⟨[],(_,_,_),rfl,rfl,⟨fun t b z=>by simp at z,fun _ _ _=>rfl⟩,Cd _⟩ ?_ ?_
 ·rintro i x τ M' hx ⟨kvs,o,rfl,rfl,st,hl⟩ D hD
  rw[Au] at hx
  obtain⟨t,ht,rfl⟩:=Bk.mp hx
  have hi:=(Ah.mp ht).1
  have hts:=hs t (Bn ht)
  refine xI rfl ⟨row,rfl,by lia,aZ.frz ?_⟩
  rw[uE]
  refine fP (iT (fun j τ M'=>∃ (kvs:List (List aG×W)) (o:Option W×Option W),τ=[some (cJ (rs.map bM)),some (eL row),some (.ref p),some (.str t),o.1,o.2]/\M'=put M p (.dT kvs)/\kZ row (fun t' b=>(t'∈ss.take i/\b∈dO row.length)\/(t'=t/\b∈(dO row.length).take j)) kvs/\kvs.length<=13 * i + j) ⟨kvs,(_,_),rfl,rfl,st.iff fun t b=>by simp,hl⟩ ?_ ?_)
  ·rintro j x τ M' hx ⟨kvs,o,rfl,rfl,st,hl⟩ D2 hD2
   rw[Au] at hx
   obtain⟨b,hb,rfl⟩:=Bk.mp hx
   have hj:=(Ah.mp hb).1
   rw[hpl] at hj
   obtain⟨b0,b1⟩:=gU.mp (Bn hb)
   refine xI rfl ⟨row,rfl,by lia,aZ.frz ?_⟩
   rw[uE]
   have hfl:∀ e∈(dO row.length).filter (fun e=>decide (b<=e)),b<=e/\e<=row.length:=fun e he=>⟨of_decide_eq_true (Dh.mp he).2,(gU.mp (Dh.mp he).1).2⟩
   refine fP (nU (rest:=[some (.int b)]) (uF b) (eP (by rw[Aa];lia)) (fun _ _=>trivial) (fun v hv M' C D' sb h1 h2=>?_) (aZ.frz ?_))
   ·obtain⟨e,he,rfl⟩:=Ba.mp hv
    refine xI rfl (xI rfl (xI rfl (bC (fun z=>?_) fun z=>?_)))
    ·exact xI rfl (h1 _ (if_pos (of_decide_eq_true z)))
    ·exact h2 (if_neg (of_decide_eq_false z))
   rw[zdJ]
   have hlf:((dO row.length).filter fun e=>decide (b<=e)).length<=13:=Ao (Hd _ _) (by rw[hpl];lia)
   refine xI rfl (fP (nT (rest:=[some (eL row),some (.str t),some (.int b)]) (zdK row t b) (eP (by rw[Aa];lia)) (fun _ _=>trivial) (fun v hv M' C sb h1=>?_) (aZ.frz ?_)))
   ·obtain⟨e,he,rfl⟩:=Ba.mp hv
    obtain⟨e1,e2⟩:=hfl e he
    exact xI rfl (xI rfl (xI rfl (xI rfl (xI rfl ⟨row,t,b,e,rfl,⟨fun x hx=>m7 (.inr (w.wd x hx)),by lia,K1 hts,b0,e1,e2⟩,z2,h1⟩))))
   rw[Bv]
   refine xI rfl (xI rfl (xI rfl ⟨z2,nV (k:=eK (t,b)) aT (eR (by lia)) (hD2 _ _ ⟨_,(_,_),rfl,by rw[fJ];rfl,(st.put (t0:=t) (b0:=b)).iff fun t' b'=>?_,Ao (pN kvs _ _) (by lia)⟩)⟩))
   rw[lV hb,Be,An]
   constructor
   ·rintro((h | ⟨h1,h2⟩) | ⟨h1,h2⟩)
    ·exact .inl h
    ·exact .inr ⟨h1,.inl h2⟩
    ·exact .inr ⟨h1,.inr h2⟩
   ·rintro(h | ⟨h1,h2 | h2⟩)
    ·exact .inl (.inl h)
    ·exact .inl (.inr ⟨h1,h2⟩)
    ·exact .inr ⟨h1,h2⟩
  ·rintro τ M' ⟨kvs,o,rfl,rfl,st,hl⟩
   rw[Aa,Ck] at st
   rw[Aa,hpl] at hl
   refine hD _ _ ⟨kvs,(_,_,_),rfl,rfl,st.iff fun t' b=>?_,by lia⟩
   rw[lV ht,Be,An]
   constructor
   ·rintro(⟨h1,h2⟩ | ⟨h1,h2⟩)
    ·exact⟨.inl h1,h2⟩
    ·exact⟨.inr h1,h2⟩
   ·rintro⟨h1 | h1,h2⟩
    ·exact .inl ⟨h1,h2⟩
    ·exact .inr ⟨h1,h2⟩
 ·rintro τ M' ⟨kvs,o,rfl,rfl,st,hl⟩
  rw[Aa,Ck] at st
  exact xI rfl ⟨_,Sub.refl _,r ss kvs hU hs hsl st p hp⟩
theorem zdM{rs:List aV}{row U:List Str}(g:cT rs):pR (bX rs row U) (dO row.length) (rs.map bM).length 4:=by
 refine⟨fun p h=>h,fun t p e c h1 h2=>?_,Ai _,fun r hr=>?_⟩
 ·obtain⟨_,h3,h4,h5,_⟩:=kC.mp h2
  exact gU.mpr ⟨Dc h3 h4,h5⟩
 ·obtain⟨r0,h0,rfl⟩:=Ba.mp hr
  have:=yE g h0
  lia
theorem zdN{C:Cc}{ws:List W}{M:Mm}{R:K3}(h:KG C ws M R):zco C (bI R) (bP zcn ws) M:=by
 obtain⟨rs,row,rfl,g,w,r⟩:=h
 have hf:=g.few
 have hr:=w.few
 refine xI rfl ⟨rs,rfl,g,xI rfl (xI rfl ⟨row,rfl,by lia,aZ.frz (xI rfl (xI rfl ⟨rs,row,rfl,g,w,fun U kvs hU hs hl st=>iN.frz (xI rfl ⟨rs,rfl,by lia,aZ.frz ?_⟩)⟩))⟩)⟩
 rw[uE]
 have hpl:(dO row.length).length=row.length + 1:=yW
 have hst:∀ t p,(lZ U row t p).length<=13:=fun t p=>by
  unfold lZ
  split
  ·rw[Aa]
   exact Ao (Hd _ _) (by rw[hpl];lia)
  ·exact Cd _
 refine⟨bX rs row U,⟨rs.map bM,ownOf (rs.map bM),kvs⟩,dO row.length,4,13,?_,by show(rs.map bM).length<=100;rw[Aa];lia,rfl,⟨rfl,fun t=>(qC (rs.map bM) t).trans uD,fun t p=>?_⟩,zac,zdM g,by decide,by show(dO row.length).length<=1000;lia,hst,?_,fun B hB=>yG (r U B hU hs hB)⟩
 ·show [_,_,_,_]=[_,_,_,_]
  congr 4
  show W.rl (rs.map (fun _=>W.int 0))=W.rl ((Cw (rs.map bM).length).map fun n=>W.int 0)
  rw[Lb,Lb,Fj,Aa]
 ·by_cases z:t∈U/\p∈dO row.length
  ·refine .inr ((st.hit t p z).trans ?_)
   show some (oK row t p)=some (.rl ((lZ U row t p).map fun z=>.tup [.int z.1,.int z.2]))
   unfold lZ oK
   rw[if_pos z,Bv];rfl
  ·exact .inl ⟨st.non t p z,if_neg z⟩
 ·have e1:(i8 (bX rs row U)).length=(rs.map bM).length * (dO row.length).length:=tK (bX rs row U) (rs.map bM).length
  rw[e1,hpl]
  show(rs.map bM).length * (row.length + 1) + (rs.map bM).length * ((4 + 1) * ((row.length + 1) * (row.length + 1))) * (13 + (row.length + 1)) + (rs.map bM).length * ((4 + 1) * ((row.length + 1) * (row.length + 1))) + (row.length + 1) + 13 + 1 < 10000000
  rw[Aa]
  have a1:rs.length * (row.length + 1)<=9 * 13:=Gq hf (by lia)
  have a2:(row.length + 1) * (row.length + 1)<=13 * 13:=Gq (by lia) (by lia)
  have a3:rs.length * ((4 + 1) * ((row.length + 1) * (row.length + 1)))<=9 * (5 * (13 * 13)):=Gq hf (Nat.mul_le_mul_left _ a2)
  have a4:=Gq a3 (show 13 + (row.length + 1)<=26 by lia)
  lia
end M47
namespace M69
open PySem PySem.Spec PyProof.Rows L2 L3 Rg
theorem zG{α β:Type}{P:α->β->Prop}:∀ {l:List α} {l':List β},l.length=l'.length->(∀ (k:Nat) a b,l[k]? = some a->l'[k]? = some b->P a b)->Fn P l l'
 | [],[],_,_=>.nil
 | [],_ :: _,h,_=>nomatch h
 | _ :: _,[],h,_=>nomatch h
 | a :: l,b :: l',h,k=>.cons (k 0 a b rfl rfl) (zG (Nat.succ.inj h) fun i x y hx hy=>k (i + 1) x y hx hy)
end M69
namespace M47
open PySem PySem.Spec PyProof.Rows L2 L3 Rg
open M69 (zG qH yX yY)
structure zdO(Vl:Addr->a7->W->Mm->Prop)(M0 M:Mm)(p:Addr)(A:List (a7×W)):Prop where
 sub:L3.Sub M0 M
 new:M0 p=none
 at_:M p=some (.dT (dX fK (fun w=>w) A))
 inn:∀ x∈A,Vl p x.1 x.2 M
abbrev wz(rs:List aV)(B:bE)(aM:a7)(fi gi:W)(p:Addr)(l:S3):S3:=some (cJ rs) :: some (l0 B) :: some (eQ aM) :: some fi :: some gi :: some (.dk (ownOf rs)) :: some (.ref p) :: l
def zdP(G:Sr)(Vl:a7->W->Prop)(fw:Str->Int->Int->W)(cut:List Int)(ps:List Str)(kids:List W):Prop:=kids.length=ps.length/\∀ k t,ps[k]? = some t->∃ y,kids[k]? = some y/\(G.own t=true->Vl (t,cut.getD k 0,cut.getD (k + 1) 0) y)/\(G.own t=false->y=fw t (cut.getD k 0) (cut.getD (k + 1) 0))
theorem K2{cw cr:aY}{G:Sr}{B:bE}{aM:a7}{fi gi:W}{M:Mm}{R:K3}{Vl:Addr->a7->W->Mm->Prop}{fw:Str->Int->Int->W}{ok:a7->Bool}(w:Wb G B)(ht:aM∈B.map (·.1))(kt:ok aM=true)(kc:qE G B ok)
  (stV:∀ p f w M1 M2,Vl p f w M1->(∀ a o,a≠p->M a=none->M1 a=some o->M2 a=some o)->Vl p f w M2)
  (hw:∀ p (o7 o8 o10:Option W) (t:Str) (k:Nat) (cut:List Int) (M1:Mm) (Q:K3),k + 1 < cut.length->L3.Sub M M1->(∃ pr,(cut.getD (k + 1) 0,pr)∈G.steps t (cut.getD k 0))->Q (fw t (cut.getD k 0) (cut.getD (k + 1) 0)) M1->cw (wz G.rs B aM fi gi p [o7,o8,some (fZ cut),o10,some (.int (k:Int)),some (.str t)]) M1 Q)
  (hr:∀ p q (pre post:bE) (f:a7) (v:aJ×Nat×List Int) (ru:aV) (kids:List W) (M1:Mm) (Q:K3) (o7 o9 o11 o12:Option W),M p=none->B=pre ++ (f,v) :: post->kW G pre (f,v) ru->ok f=true->M1 q=none->ru.parts.length<=100->(∀ a o,M a=some o->M1 a=some o)->(∃ o,M1 p=some o)->zdP G (fun f w=>Vl p f w M1) fw v.2.2 ru.parts kids->
   (∀ y M2,(∀ a o,M1 a=some o->M2 a=some o)->Vl p f y M2->Q y M2)->cr (wz G.rs B aM fi gi p [o7,some (.int v.2.1),o9,some (.ref q),o11,o12]) (put M1 q (.lst kids)) Q)
  (r:∀ p y M',M p=none->L3.Sub M M'->Vl p aM y M'->(bI R).rt y M'):zC cw cr (bI R) (bP zB [cJ G.rs,l0 B,eQ aM,fi,gi]) M:=by
 have hown:G.own=cH G.rs:=funext w.own
 have nd:=J0 w.ord
 refine xI rfl ⟨G.rs,rfl,(Ao w.few (by decide)),aZ.frz ⟨namesOf G.rs,rfl,JJ w.few,fun p hp=>xI rfl (xI rfl (xI rfl ⟨G,B,aM,rfl,w,ht,fun P hP hcl hmin=>aZ.frz (fP ?_)⟩))⟩⟩
 obtain⟨F,hF⟩:∃ F,F=(B.map (·.1)).filter P:=⟨_,rfl⟩
 rw[<-hF]
 have ndF:F.Nodup:=by rw[hF];exact nd.filter _
 have lF:F.length<=2000:=Ao (by rw[hF];exact Hd _ _) (by rw[Aa];exact w.bl)
 refine iT (fun j τ M'=>∃ (A:List (a7×W)) (o:Option W×Option W×Option W×Option W×Option W×Option W),τ=wz G.rs B aM fi gi p [o.1,o.2.1,o.2.2.1,o.2.2.2.1,o.2.2.2.2.1,o.2.2.2.2.2]/\zdO Vl M M' p A/\A.map (·.1)=F.take j) ⟨[],(_,_,_,_,_,_),rfl,⟨Sub.new hp,hp,aT,fun _ h=>nomatch h⟩,rfl⟩ ?_ ?_
 ·rintro j x τ M' hx ⟨A,o,rfl,md,hA⟩ D1 hD1
  rw[Au] at hx
  obtain⟨f,hf,rfl⟩:=Bk.mp hx
  have hfm2:=Bn hf
  rw[hF] at hfm2
  obtain⟨hfB,hfP⟩:=Dh.mp hfm2
  obtain⟨v,hv,lv⟩:=JK hfB
  obtain⟨pre,post,sp⟩:=iS hv
  obtain⟨ru,E⟩:=w.ord pre _ post sp
  obtain⟨ru',h1,h2⟩:=tI (rs:=G.rs) (n:=v.2.1) (Ah.mp E.ru).1
  cases (show some ru'=some ru from h1.symm.trans E.ru)
  have hpl:=w.pl ru (Bn h1)
  have hcutl:ru.parts.length + 1<=v.2.2.length:=E.ln
  have htk:F.take j=(pre.map (·.1)).filter P:=zbD ndF (by rw[hF,sp,Bf,Bc,List.filter_append,Em,if_pos hfP]) hf
  have hpf:∀ k t,ru.parts[k]? = some t->G.own t=true->∃ b,aH A (t,v.2.2.getD k 0,v.2.2.getD (k + 1) 0)=some b:=fun k t hk ho=>by
   have hg:(t,v.2.2.getD k 0,v.2.2.getD (k + 1) 0)∈kY G.own ru.parts v.2.2:=Ie.mpr ⟨(t,k),Gz.mpr hk,by rw[if_pos ho]⟩
   refine Cq.mp (gT.mpr ?_)
   rw[hA,htk]
   refine Dh.mpr ⟨JL E hg,hcl (f,v) (by rw[sp];simp) hfP _ ?_⟩
   rw[t5 E];exact hg
  have hnf:aH A f=none:=by
   rw[<-Option.not_isSome_iff_eq_none,gT,hA,htk]
   intro z
   have:=(Dh.mp z).1
   rw[<-gT,E.no] at this
   cases this
  refine xI rfl (xI rfl ⟨_,⟨fK f,rfl,lv.symm⟩,xI rfl (xI rfl (xI rfl ⟨_,⟨fK f,rfl,lv.symm⟩,xI rfl ⟨Cd _,fun q hq=>?_⟩⟩))⟩)
  have hM2:∀ {X:MO} {a:Addr} {o:MO},M' a=some o->put M' q X a=some o:=fun {X a o} e=>by rw[aQ (fun z=>by rw[z,hq] at e;cases e)];exact e
  obtain⟨kids,hk⟩:∃ kids:List W,kids=ru.parts.zipIdx.map fun x=>if G.own x.1=true then(aH A (x.1,v.2.2.getD x.2 0,v.2.2.getD (x.2 + 1) 0)).getD .non else fw x.1 (v.2.2.getD x.2 0) (v.2.2.getD (x.2 + 1) 0):=⟨_,rfl⟩
  have hkl:kids.length=ru.parts.length:=by rw[hk,Aa,List.length_zipIdx]
  have hka:∀ k t,ru.parts[k]? = some t->kids[k]? = some (if G.own t=true then(aH A (t,v.2.2.getD k 0,v.2.2.getD (k + 1) 0)).getD .non else fw t (v.2.2.getD k 0) (v.2.2.getD (k + 1) 0)):=fun k t ht=>by
   rw[hk,Au,Li,ht,Gi];rfl
  refine xI rfl (xI rfl ⟨_,h2,xI rfl (xI rfl ?_)⟩)
  refine iT (fun k τ M2=>∃ o11 o12,τ=wz G.rs B aM fi gi p [some (eQ f),some (.int v.2.1),some (fZ v.2.2),some (.ref q),o11,o12]/\M2=put M' q (.lst (kids.take k))) ⟨_,xI rfl rfl⟩ ?_ ?_
  ·rintro k x τ M2 hx ⟨o11,o12,rfl,rfl⟩ D2 hD2
   rw[sD,Au] at hx
   cases hs:ru.parts[k]? with
   | none=>rw[hs] at hx;cases hx
   | some t=>
    rw[hs] at hx
    cases hx
    have hk1:=(Ah.mp hs).1
    have ho:(bA (ownOf G.rs) (Sum.inr t:aG)).isSome=G.own t:=by rw[hown];exact qC G.rs t
    have lk:(kids.take k).length < Ak:=eR (by rw[Bj];lia)
    have fin:∀ y,kids[k]? = some y->put (put M' q (.lst (kids.take k))) q (.lst (kids.take k ++ [y]))=put M' q (.lst (kids.take (k + 1))):=fun y hy=>by rw[fJ,Eu,hy];rfl
    refine⟨rfl,rfl,xI rfl (xI rfl ⟨_,⟨Sum.inr t,rfl,rfl⟩,xI rfl (bC (fun z=>?_) fun z=>?_)⟩)⟩
    ·have z:=ho.symm.trans z
     have c1:cC (v.2.2.map W.int) ((0 + k:Nat):Int)=some (.int (v.2.2.getD k 0)):=by rw[Gi];exact l8 (by lia)
     have c2:cC (v.2.2.map W.int) (((0 + k:Nat):Int) + 1)=some (.int (v.2.2.getD (k + 1) 0)):=by rw[Gi];exact l8 (k:=k + 1) (by lia)
     obtain⟨b,hb⟩:=hpf k t hs z
     exact xI rfl ⟨eT aT,xI rfl (xI rfl (xI rfl (xI rfl ⟨_,c1,xI rfl (xI rfl ⟨_,c2,z3,mW (k:=fK (t,v.2.2.getD k 0,v.2.2.getD (k + 1) 0)) (hM2 md.at_) (by rw[jC jO,hb];rfl) ⟨_,aT,lk,hD2 _ _ ⟨_,xI rfl (fin _ (by rw[hka k t hs,if_pos z,hb];rfl))⟩⟩⟩)⟩)))⟩
    ·have z:=ho.symm.trans z
     refine xI rfl ⟨eT aT,hw p _ _ _ t (0 + k) v.2.2 _ _ (by lia) (fun a o e=>hM2 (md.sub a o e)) (by rw[Gi];exact E.pw k t hs z) ⟨_,aT,lk,hD2 _ _ ⟨_,xI rfl (fin _ ?_)⟩⟩⟩
     rw[hka k t hs,if_neg (ne_true_of_eq_false z),Gi]
  ·rintro τ M2 ⟨o11,o12,rfl,rfl⟩
   rw[lU,Aa,<-hkl,Ck]
   refine hr p q pre post f v ru kids M' _ _ _ _ _ hp sp E (hmin ok kt kc f hfP) hq hpl md.sub ⟨_,md.at_⟩ ⟨hkl,fun k t hs=>⟨_,hka k t hs,fun z=>?_,fun z=>by rw[if_neg (ne_true_of_eq_false z)]⟩⟩ fun y M2 s2 vy=>?_
   ·obtain⟨b,hb⟩:=hpf k t hs z
    rw[if_pos z,hb]
    exact md.inn _ (J1 hb)
   ·refine xI rfl (xI rfl (nV (k:=fK f) (s2 _ _ md.at_) (eR (by rw[Aa,<-Aa (f:=Dx),hA,Bj];lia)) (hD1 _ _ ⟨cS A f y,(_,_,_,_,_,_),rfl,⟨gM (md.sub.trans s2) md.new,md.new,?_,fun x hx=>?_⟩,?_⟩)))
    ·rw[aT,xH (f:=fun w=>w) jO]
    ·rcases zbO hx with rfl | ⟨hx,_⟩
     ·exact stV _ _ _ _ _ vy fun a o n _ e=>by rw[aQ n];exact e
     ·exact stV _ _ _ _ _ (md.inn x hx) fun a o n _ e=>by rw[aQ n];exact s2 a o e
    ·rw[tF hnf,Bf,hA,Eu,hf];rfl
 ·rintro τ M' ⟨A,o,rfl,md,hA⟩
  rw[Aa,Ck] at hA
  obtain⟨b,hb⟩:=Cq.mp (gT.mpr (show aM∈A.map (·.1) by rw[hA,hF];exact Dh.mpr ⟨ht,hP⟩))
  exact xI rfl (xI rfl (mW (k:=fK aM) md.at_ (by rw[jC jO,hb];rfl) (r p b M' hp md.sub (md.inn _ (J1 hb)))))
theorem zdQ{C:Cc}{ws:List W}{M:Mm}{R:K3}(h:KH C ws M R):zcu C (bI R) (bP zB ws) M:=by
 obtain⟨G,B,aM,rfl,w,ht,r⟩:=h
 have c1:∀ {k:Nat} {cut:List Int},k + 1 < cut.length->cC (cut.map W.int) (k:Int)=some (.int (cut.getD k 0)):=fun h=>l8 (by lia)
 have c2:∀ {k:Nat} {cut:List Int},k + 1 < cut.length->cC (cut.map W.int) ((k:Int) + 1)=some (.int (cut.getD (k + 1) 0)):=fun {k cut} h=>l8 (k:=k + 1) h
 refine K2 (Vl:=fun _ f w _=>w=p9 G B f) (fw:=fun t _ _=>.str t) (ok:=fun _=>true) w ht rfl (fun _ _ _ _ _=>rfl) (fun _ _ _ _ _ h _=>h) (fun p o7 o8 o10 t k cut M1 Q hk _ _ hQ=>⟨rfl,xI rfl (xI rfl (xI rfl ⟨_,c1 hk,xI rfl (xI rfl ⟨_,c2 hk,t,_,xI rfl hQ⟩)⟩))⟩) (fun p q pre post f v ru kids M1 Q o7 o9 o11 o12 hp sp E ok hq hpl sb hpp kid hQ=>?_) fun p y M' hp sb e=>⟨M,sb,by rw[e];exact r⟩
 refine⟨rfl,xI rfl (xI rfl (.inl ⟨_,aT,?_⟩))⟩
 rw[kH hq]
 refine⟨v.2.1,kids,rfl,hQ _ _ (fun _ _ h=>h) ?_⟩
 refine Eq.trans ?_ (xT sp E).symm
 show W.tup [_,.tup kids]=.tup [_,.tup _]
 congr 3
 show W.tup _=W.tup _
 congr 1
 apply List.ext_getElem?
 intro k
 cases hs:ru.parts[k]? with
 | none=>
  have:=Kd.mp hs
  rw[Iy (by rw[kid.1];exact this),Iy (by unfold oC;simp;exact this)]
 | some t=>
  obtain⟨y,h1,h2,h3⟩:=kid.2 k t hs
  rw[h1]
  unfold oC
  rw[Au,Li,hs,Gi]
  show some y=some (if G.own t=true then _ else _)
  by_cases ho:G.own t=true
  ·rw[if_pos ho,h2 ho]
  ·rw[if_neg ho,h3 (Bool.eq_false_iff.mpr ho)]
theorem zdR{C:Cc}{ws:List W}{M:Mm}{R:K3}(h:y6 C ws M R):zcx C (bI R) (bP zcw ws) M:=by
 obtain⟨G,B,aM,rfl,w,ht,r⟩:=h
 exact xI rfl (xI rfl (xI rfl ⟨G,B,aM,rfl,w,ht,_,Sub.refl _,r⟩))
theorem zdS{C:Cc}{cy:Addr}{v:V}{ws:List W}{M:Mm}{R:K3}(h:y0 C cy v ws M R):zcv C cy v (bI R) (bP zB ws) M:=by
 obtain⟨rs,row,U,B,aM,f,rfl,w,ht,mf,rw_,hU,hy,r⟩:=h
 obtain⟨G,hG⟩:∃ G,G=bX rs row U:=⟨_,rfl⟩
 have c1:∀ {k:Nat} {cut:List Int},k + 1 < cut.length->cC (cut.map W.int) (k:Int)=some (.int (cut.getD k 0)):=fun h=>l8 (by lia)
 have c2:∀ {k:Nat} {cut:List Int},k + 1 < cut.length->cC (cut.map W.int) ((k:Int) + 1)=some (.int (cut.getD (k + 1) 0)):=fun {k cut} h=>l8 (k:=k + 1) h
 have hst:∀ t b e c,(e,c)∈G.steps t b->uA row t b e:=fun t b e c h=>by
  rw[hG] at h
  obtain⟨h1,h2,h3,h4,_⟩:=kC.mp h
  exact⟨fun x hx=>m7 (.inr (rw_.wd x hx)),Ao rw_.few (by decide),K1 (hU t h1),h2,h3,h4⟩
 rw[show rs.map bM=G.rs by rw[hG];rfl]
 rw[<-hG] at w hy r
 refine K2 (Vl:=fun p f w M1=>∃ a,w=.ref a/\a≠p/\M a=none/\M1 a=some (.lst ((gN row (yT G B f)).map eC))) (fw:=fun t b e=>.rl ((oG row t b e).map eC)) (ok:=fun f=>decide ((gN row (yT G B f)).length<=200000)) w ht (decide_eq_true hy) (fun e he ho f hf=>decide_eq_true (Ao (zba w.ord he hf) (of_decide_eq_true ho)))
  (fun p f w M1 M2 ⟨a,h1,h2,h3,h4⟩ k=>⟨a,h1,h2,h3,k a _ h2 h3 h4⟩) (fun p o7 o8 o10 t k cut M1 Q hk sb ⟨pr,hp⟩ hQ=>⟨f,_,rfl,sb _ _ mf,xI rfl (xI rfl (xI rfl ⟨_,c1 hk,xI rfl (xI rfl ⟨_,c2 hk,_,_,_,_,rfl,sb _ _ mf,xI rfl (xI rfl (xI rfl (xI rfl ⟨row,t,_,_,rfl,hst _ _ _ _ hp,hQ⟩)))⟩)⟩))⟩)
  (fun p q pre post f v ru kids M1 Q o7 o9 o11 o12 hp sp E ok hq hpl sb hpp kid hQ=>?_) fun p y M' hp sb ⟨a,h1,h2,h3,h4⟩=>⟨_,Sub.refl _,by rw[h1];exact r a M' h3 sb h4⟩
 obtain⟨xss,hxs⟩:∃ xss:List (List W),xss=ru.parts.zipIdx.map fun x=>(gN row (if G.own x.1=true then yT G B (x.1,v.2.2.getD x.2 0,v.2.2.getD (x.2 + 1) 0) else [(x.1,v.2.2.getD x.2 0,v.2.2.getD (x.2 + 1) 0)])).map eC:=⟨_,rfl⟩
 have ey:xss.flatten=(gN row (yT G B f)).map eC:=by
  rw[hxs,xW sp E,lY,JN,List.map_flatten,Bv,Bv];rfl
 have pa:Fn (qH M1) kids xss:=zG (by rw[kid.1,hxs];simp) fun k a b ha hb=>by
  have hk:k < ru.parts.length:=by rw[<-kid.1];exact(Ah.mp ha).1
  have ht:=Ax hk
  obtain⟨y,h1,h2,h3⟩:=kid.2 k _ ht
  rw[ha] at h1;cases h1
  rw[hxs,Au,Li,ht,Gi] at hb
  have hb:=Cj hb
  rw[<-hb]
  show qH M1 a (Ji eC (gN row (if G.own ru.parts[k]=true then yT G B (ru.parts[k],v.2.2.getD k 0,v.2.2.getD (k + 1) 0) else [(ru.parts[k],v.2.2.getD k 0,v.2.2.getD (k + 1) 0)])))
  by_cases ho:G.own ru.parts[k]=true
  ·rw[if_pos ho]
   obtain⟨c,e1,_,_,e4⟩:=h2 ho
   exact .inr ⟨c,e1,e4⟩
  ·rw[if_neg ho]
   refine .inl ((h3 (Bool.eq_false_iff.mpr ho)).trans ?_)
   unfold gN
   simp
 refine⟨rfl,xI rfl (xI rfl (.inl ⟨_,aT,?_⟩))⟩
 rw[kH hq]
 refine⟨v.2.1,kids,xss,rfl,by rw[kid.1];lia,pa,by rw[ey,Aa];exact Ao (of_decide_eq_true ok) (by decide),fun b hb=>?_⟩
 rw[ey]
 obtain⟨o,eo⟩:=hpp
 exact hQ (.ref b) _ (Sub.new hb) ⟨b,rfl,(fun e=>by rw[e,eo] at hb;cases hb),Sub.non sb hb,aT⟩
end M47
namespace M47
open PySem PySem.Spec PyProof.Rows L2 L3 Rg
section
variable {rs:List aV}{row U:List Str}{B:bE}
theorem zdT(g:cT rs)(w:hZ row)(hB:dC (bX rs row U) B):Wb (bX rs row U) B:=
 ⟨fun _=>uD.symm,by show(rs.map bM).length<=100;rw[Aa];exact Ao g.few (by decide),oB hB,Ao (JM g w hB) (by decide),fun r hr=>by
  obtain⟨r0,h0,rfl⟩:=Ba.mp hr
  exact Ao (yE g h0) (by decide)⟩
theorem zdU(g:cT rs)(w:hZ row)(hB:dC (bX rs row U) B):Wb (qF rs row U) B:=
 ⟨fun _=>rfl,Ao g.few (by decide),za6 hB,Ao (JM g w hB) (by decide),fun r hr=>Ao (g.fp r hr) (by decide)⟩
theorem zdV:bL row 0 (row.length:Int)=row:=by
 unfold bL
 rw[Cu,Ck];rfl
theorem zdW(hB:dC (bX rs row U) B){X:Str}{x:aJ×Nat×List Int}(hx:aH B (X,0,(row.length:Int))=some x):Gn (gN row (yT (bX rs row U) B (X,0,(row.length:Int)))) row (II (yT (bX rs row U) B (X,0,(row.length:Int)))) x.1.1:=by
 obtain⟨h1,h2⟩:=yA hB hx
 have:=xY (row:=row) h1
 rw[<-h2] at this
 rw[show bL row (X,(0:Int),(row.length:Int)).2.1 (X,(0:Int),(row.length:Int)).2.2=row from zdV] at this
 exact this
theorem zdX(g:cT rs)(w:hZ row)(hU:Hu rs U)(hB:dC (bX rs row U) B){X:Str}{x:aJ×Nat×List Int}(hx:aH B (X,0,(row.length:Int))=some x):(gN row (yT (bX rs row U) B (X,0,(row.length:Int)))).length<=200000:=by
 obtain⟨x',h1,h2⟩:=IX g w hU hB ((zal g w hU hB).mpr ⟨x,hx⟩)
 rw[hx] at h1;cases h1
 have:=za9 (zdW hB hx)
 have:=w.few
 lia
end
theorem zdY{C:Cc}{cy:Addr}{ws:List W}{M:Mm}{R:K3}(h:KI C ws M R):zcE C cy (bI R) (bP zcy ws) M:=by
 obtain⟨q,rs,row,rfl,g,w,mt,r⟩:=h
 refine xI rfl (xI rfl ⟨q :: rs,row,rfl,g,w,fun U B hU hs hB p hp=>⟨p,rfl,.inr ⟨_,aT,?_⟩⟩⟩)
 rw[kH hp]
 obtain⟨r1,r2⟩:=r U B hU hs hB
 have hnd:=J0 (oB hB)
 refine xI rfl (xI rfl ⟨q,rs,row,rfl,xI rfl (xI rfl ?_)⟩)
 refine⟨_,⟨fK (eM q row),rfl,rfl⟩,xI rfl (bC (fun z=>?_) fun z=>?_)⟩
 ·refine⟨_,Sub.refl _,r1 ?_⟩
  have z:(!(bA (dX fK fG B) (fK (eM q row))).isSome)=true:=z
  rw[jC jO] at z
  cases hx:aH B (eM q row) with
  | none=>rfl
  | some x=>rw[hx] at z;cases z
 ·obtain⟨x,hx,lx⟩:∃ x,aH B (eM q row)=some x/\bA (dX fK fG B) (fK (eM q row))=some (fG x):=by
   have z:(!(bA (dX fK fG B) (fK (eM q row))).isSome)=false:=z
   rw[jC jO] at z
   cases hx:aH B (eM q row) with
   | none=>rw[hx] at z;cases z
   | some x=>exact⟨x,rfl,by rw[jC jO,hx];rfl⟩
  have ht:eM q row∈B.map (·.1):=gT.mp (by rw[hx];rfl)
  refine xI rfl ⟨q :: rs,rfl,g,xI rfl (xI rfl ⟨mt,fun f nf=>⟨f,iJ,.non,.non,eL row,rfl,aT,fun v=>?_⟩⟩)⟩
  rw[fJ]
  refine⟨q :: rs,row,U,B,eM q row,f,rfl,zdT g w hB,ht,aT,w,hs,zdX g w hU hB hx,fun p1 M1 n1 sb m1=>?_⟩
  have hpf:p1≠f:=fun e=>by rw[e,aT] at n1;cases n1
  rw[aQ hpf] at n1
  refine xI rfl (xI rfl ⟨_,⟨fK (eM q row),rfl,lx.symm⟩,xI rfl (xI rfl (xI rfl (xI rfl (xI rfl (xI rfl ⟨qF (q :: rs) row U,B,eM q row,rfl,zdU g w hB,ht,z3,_,Sub.refl _,r2 x hx p1 _ n1 (fun a o e=>?_) ?_⟩)))))⟩)
  ·have haf:a≠f:=fun z=>by rw[z,nf] at e;cases e
   rw[nG haf]
   exact sb a o (by rw[aQ haf];exact e)
  ·rw[nG hpf];exact m1
theorem zdZ{C:Cc}{ws:List W}{M:Mm}{R:K3}(h:KQ C ws M R):zdi C (bI R) (bP zdh ws) M:=by
 obtain⟨rs,row,rfl,g,w,r⟩:=h
 have hl:=w.few
 have hf:=g.few
 have hpl:(dO row.length).length=row.length + 1:=yW
 refine xI rfl (xI rfl ⟨row,rfl,Ao hl (by decide),aZ.frz (xI rfl ⟨row,rfl,Ao hl (by decide),iN.frz (xI rfl ?_)⟩)⟩)
 rw[uE]
 refine⟨eU rs row,⟨rs,ownOf rs,jE row⟩,dO row.length,5,1,?_,by show rs.length<=100;lia,rfl,⟨rfl,qC rs,fun t p=>?_⟩,⟨fun _=>Eo _,fun t p e c h=>by rw[(p6.mp h).2.2.2];exact Eo _⟩,⟨fun p h=>h,fun t p e c h1 h2=>?_,Ai _,fun r hr=>?_⟩,by decide,by show(dO row.length).length<=1000;lia,fun t p=>?_,?_,fun B hB=>yG (r B hB)⟩
 ·show [_,_,_,_]=[_,_,_,_]
  congr 4
  show W.rl (rs.map fun _=>W.int 0)=W.rl ((Cw rs.length).map fun n=>W.int 0)
  rw[Lb,Lb,Fj]
 ·show(bA (jE row) (eK (t,p))=none/\lX row t p=[])\/bA (jE row) (eK (t,p))=some (.rl ((lX row t p).map fun z=>.tup [.int z.1,.int z.2]))
  rw[zav]
  unfold lX
  by_cases h:0<=p/\row[p.toNat]? = some t
  ·right;rw[if_pos h,if_pos h];rfl
  ·left;rw[if_neg h,if_neg h];exact⟨rfl,rfl⟩
 ·obtain⟨m1,m2,rfl,_⟩:=p6.mp h2
  have:=(Ah.mp m2).1
  exact gU.mpr ⟨by lia,by lia⟩
 ·have:=g.fp r hr
  lia
 ·show(lX row t p).length<=1
  unfold lX;split <;> simp
 ·have e1:(i8 (eU rs row)).length=rs.length * (dO row.length).length:=tK (eU rs row) rs.length
  rw[e1,hpl]
  show rs.length * (row.length + 1) + rs.length * ((5 + 1) * ((row.length + 1) * (row.length + 1))) * (1 + (row.length + 1)) + rs.length * ((5 + 1) * ((row.length + 1) * (row.length + 1))) + (row.length + 1) + 1 + 1 < 10000000
  have a1:rs.length * (row.length + 1)<=9 * 18:=Gq hf (by lia)
  have a2:(row.length + 1) * (row.length + 1)<=18 * 18:=Gq (by lia) (by lia)
  have a3:rs.length * ((5 + 1) * ((row.length + 1) * (row.length + 1)))<=9 * (6 * (18 * 18)):=Gq hf (Nat.mul_le_mul_left _ a2)
  have a4:=Gq a3 (show 1 + (row.length + 1)<=19 by lia)
  lia
theorem zd0{rs:List aV}{row:List Str}{B:bE}(g:cT rs)(w:m9 row)(hB:dC (eU rs row) B):Wb (eU rs row) B:=
 ⟨fun t=>rfl,Ao g.few (by decide),oB hB,zbm g w hB,fun r hr=>Ao (g.fp r hr) (by decide)⟩
theorem zd1{C:Cc}{ws:List W}{M:Mm}{R:K3}(h:y9 C ws M R):zdn C (bI R) (bP zdj ws) M:=by
 obtain⟨q,rs,row,rfl,g,w,r⟩:=h
 have hf:=g.few
 refine xI rfl (xI rfl (xI rfl ⟨q :: rs,rfl,Ao hf (by decide),aZ.frz ⟨q :: rs,row,rfl,g,w,fun B hB p hp=>⟨p,rfl,.inr ⟨_,aT,?_⟩⟩⟩⟩))
 rw[kH hp]
 obtain⟨r1,r2⟩:=r B hB
 refine xI rfl (xI rfl ⟨q,rs,row,rfl,xI rfl (xI rfl ⟨_,⟨fK (eM q row),rfl,rfl⟩,xI rfl ?_⟩)⟩)
 show if (bA (dX fK fG B) (fK (eM q row))).isSome=true then _ else _
 rw[jC jO,Jx]
 refine bC (fun z=>?_) fun z=>⟨_,Sub.refl _,r2 ?_⟩
 ·obtain⟨x,hx⟩:=Cq.mp z
  obtain⟨pre,post,sp⟩:=iS hx
  obtain⟨ru,E⟩:=oB hB pre _ post sp
  refine xI rfl (xI rfl (xI rfl ⟨eU (q :: rs) row,B,eM q row,rfl,zd0 g w hB,gT.mp z,_,Sub.refl _,?_⟩))
  rw[show p9 (eU (q :: rs) row) B (eM q row)=_ from xT sp E]
  exact r1 x hx _ _
 ·cases hx:aH B (eM q row) with
  | none=>rfl
  | some x=>rw[hx] at z;cases z
theorem uG{S:List dP}{r w:List Str}{n:Int}(h:Gn S r w n):∀ s∈S,(∃ t:Str,s=[("keep" : Str),t])\/(∃ t:Str,s=[("drop" : Str),t])\/(∃ t:Str,s=[("put" : Str),t])\/∃ x t:Str,s=[("swap" : Str),x,t]:=by
 induction h with
 | nil=>exact fun s hs=>nomatch hs
 | keep _ ih=>exact fun s hs=>(Ay.mp hs).elim (fun e=>.inl ⟨_,e⟩) (ih s)
 | drop _ ih=>exact fun s hs=>(Ay.mp hs).elim (fun e=>.inr (.inl ⟨_,e⟩)) (ih s)
 | put _ ih=>exact fun s hs=>(Ay.mp hs).elim (fun e=>.inr (.inr (.inl ⟨_,e⟩))) (ih s)
 | swap _ ih=>exact fun s hs=>(Ay.mp hs).elim (fun e=>.inr (.inr (.inr ⟨_,_,e⟩))) (ih s)
def fM:W->Option W
 | .tup (.str k :: ws)=>if k = "drop" then none else ws.getLast?
 | _=>none
def fI:W->Option W
 | .tup (.str k :: ws)=>if k = "put" then none else ws.head?
 | _=>none
def k7:W->Option W
 | .tup (.str k :: ws)=>if k = "keep" then none else some (.tup (.str k :: ws))
 | _=>none
theorem K5{S:List dP}{r w:List Str}{n:Int}(h:Gn S r w n):(S.map eC).filterMap fM=w.map W.str:=by
 induction h with
 | nil=>rfl
 | keep _ ih=>exact congrArg (_ :: ·) ih
 | drop _ ih=>exact ih
 | put _ ih=>exact congrArg (_ :: ·) ih
 | swap _ ih=>exact congrArg (_ :: ·) ih
theorem zd2{S:List dP}{r w:List Str}{n:Int}(h:Gn S r w n):(S.map eC).filterMap fI=r.map W.str:=by
 induction h with
 | nil=>rfl
 | keep _ ih=>exact congrArg (_ :: ·) ih
 | drop _ ih=>exact congrArg (_ :: ·) ih
 | put _ ih=>exact ih
 | swap _ ih=>exact congrArg (_ :: ·) ih
theorem zd3{S:List dP}{r w:List Str}{n:Int}(h:Gn S r w n):(((S.map eC).filterMap k7).length:Int)=n:=by
 induction h with
 | nil=>rfl
 | keep _ ih=>exact ih
 | @drop S r w n t _ ih=>
  rw[show(((["drop",t]:dP) :: S).map eC).filterMap k7=_ :: (S.map eC).filterMap k7 from rfl,Ar]
  lia
 | @put S r w n t _ ih=>
  rw[show(((["put",t]:dP) :: S).map eC).filterMap k7=_ :: (S.map eC).filterMap k7 from rfl,Ar]
  lia
 | @swap S r w n x t _ ih=>
  rw[show(((["swap",x,t]:dP) :: S).map eC).filterMap k7=_ :: (S.map eC).filterMap k7 from rfl,Ar]
  lia
theorem zd4{ws:List W}{M:Mm}{R:K3}(h:KJ ws M R):zcG (bI R) (bP zcF ws) M:=by
 obtain⟨S,r,w,n,rfl,s,R'⟩:=h
 have hf:=s.few
 refine xI rfl (fP (nU (rest:=[]) fM (eP (by rw[Aa];lia)) (fun _ _=>trivial) (fun v hv M3 C D sb h1 h2=>?_) ?_))
 ·obtain⟨x,hx,rfl⟩:=Ba.mp hv
  rcases uG s.gn x hx with⟨t,rfl⟩ | ⟨t,rfl⟩ | ⟨t,rfl⟩ | ⟨x,t,rfl⟩
  ·exact xI rfl (xI rfl (xI rfl (bC (fun _=>xI rfl (xI rfl (h1 _ rfl))) fun z=>absurd z (by decide))))
  ·exact xI rfl (xI rfl (xI rfl (bC (fun z=>absurd z (by decide)) fun _=>h2 rfl)))
  ·exact xI rfl (xI rfl (xI rfl (bC (fun _=>xI rfl (xI rfl (h1 _ rfl))) fun z=>absurd z (by decide))))
  ·exact xI rfl (xI rfl (xI rfl (bC (fun _=>xI rfl (xI rfl (h1 _ rfl))) fun z=>absurd z (by decide))))
 ·rw[K5 s.gn]
  exact fun p hp=>⟨_,Sub.refl _,R' p hp⟩
theorem zd5{ws:List W}{M:Mm}{R:K3}(h:KL ws M R):zcI (bI R) (bP zcH ws) M:=by
 obtain⟨S,r,w,n,rfl,s,R'⟩:=h
 have hf:=s.few
 refine xI rfl (fP (nU (rest:=[]) fI (eP (by rw[Aa];lia)) (fun _ _=>trivial) (fun v hv M3 C D sb h1 h2=>?_) (aZ.frz ?_)))
 ·obtain⟨x,hx,rfl⟩:=Ba.mp hv
  rcases uG s.gn x hx with⟨t,rfl⟩ | ⟨t,rfl⟩ | ⟨t,rfl⟩ | ⟨x,t,rfl⟩
  ·exact xI rfl (xI rfl (xI rfl (bC (fun _=>xI rfl (xI rfl (h1 _ rfl))) fun z=>absurd z (by decide))))
  ·exact xI rfl (xI rfl (xI rfl (bC (fun _=>xI rfl (xI rfl (h1 _ rfl))) fun z=>absurd z (by decide))))
  ·exact xI rfl (xI rfl (xI rfl (bC (fun z=>absurd z (by decide)) fun _=>h2 rfl)))
  ·exact xI rfl (xI rfl (xI rfl (bC (fun _=>xI rfl (xI rfl (h1 _ rfl))) fun z=>absurd z (by decide))))
 ·rw[zd2 s.gn]
  exact xI rfl (FT (neg:=false) 1 (by decide) (yV s.rk) rfl ⟨_,Sub.refl _,R'⟩)
theorem zd6{ws:List W}{M:Mm}{R:K3}(h:uB ws M R):zcK (bI R) (bP zcJ ws) M:=by
 obtain⟨zs,k,rfl,hl,hk,r⟩:=h
 refine xI rfl (xI rfl (xI rfl (bC (fun z=>?_) fun _=>⟨_,Sub.refl _,r 0⟩)))
 have z:=of_decide_eq_true z
 obtain⟨j,rfl⟩:=Dk hk
 rw[Aa] at z
 have hj:j < zs.length:=by lia
 exact xI rfl (xI rfl ⟨_,JA (Ax hj),_,Sub.refl _,r _⟩)
theorem big{j:Int}(h:j<=1000):j < 2 ^ 4096:=Int.lt_of_le_of_lt h (by decide)
theorem zd7{is:List Int}{k:Int}(h0:0<=k)(h1:k < is.length):∃ v,cC (is.map W.int) k=some (.int v)/\v∈is:=by
 obtain⟨j,rfl⟩:=Dk h0
 have hj:j < is.length:=by lia
 exact⟨is[j],JA (Ax hj),Hr hj⟩
theorem zd8{ws:List W}{M:Mm}{R:K3}(h:y8 ws M R):zc0 (bI R) (bP zcZ ws) M:=by
 obtain⟨zs,m,rfl,h0,h1,hz,r⟩:=h
 obtain⟨j,rfl⟩:=Dk h0
 obtain⟨cs,ec,hcl,_⟩:=JB (f:=W.int) zs none j
 have hcl:cs.length<=j:=hcl
 have ec:eF (zs.map W.int) none (some (j:Int))=cs.map W.int:=ec
 refine xI rfl (xI rfl (xI rfl (UT (ws:=eF (zs.map W.int) none (some (j:Int))) (rest:=[]) (fun _ y=>∃ t,y=.str t/\t∈cI) (eP (by rw[ec,Aa];lia)) (fun _ _=>trivial) (fun w hw M' C sb h1=>?_) fun ys po=>?_)))
 ·rw[ec] at hw
  obtain⟨c,hc,rfl⟩:=Ba.mp hw
  obtain⟨t,et,mt⟩:=oH (ts:=cI) (k:=c % 3) (Cv _ (by decide)) (Cp _ (by decide))
  exact⟨z3,xI rfl ⟨show(0:Int) < 3 by decide,_,et,h1 _ ⟨t,rfl,mt⟩⟩⟩
 ·obtain⟨ts,rfl,htl,htm⟩:=zaz po fun _ _ h=>h
  rw[ec,Aa] at htl
  exact tT (r ts ⟨htm,by lia⟩)
theorem zd9{ws:List W}{M:Mm}{R:K3}(h:uC ws M R):zcQ (bI R) (bP zcL ws) M:=by
 obtain⟨d,hs,rfl,hne,hl,r⟩:=h
 have hpos:=Fb.mpr hne
 obtain⟨v,ev,mv⟩:=zd7 (is:=[0,1,2,2,3,1]) (k:=d % 6) (Cv _ (by decide)) (Cp _ (by decide))
 have hv:0<=v/\v<=3:=by
  have:∀ v∈([0,1,2,2,3,1]:List Int),0<=v/\v<=3:=by decide
  exact this v mv
 refine⟨z0,fun q hq=>⟨eP (by decide),xI rfl ⟨show(0:Int) < 6 by decide,_,ev,xI rfl ⟨by lia,by lia,?_⟩⟩⟩⟩
 refine iT (fun i τ M'=>∃ (ts:List Str) (o:Option W×Option W),τ=[some (.int d),some (.rl (hs.map W.str)),some (.ref q),o.1,o.2]/\M'=put M q (.lst (ts.map W.str))/\ts.length=i/\∀ t∈ts,t∈hs\/t∈cI) ⟨[],(_,_),rfl,rfl,rfl,fun _ h=>nomatch h⟩ ?_ ?_
 ·rintro i w τ M' hw ⟨ts,o,rfl,rfl,hi,ht⟩ D hD
  obtain⟨hi2,rfl⟩:=yU hw
  have hap:(ts.map W.str).length < Ak:=eR (by rw[Aa];lia)
  have go:∀ (t:Str) (o4:Option W),(t∈hs\/t∈cI)->D.nx [some (.int d),some (.rl (hs.map W.str)),some (.ref q),some (.int (0 + (i:Nat))),o4] (put (put M q (.lst (ts.map W.str))) q (.lst (ts.map W.str ++ [.str t]))):=fun t o4 h=>by
   refine hD _ _ ⟨ts ++ [t],(some (.int (0 + (i:Nat))),o4),rfl,by rw[fJ,Bf];rfl,by rw[Af,hi];rfl,fun x hx=>?_⟩
   rcases Be.mp hx with hx | hx
   ·exact ht x hx
   ·rw[An.mp hx];exact h
  refine xI rfl (xI rfl ⟨.inl (.inl ⟨by decide,by decide⟩),⟨by lia,big (by lia)⟩,show(0:Int) < 15 by decide,?_⟩)
  refine xI rfl (xI rfl (bC (fun z=>?_) fun z=>?_))
  ·obtain⟨t,et,mt⟩:=oH (ts:=cI) (k:=(d / (6 + 90 * (0 + (i:Nat)))) % 15 % 3) (Cv _ (by decide)) (Cp _ (by decide))
   exact xI rfl ⟨eT aT,z3,xI rfl ⟨show(0:Int) < 3 by decide,_,et,_,aT,hap,go t _ (.inr mt)⟩⟩
  ·obtain⟨t,et,mt⟩:=oH (ts:=hs) (k:=(d / (6 + 90 * (0 + (i:Nat)))) % 15 % (hs.map W.str).length) (Cv _ (by rw[Aa];lia)) (by rw[Aa];exact Cp _ (by lia))
   exact xI rfl ⟨eT aT,xI rfl (xI rfl (xI rfl ⟨by rw[Aa];lia,_,et,_,aT,hap,go t _ (.inl mt)⟩))⟩
 ·rintro τ M' ⟨ts,o,rfl,rfl,hi,ht⟩
  have hi:ts.length=v.toNat:=by rw[hi];unfold i4;simp
  exact xI rfl ⟨_,aT,M,Sub.new hq,r ts (by lia) ht⟩
theorem K6{ts:List Str}{j:Nat}{i:Int}{M:Mm}{R:K3}(ei:i=j)(h:j<=ts.length)(r:R (.rl ((ts.take j).map W.str)) M):mQ (.rl (ts.map W.str)) none (some i) M R:=by
 subst ei;exact KY h r
theorem K7{t:Str}(h:t∈cI):is8 t=false:=by
 have:∀ t∈cI,is8 t=false:=by unfold cI is8 eJ;decide +kernel
 exact this t h
theorem zH{rs:List aV}{hs:List Str}(h1:∀ t∈hs,t∈eJ)(h2:∀ r∈rs,r.name∈hs/\r.parts.length<=3/\∀ t∈r.parts,t∈hs\/t∈cI)(h3:∀ t∈hs,∃ r∈rs,r.name=t)(h4:rs≠[])(h5:rs.length<=9):cT rs:=by
 have nm:∀ r∈rs,r.name∈eJ:=fun r hr=>h1 _ (h2 r hr).1
 refine⟨h4,h5,nm,fun r hr t ht=>((h2 r hr).2.2 t ht).imp (h1 t) id,fun r hr=>(h2 r hr).2.1,fun r hr t ht=>?_⟩
 rcases(h2 r hr).2.2 t ht with h | h
 ·rw[show is8 t=true from decide_eq_true (h1 t h)]
  exact decide_eq_true (mS.mpr (h3 t h))
 ·rw[K7 h]
  refine decide_eq_false fun z=>?_
  obtain⟨r',hr',rfl⟩:=mS.mp z
  have:=K7 h
  rw[show is8 r'.name=true from decide_eq_true (nm r' hr')] at this;cases this
abbrev H3:List Str:=["S","S_1","S_12"]
theorem zea{ws:List W}{M:Mm}{R:K3}(h:KN ws M R):zcY (bI R) (bP zcR ws) M:=by
 obtain⟨zs,rfl,hz,r⟩:=h
 refine xI rfl ⟨zs,0,rfl,hz,Eo 0,fun c=>?_⟩
 obtain⟨j,hj⟩:∃ j:Nat,1 + c / 2 % 3=(j:Int):=Dk (by have:=Cv (c / 2) (show(3:Int)≠0 by decide);lia)
 have hj1:1<=j/\j<=3:=by
  have a:=Cv (c / 2) (show(3:Int)≠0 by decide)
  have b:=Cp (c / 2) (show(0:Int) < 3 by decide)
  lia
 refine⟨z3,xI rfl ⟨⟨by decide,by decide⟩,show(0:Int) < 3 by decide,xI rfl (K6 (ts:=H3) hj hj1.2 ?_)⟩⟩
 obtain⟨hs,hhs⟩:∃ hs:List Str,hs=List.take j H3:=⟨_,rfl⟩
 rw[<-hhs]
 have hl:hs.length=j:=by rw[hhs,Bj];exact Fo hj1.2
 have hn8:∀ t∈hs,t∈eJ:=fun t ht=>by
  rw[hhs] at ht
  have:∀ t∈H3,t∈eJ:=by unfold eJ;decide +kernel
  exact this t (Lh ht)
 have hne:hs≠[]:=fun e=>by rw[e] at hl;simp at hl;lia
 have b5a:=Cv (c / 6) (show(5:Int)≠0 by decide)
 have b5b:=Cp (c / 6) (show(0:Int) < 5 by decide)
 refine⟨z0,fun q hq=>xI rfl (xI rfl ⟨⟨by decide,by decide⟩,show(0:Int) < 5 by decide,xI rfl ⟨by rw[Aa];lia,by rw[Aa];lia,?_⟩⟩)⟩
 refine iT (fun i τ M'=>∃ (rs:List aV) (o:Option W×Option W×Option W),τ=[some (.sc (zs.map W.int)),some (.int c),some (.rl (hs.map W.str)),some (.ref q),o.1,o.2.1,o.2.2]/\M'=put M q (.lst (rs.map eS))/\rs.length=i/\(∀ r∈rs,r.name∈hs/\r.parts.length<=3/\∀ t∈r.parts,t∈hs\/t∈cI)/\∀ k,k < i->k < hs.length->∃ r,rs[k]? = some r/\hs[k]? = some r.name) ⟨[],(_,_,_),rfl,rfl,rfl,(fun _ h=>nomatch h),fun k h=>nomatch h⟩ ?_ ?_
 ·rintro i w τ M' hw ⟨rs,o,rfl,rfl,hi,hrs,hcov⟩ D hD
  obtain⟨hi2,rfl⟩:=yU hw
  rw[Aa] at hi2
  have hap:(rs.map eS).length < Ak:=eR (by rw[Aa];lia)
  rw[Gy]
  refine xI rfl (xI rfl ⟨zs,_,rfl,hz,by lia,fun d0=>?_⟩)
  have hpos:(0:Int) < (hs.map W.str).length:=by rw[Aa];lia
  have go:∀ (d:Int),(aN (bB 6 (aE aW (aA 2) (aE d3 (aA 5) (bY dA (aB (aA 2) aD))))) (aN (cN (bU (aE lL (aA 4) (bY dA (aB (aA 2) aD)))) (bB 6 (aE aW (aA 2) (aA 4))) eN) (cR (cQ "list" d8 (aA 3) (aB (bK (aB (aA 6) (aB (bJ uC (aB (aE fR (aA 5) (vC (.int 3))) (aB (aA 2) aD))) (aB (aE d3 (aE fR (aA 5) (vC (.int 900))) (vC (.int 4))) aD)))) aD))))) D [some (.sc (zs.map W.int)),some (.int c),some (.rl (hs.map W.str)),some (.ref q),some (.int (i:Nat)),some (.int d),o.2.2] (put M q (.lst (rs.map eS))):=fun d=>by
   have fin:∀ (nm:Str),nm∈hs->(i < hs.length->hs[i]? = some nm)->(cR (cQ "list" d8 (aA 3) (aB (bK (aB (aA 6) (aB (bJ uC (aB (aE fR (aA 5) (vC (.int 3))) (aB (aA 2) aD))) (aB (aE d3 (aE fR (aA 5) (vC (.int 900))) (vC (.int 4))) aD)))) aD))) D [some (.sc (zs.map W.int)),some (.int c),some (.rl (hs.map W.str)),some (.ref q),some (.int (i:Nat)),some (.int d),some (.str nm)] (put M q (.lst (rs.map eS))):=fun nm h1 h2=>by
    refine xI rfl ⟨eT aT,xI rfl (xI rfl ⟨⟨by decide,by decide⟩,xI rfl ⟨_,hs,rfl,hne,by lia,fun ts tl tm=>xI rfl ⟨⟨by decide,by decide⟩,show(0:Int) < 4 by decide,z3,_,aT,hap,?_⟩⟩⟩)⟩
    refine hD _ _ ⟨rs ++ [⟨nm,ts,d / 900 % 4⟩],(some (.int (i:Nat)),some (.int d),some (.str nm)),rfl,by rw[fJ,Bf];rfl,by rw[Af,hi];rfl,fun x hx=>?_,fun k hk hkl=>?_⟩
    ·rcases Be.mp hx with hx | hx
     ·exact hrs x hx
     ·rw[An.mp hx];exact⟨h1,tl,tm⟩
    ·by_cases e:k=i
     ·subst e
      exact⟨⟨nm,ts,d / 900 % 4⟩,by rw[Hm (by lia),hi,Nat.sub_self];rfl,h2 hkl⟩
     ·obtain⟨r0,a1,a2⟩:=hcov k (by lia) hkl
      exact⟨r0,by rw[Ge (by lia)];exact a1,a2⟩
   obtain⟨t,et,mt⟩:=oH (ts:=hs) (k:=d % (hs.map W.str).length) (Cv _ (by lia)) (by rw[Aa] at hpos ⊢;exact Cp _ hpos)
   refine xI rfl (xI rfl (xI rfl ⟨hpos,_,et,xI rfl (xI rfl (xI rfl (bC (fun z=>?_) fun z=>?_)))⟩))
   ·have z:=of_decide_eq_true z
    rw[Aa] at z
    have hil:i < hs.length:=by lia
    exact xI rfl (xI rfl ⟨_,iL (by rw[Au,Ax hil];rfl),fin _ (Hr hil) fun _=>Ax hil⟩)
   ·have z:=of_decide_eq_false z
    rw[Aa] at z
    exact fin t mt fun h=>absurd h (by lia)
  refine xI rfl ⟨show(0:Int) < 2 by decide,xI rfl (bC (fun z=>?_) fun z=>go d0)⟩
  have a0:0<=d0 % 10 ^ 40:=Cv _ (by decide)
  have a1:d0 % 10 ^ 40 < 10 ^ 40:=Cp _ (by decide)
  have b1:(d0 % 10 ^ (40:Int).toNat + (i:Nat)).natAbs < 2 ^ 4096:=D9 (m:=140) (show(d0 % 10 ^ 40 + (i:Nat)).natAbs < _ by lia) (by decide)
  have b2:(d0 % 10 ^ (40:Int).toNat + 5 * (i:Nat) + 2).natAbs < 2 ^ 4096:=D9 (m:=140) (show(d0 % 10 ^ 40 + 5 * (i:Nat) + 2).natAbs < _ by lia) (by decide)
  exact xI rfl ⟨⟨by decide,by decide,by decide⟩,show(0:Int) < 10 ^ (40:Int).toNat by decide,xI rfl (xI rfl ⟨⟨by decide,by decide,by decide⟩,show(0:Int) < 10 ^ (40:Int).toNat by decide,xI rfl ⟨.inl (.inl ⟨by decide,by decide⟩),.inr ⟨b1,b2⟩,⟨by decide,by decide⟩,go _⟩⟩)⟩
 ·rintro τ M' ⟨rs,o,rfl,rfl,hi,hrs,hcov⟩
  have hi:rs.length=(((hs.map W.str).length:Int) + c / 6 % 5).toNat:=by rw[hi];unfold i4;simp
  rw[Aa] at hi
  refine xI rfl ⟨_,Sub.refl _,r rs (zH hn8 hrs (fun t ht=>?_) (fun e=>by rw[e] at hi;simp at hi;lia) (by lia)) q hq⟩
  obtain⟨k,hk⟩:=Lj ht
  have hkl:=(Ah.mp hk).1
  obtain⟨r0,h1,h2⟩:=hcov k (by unfold i4;simp;lia) hkl
  rw[hk] at h2;cases h2
  exact⟨r0,Bn h1,rfl⟩
theorem zeb{ts:List Str}(hs:∀ t∈ts,g9 t){M:Mm}{R:K3}(h:R (.bl (!decide (ts=[]))) M):rEq true (.rl (ts.map W.str)) (.rl []) M R:=by
 have p1:Pl 1 (.rl (ts.map W.str)):=yV hs
 have p2:Pl 1 (.rl []):=fun w hw=>nomatch hw
 obtain⟨d1,s1,c1,k1⟩:=pJ (M:=M) p1
 obtain⟨d2,s2,c2,k2⟩:=pJ (M:=M) p2
 refine⟨d1,d2,s1,s2,⟨c1,Ao k1 (by decide)⟩,⟨c2,Ao k2 (by decide)⟩,?_⟩
 have:Ib d1 d2=decide (ts=[]):=by
  rw[Dr,wM p1 p2 s1 s2,decide_eq_true_eq]
  refine⟨fun e=>?_,fun e=>by rw[e];rfl⟩
  cases ts with
  | nil=>rfl
  | cons t ts=>cases e
 rw[this];exact h
def K8(t:Str):dP:=["keep",t]
theorem K9:∀ w:List Str,Gn (w.map K8) w w 0
 | []=>.nil
 | _ :: w=>.keep (K9 w)
structure MW(row left:List Str)(S:List dP):Prop where
 mk_:∃ rw w n,Gn S rw w n/\row=rw ++ left/\(∀ t∈w,t∈cI)/\w.length<=rw.length + S.length/\w.length<=rw.length + 5
theorem MW.more{row left left':List Str}{S:List dP}{s:dP}{r1 w1:List Str}{n1:Int}(h:MW row left S)(hs:Gn [s] r1 w1 n1)(e:left=r1 ++ left')(hw:∀ t∈w1,t∈cI)(h1:w1.length<=1)(h2:r1.length=1\/S.length < 5):MW row left' (S ++ [s]):=by
 obtain⟨rw,w,n,gn,er,wd,l1,l2⟩:=h
 refine⟨⟨rw ++ r1,w ++ w1,_,gn.cat hs,by rw[er,e,Dl],fun t ht=>(Be.mp ht).elim (wd t) (hw t),?_,?_⟩⟩
 ·rw[Af,Af,Af,Bl];lia
 ·rw[Af,Af]
  rcases h2 with h2 | h2
  ·lia
  ·lia
theorem MW.end_{row left:List Str}{S:List dP}(h:MW row left S)(w:hZ row):∃ v n,Gn (S ++ left.map K8) row v n/\m9 v:=by
 obtain⟨rw,v,n,gn,er,wd,_,l2⟩:=h
 have hf:=w.few
 rw[er,Af] at hf
 refine⟨v ++ left,_,by rw[er];exact gn.cat (K9 left),fun t ht=>(Be.mp ht).elim (wd t) fun z=>w.wd t (by rw[er];exact Bt _ z),?_⟩
 rw[Af]
 lia
theorem zec{ws:List W}{M:Mm}{R:K3}(h:zA ws M R):zdu (bI R) (bP zdo ws) M:=by
 obtain⟨row,zs,rfl,w,hz,r⟩:=h
 have hrf:=w.few
 refine⟨z0,fun q hq=>xI rfl ?_⟩
 refine xI rfl (fP (iT (fun i τ M'=>∃ (left:List Str) (S:List dP) (o:Option W×Option W),τ=[some (eL row),some (.rl (zs.map W.int)),some (.ref q),some (.rl (left.map W.str)),o.1,o.2]/\M'=put M q (.lst (S.map eC))/\MW row left S/\S.length<=i) ⟨row,[],(_,_),rfl,rfl,⟨⟨[],[],0,.nil,rfl,(fun _ h=>nomatch h),Ai _,Cd _⟩⟩,Ai _⟩ ?_ ?_))
 ·rintro i x τ M' hx ⟨left,S,o,rfl,rfl,mw,hS⟩ D hD
  rw[Au] at hx
  obtain⟨c,hc,rfl⟩:=Bk.mp hx
  have hi:=(Ah.mp hc).1
  have hlk:∀ t∈left,t∈cI:=fun t ht=>by
   obtain⟨rw,v,n,gn,er,_⟩:=mw
   exact w.wd t (by rw[er];exact Bt _ ht)
  have hap:(S.map eC).length < Ak:=eR (by rw[Aa];lia)
  have fin:∀ {s:dP} {left':List Str} (o:Option W×Option W),MW row left' (S ++ [s])->D.nx [some (eL row),some (.rl (zs.map W.int)),some (.ref q),some (.rl (left'.map W.str)),o.1,o.2] (put (put M q (.lst (S.map eC))) q (.lst (S.map eC ++ [eC s]))):=fun {s left'} o h=>hD _ _ ⟨left',S ++ [s],o,rfl,by rw[fJ,Bf];rfl,h,by rw[Af,Bl];lia⟩
  obtain⟨t,et,mt⟩:=oH (ts:=cI) (k:=(c / 5) % 3) (Cv _ (by decide)) (Cp _ (by decide))
  have mt1:∀ x∈[t],x∈cI:=fun x hx=>by rw[An.mp hx];exact mt
  have five:(0:Int) < 5:=by decide
  have next:(cN (bU (aE (rEq true) (aA 3) (fX aD)))
    (aN (cN (bU (aE (rEq false) (aE d3 (aA 4) (vC (.int 5))) (vC (.int 3))))
    (cR (cQ "list" d8 (aA 2) (aB (bK (aB (vC (.str "drop")) (aB (aE aW (aA 3) (vC (.int 0))) aD))) aD)))
    (cN (bU (aE (rEq false) (aE d3 (aA 4) (vC (.int 5))) (vC (.int 2))))
    (cR (cQ "list" d8 (aA 2) (aB (bK (aB (vC (.str "swap")) (aB (aE aW (aA 3) (vC (.int 0))) (aB (aA 5) aD)))) aD)))
    (cR (cQ "list" d8 (aA 2) (aB (bK (aB (vC (.str "keep")) (aB (aE aW (aA 3) (vC (.int 0))) aD))) aD)))))
   (bB 3 (iH (aA 3) (gF (vC (.int 1))) iP)))
    eN) D [some (eL row),some (.rl (zs.map W.int)),some (.ref q),some (.rl (left.map W.str)),some (.int c),some (.str t)] (put M q (.lst (S.map eC))):=by
   refine xI rfl ⟨Cd _,zeb (fun t ht=>m7 (.inr (hlk t ht))) (xI rfl (bC (fun z=>?_) fun z=>?_))⟩
   ·obtain⟨y,left',rfl⟩:∃ y left',left=y :: left':=by
     cases left with
     | nil=>cases z
     | cons y l=>exact⟨_,_,rfl⟩
    have my:y∈cI:=hlk y Bb
    have e0:cC ((y :: left').map W.str) 0=some (.str y):=iL (j:=0) rfl
    refine xI rfl ⟨five,xI rfl (bC (fun _=>?_) fun _=>?_)⟩
    ·exact xI rfl ⟨eT aT,xI rfl ⟨_,e0,z2,_,aT,hap,xI rfl (xI rfl (qJ (j:=1) rfl (fin (s:=["drop",y]) (_,_) (mw.more (.drop .nil) rfl (fun _ h=>nomatch h) (Cd _) (.inl rfl)))))⟩⟩
    ·refine xI rfl ⟨five,xI rfl (bC (fun _=>?_) fun _=>?_)⟩
     ·exact xI rfl ⟨eT aT,xI rfl ⟨_,e0,xI rfl ⟨z3,_,aT,hap,xI rfl (xI rfl (qJ (j:=1) rfl (fin (s:=["swap",y,t]) (_,_) (mw.more (.swap .nil) rfl mt1 (Ai _) (.inl rfl)))))⟩⟩⟩
     ·exact xI rfl ⟨eT aT,xI rfl ⟨_,e0,z2,_,aT,hap,xI rfl (xI rfl (qJ (j:=1) rfl (fin (s:=["keep",y]) (_,_) (mw.more (.keep .nil) rfl (fun x hx=>by rw[An.mp hx];exact my) (Ai _) (.inl rfl)))))⟩⟩
   ·exact hD _ _ ⟨left,S,(_,_),rfl,rfl,mw,Nat.le_succ_of_le hS⟩
  refine⟨z3,xI rfl ⟨⟨by decide,by decide⟩,show(0:Int) < 3 by decide,_,et,?_⟩⟩
  refine xI rfl ⟨five,xI rfl (bC (fun _=>?_) fun _=>next)⟩
  refine xI rfl (.inl ⟨_,aT,xI rfl (bC (fun z=>?_) fun _=>next)⟩)
  have z:=of_decide_eq_true z
  rw[Aa] at z
  exact xI rfl ⟨eT aT,xI rfl ⟨z2,_,aT,hap,fin (s:=["put",t]) (_,_) (mw.more (.put .nil) rfl mt1 (Ai _) (.inr (by lia)))⟩⟩
 ·rintro τ M' ⟨left,S,o,rfl,rfl,mw,hS⟩
  rw[Aa] at hS
  obtain⟨v,n,gn,wv⟩:=mw.end_ w
  have hl:left.length<=12:=by
   obtain⟨rw,v,n,gn,er,_⟩:=mw
   rw[er,Af] at hrf;lia
  refine xI rfl (xI rfl (fP (nT (rest:=[]) (fun w=>.tup [.str "keep",w]) (eP (by rw[Aa];lia)) (fun _ _=>trivial) (fun w hw M' C sb h1=>xI rfl ⟨z2,h1⟩) (aZ.frz ⟨_,aT,eP (by rw[Aa,Aa,Aa];lia),?_⟩))))
  have z:=r _ v n gn wv (by rw[Af,Aa];lia)
  rw[Bf,Bv] at z
  rw[Bv]
  intro p hp
  have hpq:p≠q:=fun e=>by rw[e,aT] at hp;cases hp
  rw[aQ hpq] at hp
  exact⟨_,Sub.put (Sub.new hq),z p hp⟩
theorem zed{ws:List W}{M:Mm}{R:K3}(h:KP ws M R):zdg (bI R) (bP zdb ws) M:=by
 obtain⟨zs,rfl,hz,r⟩:=h
 refine xI rfl ⟨zs,0,rfl,hz,Eo 0,fun c=>?_⟩
 have m0:=Cv (c / 30) (show(6:Int)≠0 by decide)
 have m1:=Cp (c / 30) (show(0:Int) < 6 by decide)
 obtain⟨cs,ec,hcl,_⟩:∃ cs:List Int,eF (zs.map W.int) (some 9) none=cs.map W.int/\cs.length<=63/\True:=by
  refine⟨zs.drop 9,by rw[show(some (9:Int))=some ((9:Nat):Int) from rfl,KU,Jd],?_,trivial⟩
  rw[Ds];lia
 have sl:∀ {τ:S3} {M:Mm} {Q:K3},Q (.rl (cs.map W.int)) M->iP τ M fun u M3=>mQ (.sc (zs.map W.int)) (some 9) u M3 Q:=fun {τ M Q} h=>by
  show Q (.rl (eF (zs.map W.int) (some 9) none)) M
  rw[ec];exact h
 refine xI rfl ⟨⟨by decide,by decide⟩,show(0:Int) < 6 by decide,xI rfl ⟨⟨by decide,by decide⟩,show(0:Int) < 4 by decide,xI rfl (bC (fun _=>?_) fun _=>?_)⟩⟩
 ·refine xI rfl ⟨⟨by decide,by decide⟩,_,rfl,fun rs g=>aZ.frz (xI rfl (xI rfl (sl (xI rfl ⟨cs,_,rfl,by lia,by lia,hcl,fun row w=>aZ.frz ⟨z2,_,Sub.refl _,r rs row g w⟩⟩))))⟩
 ·refine xI rfl ⟨zs,rfl,hz,fun rs g=>aZ.frz (xI rfl (xI rfl (sl (xI rfl ⟨cs,_,rfl,by lia,by lia,hcl,fun row w=>aZ.frz ⟨z2,_,Sub.refl _,r rs row g w⟩⟩))))⟩
theorem LA{ls:List (List Str)}{k:Int}(h0:0<=k)(h1:k < ls.length):∃ ts,cC (ls.map fun ts=>W.tup (ts.map W.str)) k=some (.tup (ts.map W.str))/\ts∈ls:=by
 obtain⟨j,rfl⟩:=Dk h0
 have hj:j < ls.length:=by lia
 exact⟨ls[j],iL (by rw[Au,Ax hj];rfl),Hr hj⟩
theorem zee{xs:List W}{w:W}:cC (xs ++ [w]) (-1)=some w:=by
 have e:gX (xs ++ [w]).length (-1)=some xs.length:=by
  unfold gX
  rw[if_neg (by decide),Af,Bl,if_pos (by lia)]
  congr 1
  lia
 unfold cC
 rw[e]
 simp
abbrev LB:List (List Str):=[["a","S"],["S","a"],["b","S","ab"]]
abbrev LC:List (List Str):=[["ab"],[]]
abbrev G1(hs:List Str)(r:aV):Prop:=r.name∈hs/\r.parts.length<=3/\∀ t∈r.parts,t∈hs\/t∈cI
theorem zef{ws:List W}{M:Mm}{R:K3}(h:KO ws M R):zda (bI R) (bP zc1 ws) M:=by
 obtain⟨c,rfl,r⟩:=h
 obtain⟨j,hj⟩:∃ j:Nat,3 + c % 6=(j:Int):=Dk (by have:=Cv c (show(6:Int)≠0 by decide);lia)
 have hj1:3<=j/\j<=8:=by
  have a:=Cv c (show(6:Int)≠0 by decide)
  have b:=Cp c (show(0:Int) < 6 by decide)
  lia
 refine⟨z8,xI rfl ⟨show(0:Int) < 6 by decide,xI rfl (K6 (ts:=eJ) hj hj1.2 ?_)⟩⟩
 obtain⟨hs,hhs⟩:∃ hs:List Str,hs=List.take j eJ:=⟨_,rfl⟩
 rw[<-hhs]
 have hl:hs.length=j:=by rw[hhs,Bj];exact Fo hj1.2
 have hn8:∀ t∈hs,t∈eJ:=fun t ht=>by rw[hhs] at ht;exact Lh ht
 have hS:("S" : Str)∈hs:=by
  rw[hhs]
  obtain⟨m,rfl⟩:∃ m,j=m + 1:=⟨j - 1,by lia⟩
  exact Bb
 have hpos:(0:Int) < (hs.map W.str).length:=by rw[Aa];lia
 refine⟨z0,fun q hq=>xI rfl (xI rfl ⟨by rw[Aa];lia,by rw[Aa];lia,?_⟩)⟩
 refine iT (fun i τ M'=>∃ (rs:List aV) (o:Option W),τ=[some (.int c),some (.rl (hs.map W.str)),some (.ref q),o]/\M'=put M q (.lst (rs.map eS))/\rs.length=i/\(∀ r∈rs,G1 hs r)/\∀ k,k < i->∃ r,rs[k]? = some r/\hs[k]? = some r.name) ⟨[],xI rfl ⟨rfl,rfl,(fun _ h=>nomatch h),fun k h=>nomatch h⟩⟩ ?_ ?_
 ·rintro i w τ M' hw ⟨rs,o,rfl,rfl,hi,hrs,hcov⟩ D hD
  obtain⟨hi2,rfl⟩:=yU hw
  rw[Aa] at hi2
  rw[Gy]
  have h1:i < hs.length:=by lia
  have h2:i + 1 < hs.length:=by lia
  have e1:hs[i]? = some hs[i]:=Ax h1
  have e2:hs[i + 1]? = some hs[i + 1]:=Ax h2
  refine xI rfl ⟨eT aT,xI rfl (xI rfl ⟨_,iL (by rw[Au,e1];rfl),xI rfl (xI rfl ⟨_,iL (j:=i + 1) (by rw[Au,e2];rfl),z1,z3,_,aT,eR (by rw[Aa];lia),?_⟩)⟩)⟩
  refine hD _ _ ⟨rs ++ [⟨hs[i],[hs[i + 1]],0⟩],xI rfl ⟨by rw[fJ,Bf];rfl,by rw[Af,hi];rfl,fun x hx=>?_,fun k hk=>?_⟩⟩
  ·rcases Be.mp hx with hx | hx
   ·exact hrs x hx
   ·rw[An.mp hx]
    exact⟨Hr h1,by simp,fun t ht=>.inl (by rw[An.mp ht];exact Hr h2)⟩
  ·by_cases e:k=i
   ·subst e
    exact⟨⟨hs[k],[hs[k + 1]],0⟩,by rw[Hm (by lia),hi,Nat.sub_self];rfl,e1⟩
   ·obtain⟨r0,a1,a2⟩:=hcov k (by lia)
    exact⟨r0,by rw[Ge (by lia)];exact a1,a2⟩
 ·rintro τ M' ⟨rs,o,rfl,rfl,hi,hrs,hcov⟩
  have hi:rs.length=j - 1:=by
   rw[hi];unfold i4
   rw[Aa,Fj,Aa,hl];lia
  have hcov:∀ k,k < j - 1->∃ r,rs[k]? = some r/\hs[k]? = some r.name:=fun k hk=>hcov k (by unfold i4;rw[Aa,Fj,Aa,hl];lia)
  obtain⟨hs0,x,hx⟩:∃ hs0 x,hs=hs0 ++ [x]:=by
   rcases Ed hs with e | ⟨a,b,e⟩
   ·rw[e] at hl;simp at hl;lia
   ·exact⟨a,b,by rw[e,Ee]⟩
  have hxl:hs0.length=j - 1:=by rw[hx,Af,Bl] at hl;lia
  have hxm:x∈hs:=by rw[hx];simp
  obtain⟨ts,et,mt⟩:=LA (ls:=LB) (k:=c / 6 % 3) (Cv _ (by decide)) (Cp _ (by decide))
  obtain⟨us,eu,mu⟩:=LA (ls:=LC) (k:=c / 144 % 2) (Cv _ (by decide)) (Cp _ (by decide))
  obtain⟨y,ey,my⟩:=oH (ts:=hs) (k:=c / 18 % (hs.map W.str).length) (Cv _ (by lia)) (by rw[Aa] at hpos ⊢;exact Cp _ hpos)
  refine xI rfl ⟨eT aT,xI rfl ⟨_,show cC (hs.map W.str) (-1)=some (.str x) by rw[hx,Bf];exact zee,z2,z2,z3,z3,xI rfl ⟨⟨by decide,by decide⟩,show(0:Int) < 3 by decide,_,et,z3,_,aT,eR (by rw[Aa];lia),?_⟩⟩⟩
  rw[fJ]
  refine xI rfl ⟨eT aT,xI rfl (xI rfl ⟨⟨by decide,by decide⟩,xI rfl ⟨hpos,_,ey,z1,z0,z2,xI rfl ⟨⟨by decide,by decide⟩,show(0:Int) < 2 by decide,_,eu,z3,_,aT,eR (by rw[Af,Aa,Bl];lia),?_⟩⟩⟩)⟩
  rw[fJ]
  obtain⟨rs2,h2⟩:∃ rs2:List aV,rs2=rs ++ [⟨x,ts,1⟩] ++ [⟨y,us,0⟩]:=⟨_,rfl⟩
  rw[show Ji eS rs ++ [W.tup [W.str x,W.tup (ts.map W.str),W.int 1]] ++ [W.tup [W.str y,W.tup (us.map W.str),W.int 0]]=rs2.map eS by rw[h2,Bf,Bf];rfl]
  have hts:ts.length<=3/\∀ t∈ts,t = "S"\/t∈cI:=by
   have:∀ ts∈LB,ts.length<=3/\∀ t∈ts,t = "S"\/t∈cI:=by unfold cI;decide +kernel
   exact this ts mt
  have hus:us.length<=3/\∀ t∈us,t∈cI:=by
   have:∀ ts∈LC,ts.length<=3/\∀ t∈ts,t∈cI:=by unfold cI;decide +kernel
   exact this us mu
  have hall:∀ r∈rs2,G1 hs r:=fun r hr=>by
   rw[h2] at hr
   rcases Be.mp hr with hr | hr
   ·rcases Be.mp hr with hr | hr
    ·exact hrs r hr
    ·rw[An.mp hr]
     exact⟨hxm,hts.1,fun t ht=>(hts.2 t ht).imp (fun e=>by rw[e];exact hS) id⟩
   ·rw[An.mp hr]
    exact⟨my,hus.1,fun t ht=>.inr (hus.2 t ht)⟩
  have hc:∀ t∈hs,∃ r∈rs2,r.name=t:=fun t ht=>by
   rw[hx] at ht
   rcases Be.mp ht with ht | ht
   ·obtain⟨k,hk⟩:=Lj ht
    have hkl:=(Ah.mp hk).1
    obtain⟨r0,a1,a2⟩:=hcov k (by lia)
    rw[hx,Ge hkl,hk] at a2
    cases a2
    exact⟨r0,by rw[h2];exact Bx _ (Bx _ (Bn a1)),rfl⟩
   ·rw[An.mp ht]
    exact⟨⟨x,ts,1⟩,by rw[h2];simp,rfl⟩
  have hlen:rs2.length<=9:=by rw[h2];simp;lia
  have hne:rs2≠[]:=by rw[h2];simp
  refine xI rfl ⟨⟨by decide,by decide⟩,show(0:Int) < 2 by decide,xI rfl (bC (fun _=>?_) fun _=>?_)⟩
  ·have g:cT rs2.reverse:=zH hn8 (fun r hr=>hall r (List.mem_reverse.mp hr)) (fun t ht=>let ⟨r,a,b⟩:=hc t ht;⟨r,List.mem_reverse.mpr a,b⟩) (by simpa using hne) (by simpa using hlen)
   refine xI rfl ⟨q,_,rfl,aT,fun p hp=>?_⟩
   have hpq:p≠q:=fun e=>by rw[e,aT] at hp;cases hp
   rw[aQ hpq] at hp
   refine⟨put M p (.lst (rs2.reverse.map eS)),?_,r _ g p hp⟩
   rw[List.map_reverse]
   exact Sub.put (Sub.new hq)
  ·exact xI rfl ⟨_,Sub.refl _,r rs2 (zH hn8 hall hc hne hlen) q hq⟩
def Fd(o:Option (aJ×Nat×List Int))(fv:W):Prop:=(o=none/\fv=.non)\/∃ x p t,o=some x/\fv=.tup [.int x.1.1,.ref p,t]
theorem zeg{row:List Str}(w:hZ row):m9 row:=⟨w.wd,Ao w.few (by decide)⟩
theorem zeh{C:Cc}{ws:List W}{M:Mm}{R:K3}(h:zbZ C ws M R):zdz C (bI R) (bP zdv ws) M:=by
 obtain⟨zs,rfl,hz,mt,r⟩:=h
 refine xI rfl ⟨zs,rfl,hz,fun rs row g w=>⟨rfl,rfl,?_⟩⟩
 obtain⟨q,rs,rfl⟩:∃ q rs',rs=q :: rs':=by
  cases rs with
  | nil=>exact(g.ne rfl).elim
  | cons q rs=>exact⟨_,_,rfl⟩
 have hrk:∀ t∈row,g9 t:=fun t ht=>m7 (.inr (w.wd t ht))
 have key:∀ U B,Hu (q :: rs) U->dC (bX (q :: rs) row U) B->∀ fv Mf,Fd (aH B (eM q row)) fv->Mf C.t=some (.tb nB iJ.qual)->
   (aN (KR C) (aN (KS C) (aN (zD C) (zE C)))) (bI R) [some (.sc (zs.map W.int)),some (cJ (q :: rs)),some (eL row),some fv,none,none,none,none] Mf:=by
  intro U B hU hB fv Mf hF mf
  refine xI rfl (xI rfl ⟨q,rs,row,rfl,g,zeg w,fun B0 hB0=>⟨fun z hz n ws=>xI rfl (bC (fun _=>?_) fun h=>nomatch (show true=false from h)),fun hz=>xI rfl (bC (fun h=>nomatch (show false=true from h)) fun _=>?_)⟩⟩)
  ·obtain⟨S,gn⟩:=JO row
   obtain⟨x,hx,hl⟩:=JS g hU hB0 hB hz gn
   have h0:=zbg hB hx
   rcases hF with⟨h1,_⟩ | ⟨x',p,t,h1,rfl⟩
   ·rw[show aH B (eM q row)=some x from hx] at h1;cases h1
   ·rw[show aH B (eM q row)=some x from hx] at h1
    cases h1
    refine xI rfl (xI rfl (bC (fun _=>xI rfl (xI rfl ?_)) fun h=>nomatch (show true=false from h)))
    show(bI R).rt (.bl (decide (x.1.1=0))) Mf
    rw[decide_eq_true (show x.1.1=0 by lia)]
    exact⟨_,Sub.refl _,r _ mf⟩
  ·have go:(aN (zD C) (zE C)) (bI R) [some (.sc (zs.map W.int)),some (cJ (q :: rs)),some (eL row),some fv,none,none,none,none] Mf:=by
    refine⟨eP (by decide),fP (iT (fun i τ M'=>∃ (o:Option W×Option W×Option W×Option W),τ=[some (.sc (zs.map W.int)),some (cJ (q :: rs)),some (eL row),some fv,o.1,o.2.1,o.2.2.1,o.2.2.2]/\M'=Mf) ⟨(_,_,_,_),rfl,rfl⟩ ?_ ?_)⟩
    ·rintro i x τ M' hx ⟨o,rfl,rfl⟩ D hD
     obtain⟨b,rfl⟩:∃ b:Nat,x=.int b:=by
      have:=Bn hx
      simp only[Ay,List.not_mem_nil,or_false] at this
      rcases this with rfl | rfl | rfl | rfl
      ·exact⟨15,rfl⟩
      ·exact⟨27,rfl⟩
      ·exact⟨39,rfl⟩
      ·exact⟨51,rfl⟩
     obtain⟨cs,ec,hcl,_⟩:=JB (f:=W.int) zs (some b) (b + 12)
     have hcl:cs.length<=b + 12 - b:=hcl
     have ec:eF (zs.map W.int) (some (b:Int)) (some ((b:Int) + 12))=cs.map W.int:=ec
     refine xI rfl (xI rfl (xI rfl (xI rfl (xI rfl (xI rfl ?_)))))
     show zA [eL row,.rl (eF (zs.map W.int) (some (b:Int)) (some ((b:Int) + 12)))] M' _
     rw[ec]
     refine⟨row,cs,rfl,w,by lia,fun S wd n gn w8 hS=>aZ.frz ?_⟩
     have s48:y7 S row wd n:=⟨gn,hrk,hS⟩
     have hwk:∀ t∈wd,g9 t:=fun t ht=>m7 (.inr (w8.wd t ht))
     refine xI rfl (fP (nU (rest:=[]) fM (eP (by rw[Aa];lia)) (fun _ _=>trivial) (fun v hv M3 C D sb h1 h2=>?_) (aZ.frz ?_)))
     ·obtain⟨x,hx,rfl⟩:=Ba.mp hv
      rcases uG gn x hx with⟨t,rfl⟩ | ⟨t,rfl⟩ | ⟨t,rfl⟩ | ⟨x,t,rfl⟩
      ·exact xI rfl (xI rfl (xI rfl (bC (fun _=>xI rfl (xI rfl (xI rfl (h1 _ rfl)))) fun z=>absurd z (by decide))))
      ·exact xI rfl (xI rfl (xI rfl (bC (fun z=>absurd z (by decide)) fun _=>h2 rfl)))
      ·exact xI rfl (xI rfl (xI rfl (bC (fun _=>xI rfl (xI rfl (xI rfl (h1 _ rfl)))) fun z=>absurd z (by decide))))
      ·exact xI rfl (xI rfl (xI rfl (bC (fun _=>xI rfl (xI rfl (xI rfl (h1 _ rfl)))) fun z=>absurd z (by decide))))
     rw[K5 gn]
     refine xI rfl (xI rfl ⟨S,row,wd,n,rfl,s48,xI rfl ⟨S,row,wd,n,rfl,s48,aZ.frz (xI rfl (FT (neg:=true) 1 (by decide) (yV hwk) rfl (xI rfl (bC (fun h=>nomatch (show false=true from h)) fun _=>?_))))⟩⟩)
     refine xI rfl (fP (nU (rest:=[]) k7 (eP (by rw[Aa];lia)) (fun _ _=>trivial) (fun v hv M3 C D sb h1 h2=>?_) (aZ.frz ?_)))
     ·obtain⟨x,hx,rfl⟩:=Ba.mp hv
      rcases uG gn x hx with⟨t,rfl⟩ | ⟨t,rfl⟩ | ⟨t,rfl⟩ | ⟨x,t,rfl⟩
      ·exact xI rfl (xI rfl (xI rfl (bC (fun z=>absurd z (by decide)) fun _=>h2 rfl)))
      ·exact xI rfl (xI rfl (xI rfl (bC (fun _=>xI rfl (h1 _ rfl)) fun z=>absurd z (by decide))))
      ·exact xI rfl (xI rfl (xI rfl (bC (fun _=>xI rfl (h1 _ rfl)) fun z=>absurd z (by decide))))
      ·exact xI rfl (xI rfl (xI rfl (bC (fun _=>xI rfl (h1 _ rfl)) fun z=>absurd z (by decide))))
     have fin:∀ o:Option W×Option W×Option W×Option W,D.nx [some (.sc (zs.map W.int)),some (cJ (q :: rs)),some (eL row),some fv,o.1,o.2.1,o.2.2.1,o.2.2.2] M':=fun o=>hD _ _ ⟨o,rfl,rfl⟩
     obtain⟨ks,hks⟩:∃ ks,ks=(S.map eC).filterMap k7:=⟨_,rfl⟩
     have hkn:(ks.length:Int)=n:=by rw[hks];exact zd3 gn
     rw[<-hks]
     refine xI rfl (xI rfl ⟨q,rs,wd,rfl,g,w8,fun B1 hB1=>⟨fun z hz _ _=>xI rfl (bC (fun _=>?_) fun h=>nomatch (show true=false from h)),fun _=>xI rfl (bC (fun h=>nomatch (show false=true from h)) fun _=>bC (fun h=>nomatch (show false=true from h)) fun _=>fin (_,_,_,_))⟩⟩)
     obtain⟨x,hx,hl⟩:=JS g hU hB1 hB hz gn
     rcases hF with⟨h1,_⟩ | ⟨x',p,t,h1,rfl⟩
     ·rw[show aH B (eM q row)=some x from hx] at h1;cases h1
     ·rw[show aH B (eM q row)=some x from hx] at h1
      cases h1
      refine xI rfl (xI rfl (bC (fun h=>nomatch (show false=true from h)) fun _=>xI rfl (xI rfl (xI rfl (xI rfl (bC (fun h=>?_) fun _=>fin (_,_,_,_)))))))
      have h:=of_decide_eq_true h
      lia
    ·rintro τ M' ⟨o,rfl,rfl⟩
     exact⟨_,Sub.refl _,r _ mf⟩
   rcases hF with⟨h1,rfl⟩ | ⟨x,p,t,h1,rfl⟩
   ·exact xI rfl (xI rfl (bC (fun h=>nomatch (show false=true from h)) fun _=>bC (fun h=>nomatch (show false=true from h)) fun _=>go))
   ·refine xI rfl (xI rfl (bC (fun _=>xI rfl (xI rfl (xI rfl (bC (fun h=>?_) fun _=>go)))) fun h=>nomatch (show true=false from h)))
    obtain⟨z,hz'⟩:=zbj g hB0 hB h1 (of_decide_eq_true h)
    rw[hz] at hz';cases hz'
 refine xI rfl (xI rfl ⟨q,rs,row,rfl,g,w,mt,fun U B hU hs hB=>⟨fun hn=>?_,fun x hx p M1 np sb mp=>?_⟩⟩)
 ·exact key U B hU hB _ _ (.inl ⟨hn,rfl⟩) mt
 ·exact key U B hU hB _ _ (.inr ⟨x,p,_,hx,rfl⟩) (sb _ _ mt)
end M47
namespace L3
open PySem PySem.Spec PyProof.Rows L2
section
variable {K:Ab}{x q:Str}{st:Stmt}{f c:Addr}{ps:List Str}{fd:Bi}{N:List Str}{sp:bH}{rd:Addr->aI}
theorem zei(P:Bu)(w:Cm)(mg:Str->Option Ae)(base:Heap)(k:Nat)(y:Str)(cyf:Nat->Addr)(hc:fd.code=.ref c)(F:jH K x q st f fd)(_:Binds K fd ps [])(S:mD N ps (d6 st))(good:∀ {cy ws M R},sp ws M R->rd cy (bI R) (bP N ws) M)
  (hcell:∀ n,(Ja q (d6 st) n f (.ref c)).cells.lookup y=some (cyf n))
  (tm:∀ {A:Co} {outer:List Env} {s:Ag} {H:Hp} {E:XK} {cy:Addr},cF k (A.deeper (Ja q (d6 st) s.heap.objs.size f (.ref c)))->(A.deeper (Ja q (d6 st) s.heap.objs.size f (.ref c))).units + 1 < Ff->N.Nodup->(Ja q (d6 st) s.heap.objs.size f (.ref c)).cells.lookup y=some cy->jK (kG e9 P w K mg base N q (d6 st) f (.ref c) A outer s H E).nox (gQ st) (rd cy)) (len:∀ ws M R,sp ws M R->ws.length=ps.length:=by intro _ _ _ h;repeat (first | (obtain⟨rfl,_⟩:=h;exact rfl) | obtain⟨_,h⟩:=h)):eV P w K mg base e9 (k + 1) f fd ps (fV K sp):=by
 obtain⟨oc,od,kV,doc,pm,an,cdv,ct,osl,rfl,lk,hcd⟩:=F.ex
 cases (show cdv=.ref c from hc)
 refine DF lk hcd S (fun vs H Q E ⟨ws,M,R,am,av,h,_⟩=>by rw[av.length];exact len ws M R h) fun A outer s H vs Q E hr ⟨ws,M,R,am,av,h,kk⟩=>⟨_,(tm (E:=E) hr (DZ hr) S.nd (hcell _)).nox,bP N ws,M,bI R,?_,am,good h,⟨fun σ' H' τ' M' k' am' as' ⟨M'',sb,r⟩=>kk _ H' _ M'' (k'.sub sb) (am'.sub sb) .non r,fun v H' w M' k' am' av' ⟨M'',sb,r⟩=>kk v H' w M'' (k'.sub sb) (am'.sub sb) (av'.sub sb) r,fun _ _ _ _ _ _ _ z=>z.elim,fun _ _ _ _ _ _ _ z=>z.elim⟩⟩
 unfold L2.start bP
 rw[av.length]
 exact AS.start av _
end
end L3
namespace M47
open PySem PySem.Spec PyProof.Rows L2 L3 Rg
open M69 (J5 J6 J7)
structure Tx(mg:Str->Option Ae):Prop where
 c_GAP:∃ t,mg "GAP" = some (.str "" t)
 dict_:mg "dict" = none
 enumerate_:mg "enumerate" = none
 len_:mg "len" = none
 list_:mg "list" = none
 range_:mg "range" = none
 reversed_:mg "reversed" = none
 sorted_:mg "sorted" = none
 tuple_:mg "tuple" = none
structure Kc(K:Ab)(mg:Str->Option Ae)(C:Cc):Prop where
 cls_Queue:gW K C.q
 at__Queue:mg "Queue" = some (.ref C.q)
 cls_Search:gW K C.s
 at__Search:mg "Search" = some (.ref C.s)
 na_costs:f9 K C.q "costs"
 na_waiting:f9 K C.q "waiting"
 na_grammar:f9 K C.s "grammar"
 na_own:f9 K C.s "own"
 na_steps:f9 K C.s "steps"
 na_queue:f9 K C.s "queue"
 na_reached:f9 K C.s "reached"
 na_best:f9 K C.s "best"
 na_ends:f9 K C.s "ends"
 na_begun:f9 K C.s "begun"
structure Al(K:Ab)(mg:Str->Option Ae)(C:Cc)(fa:Nat->Addr)(fb:Nat->Bi):Prop extends Tx mg,Kc K mg C where
 x0:Df K mg "names" zJ ["grammar"] (fa 0) (fb 0)
 x1:Df K mg "first_name" zK ["grammar"] (fa 1) (fb 1)
 x2:Df K mg "marks" zL ["things"] (fa 2) (fb 2)
 x3:Df K mg "places_of" zM ["row"] (fa 3) (fb 3)
 x4:Df K mg "row_steps" zN ["row"] (fa 4) (fb 4)
 x5:Df K mg "part_facts" zO ["own","parts","cut"] (fa 5) (fb 5)
 x6:Di K C.q "__init__" "Queue.__init__" zP ["self"] (fa 6) (fb 6)
 x7:Dm K C.q "is_done" "Queue.is_done" zQ ["self"] (fa 7) (fb 7)
 x8:Dm K C.q "place_of" "Queue.place_of" zS ["self","cost"] (fa 8) (fb 8)
 x9:Dm K C.q "put" "Queue.put" zR ["self","cost","thing"] (fa 9) (fb 9)
 x10:Dm K C.q "take" "Queue.take" zT ["self"] (fa 10) (fb 10)
 x11:Df K mg "added" zU ["cost","other"] (fa 11) (fb 11)
 x12:Di K C.s "__init__" "Search.__init__" zV ["self","grammar","steps"] (fa 12) (fb 12)
 x13:Dm K C.s "reach" "Search.reach" zW ["self","number","cut","cost"] (fa 13) (fb 13)
 x14:Dm K C.s "settle" "Search.settle" zZ ["self","number","cut","cost"] (fa 14) (fb 14)
 x15:Dm K C.s "step_by_name" "Search.step_by_name" zY ["self","number","cut","cost","key"] (fa 15) (fb 15)
 x16:Dm K C.s "take_next" "Search.take_next" zX ["self"] (fa 16) (fb 16)
 x17:Df K mg "least_trees" z5 ["grammar","places","steps","weights"] (fa 17) (fb 17)
 x18:Df K mg "facts_within" z6 ["grammar","best","top"] (fa 18) (fb 18)
 x19:Df K mg "knot_of" AA ["number","children"] (fa 19) (fb 19)
 x20:Df K mg "same_word" z9 ["word","begin","end"] (fa 20) (fb 20)
 x21:Df K mg "made_of_best" z7 ["grammar","best","top","of_word","of_rule"] (fa 21) (fb 21)
 x22:Df K mg "best_tree" AB ["grammar","best","top"] (fa 22) (fb 22)
 x23:Df K mg "one_behind_another" AD ["lists"] (fa 23) (fb 23)
 x24:Df K mg "joined" AE ["number","lists"] (fa 24) (fb 24)
 x25:Df K mg "row_trees" AF ["grammar","row","weights"] (fa 25) (fb 25)
 x26:Df K mg "no_weights" AG ["grammar"] (fa 26) (fb 26)
 x27:Df K mg "whole_fact" AH ["grammar","row"] (fa 27) (fb 27)
 x28:Df K mg "reading" AI ["grammar","row"] (fa 28) (fb 28)
 x29:Df K mg "words_of" AJ ["grammar"] (fa 29) (fb 29)
 x30:Df K mg "with_gaps" AK ["grammar"] (fa 30) (fb 30)
 x31:Df K mg "mend_cost" AL ["row","word","begin","end"] (fa 31) (fb 31)
 x32:Df K mg "drops" AN ["words"] (fa 32) (fb 32)
 x33:Df K mg "mend_steps" AQ ["row","word","begin","end"] (fa 33) (fb 33)
 x34:Df K mg "mending_steps" AR ["grammar","row"] (fa 34) (fb 34)
 x35:Df K mg "least_mends" AU ["grammar","row"] (fa 35) (fb 35)
 x36:Df K mg "fewest_mends" AW ["grammar","row"] (fa 36) (fb 36)
 x37:Df K mg "mended" AX ["steps"] (fa 37) (fb 37)
 x38:Df K mg "is_mend" AY ["row","steps"] (fa 38) (fb 38)
 x39:Df K mg "_law_cell_at" AZ ["script","k"] (fa 39) (fb 39)
 x40:Df K mg "_law_parts" A0 ["d","heads"] (fa 40) (fb 40)
 x41:Df K mg "_law_grammar" A1 ["script"] (fa 41) (fb 41)
 x42:Df K mg "_law_row" A2 ["cells","most"] (fa 42) (fb 42)
 x43:Df K mg "_law_ladder" A5 ["cell"] (fa 43) (fb 43)
 x44:Df K mg "_law_case" A6 ["script"] (fa 44) (fb 44)
 x45:Df K mg "_law_mend" A7 ["row","cells"] (fa 45) (fb 45)
 x46:Df K mg "law" A8 ["script"] (fa 46) (fb 46)
 f_z_joined:C.g=fa 24
 f_same_word:C.h=fa 20
 f_z_knot_of:C.i=fa 19
 hc:(fb 36).code=.ref C.c
 bm:BMod K mg
 hd:Ki K C.c C.t=true
section
variable {P:Bu}{w:Cm}{K:Ab}{mg:Str->Option Ae}{base:Heap}{C:Cc}{fa:Nat->Addr}{fb:Nat->Bi}(Y:Al K mg C fa fb)
seal L2.PE L2.PA L2.PS L2.f7 L2.PT L2.PG L2.PI L2.PO
def qL:=cB P w mg base 0 Y.x0.fn Y.x0.bi b9 XU fun hr hu nd=>(aO (bF (i:=1) nd FF)
   (aO (fN Bs rfl (eW (v 0)) (d5 (i:=2) nd)
    (aS (j0 kJ (w_sub hu (v 1) (aX hu (v 2) aK)))))
   (aS (bT (iE (FC rfl) (by rfl) Y.list_ j5 (aC (v 1) aF))))))
def zej:=cB P w mg base 0 Y.x1.fn Y.x1.bi b9 XW fun hr hu nd=>(aS (bT (aX hu (aX hu (v 0) aK) aK)))
def qM:=cB P w mg base 0 Y.x2.fn Y.x2.bi b9 ZD fun hr hu nd=>(aS (bT (iE (V2 rfl) (by rfl) Y.dict_ FY (aC (c7 (iR ["thing"] [none] (eW (v 0)) (fun B=>(gP (i:=0))) (fun B=>lT) (fun B=>(bR (aC (v 0) (aC kJ aF)))))) aF))))
def uH:=cB P w mg base 0 Y.x3.fn Y.x3.bi b9 zat fun hr hu nd=>(aS (bT (Z3 (by rfl) Y.list_ (by rfl) Y.range_ (a9 dJ (dZ d7 (by rfl) Y.len_ d9 (aC (v 0) aF)) aK))))
def zek:=cB P w mg base 0 Y.x4.fn Y.x4.bi b9 zaw fun hr hu nd=>(aS (bT (iE (Z0 rfl (WE hr)) (by rfl) Y.dict_ FY (aC (c7 (iR ["place","word"] [none,none] (U1 (by rfl) Y.enumerate_ (aC (v 0) aF)) (fun B=>(lR rfl (gH (gP (i:=0)) (gH (gP (i:=1)) lQ)))) (fun B=>lT) (fun B=>(bR (aC (bR (aC (v 1) (aC (v 0) aF))) (aC (gJ (aC (bR (aC (a9 dJ (v 0) aK) (aC aK aF))) aF)) aF)))))) aF))))
def zel:=cB P w mg base 0 Y.x5.fn Y.x5.bi b9 za0 fun hr hu nd=>(aS (bT (iR ["k","part","own","cut"] [none,none,some 0,some 2] (yN (by rfl) Y.enumerate_ (aC (v 1) aF)) (fun B=>(lR rfl (gH (gP (i:=0)) (gH (gP (i:=1)) lQ)))) (fun B=>(mO (b8 (kN hu) (v 1) (v 2)))) (fun B=>(bR (aC (v 1) (aC (aX hu (v 3) (v 0)) (aC (aX hu (v 3) (a9 dJ (v 0) aK)) aF))))))))
def zem:=cB P w mg base 0 Y.x6.fn Y.x6.bi b9 XE fun hr hu nd=>(aO (j8 Y.cls_Queue Y.na_costs (v 0) (iY aF))
   (aS (j8 Y.cls_Queue Y.na_waiting (v 0) lO)))
def zen:=cB P w mg base 0 Y.x7.fn Y.x7.bi b9 XD fun hr hu nd=>(aS (bT (tU (iF hr.units) (dZ d7 (by rfl) Y.len_ d9 (aC (d4 Y.cls_Queue Y.na_costs (v 0)) aF)) aK)))
def zeo:=cB P w mg base 0 Y.x8.fn Y.x8.bi b9 XF fun hr hu nd=>(aO (bF (i:=2) nd aK)
   (aO (bF (i:=3) nd (dZ d7 (by rfl) Y.len_ d9 (aC (d4 Y.cls_Queue Y.na_costs (v 0)) aF)))
   (aO (wC Bs (b8 nM (v 2) (v 3))
    (aO (bF (i:=4) nd (a9 g6 (a9 dJ (v 2) (v 3)) aK))
   (aS (dB (b8 (WJ hu) (aX hu (d4 Y.cls_Queue Y.na_costs (v 0)) (v 4)) (v 1))
    (aS (bF (i:=2) nd (a9 dJ (v 4) aK)))
    (aS (bF (i:=3) nd (v 4)))))))
   (aS (bT (v 2))))))
def zep:=cB P w mg base 1 Y.x9.fn Y.x9.bi b9 XG fun hr hu nd=>(aO (dB (b8 (pG hu) (v 1) (d4 Y.cls_Queue Y.na_waiting (v 0)))
    (aO (j0 (iY aF) (w_sub hu (d4 Y.cls_Queue Y.na_waiting (v 0)) (v 1)))
   (aS (dR (eE Bp F.slot_list_insert F.type_list_insert WK (d4 Y.cls_Queue Y.na_costs (v 0)) (aC (lW Y.cls_Queue Y.x8.me (zeo Y) (hr.mono (by decide)) Y.x8.bi (v 0) (aC (v 1) aF)) (aC (v 1) aF))))))
    e7)
   (aS (dR (eE Bp Cb Ce gB (aX hu (d4 Y.cls_Queue Y.na_waiting (v 0)) (v 1)) (aC (v 2) aF)))))
def zeq:=cB P w mg base 0 Y.x10.fn Y.x10.bi b9 XH fun hr hu nd=>(aO (bF (i:=1) nd (aX hu (d4 Y.cls_Queue Y.na_costs (v 0)) (jX jZ aK)))
   (aO (bF (i:=2) nd (aX hu (d4 Y.cls_Queue Y.na_waiting (v 0)) (v 1)))
   (aO (bF (i:=3) nd (vR Bp Ll F.type_list_pop v9 (v 2)))
   (aO (dB (b8 (iF hr.units) (dZ d7 (by rfl) Y.len_ d9 (aC (v 2) aF)) aK)
    (aO (dR (vR Bp Ll F.type_list_pop v9 (d4 Y.cls_Queue Y.na_costs (v 0))))
   (aS (dR (eE Hn F.slot_dict_pop F.type_dict_pop (WB hu) (d4 Y.cls_Queue Y.na_waiting (v 0)) (aC (v 1) aF)))))
    e7)
   (aS (bT (bR (aC (v 1) (aC (v 3) aF)))))))))
def LD:=cB P w mg base 0 Y.x11.fn Y.x11.bi b9 ZE fun hr hu nd=>(aS (bT (bR (aC (a9 dJ (aX hu (v 0) aK) (aX hu (v 1) aK)) (aC (a9 dJ (aX hu (v 0) aK) (aX hu (v 1) aK)) aF)))))
def zer:=cB P w mg base 2 Y.x12.fn Y.x12.bi b9 ZM fun hr hu nd=>(aO (j8 Y.cls_Search Y.na_grammar (v 0) (v 1))
   (aO (j8 Y.cls_Search Y.na_own (v 0) (bO (qM Y) Y.x2 hr (aC (c7 (bO (qL Y) Y.x0 hr (aC (v 1) aF))) aF)))
   (aO (j8 Y.cls_Search Y.na_steps (v 0) (v 2))
   (aO (j8 Y.cls_Search Y.na_queue (v 0) (V5 Y.x6.mak (zem Y) (hr.mono (by decide)) (by rfl) Y.at__Queue Y.x6.bi))
   (aO (j8 Y.cls_Search Y.na_reached (v 0) lO)
   (aO (j8 Y.cls_Search Y.na_best (v 0) lO)
   (aO (j8 Y.cls_Search Y.na_ends (v 0) lO)
   (aS (j8 Y.cls_Search Y.na_begun (v 0) lO)))))))))
def uI:=cB P w mg base 2 Y.x13.fn Y.x13.bi b9 ZG fun hr hu nd=>(aO (bF (i:=4) nd (bR (aC (v 1) (aC (dZ d7 (by rfl) Y.len_ d9 (aC (v 2) aF)) (aC (aX hu (v 2) aK) (aC (aX hu (v 2) (jX jZ aK)) aF))))))
   (aS (dB (PW.pt (vP (b8 (pG hu) (v 4) (d4 Y.cls_Search Y.na_reached (v 0))) (vN (b8 (GU hu) (v 3) (aX hu (d4 Y.cls_Search Y.na_reached (v 0)) (v 4))))))
    (aO (j0 (v 3) (w_sub hu (d4 Y.cls_Search Y.na_reached (v 0)) (v 4)))
   (aS (dR (lW Y.cls_Queue Y.x9.me (zep Y) (hr.mono (by decide)) Y.x9.bi (d4 Y.cls_Search Y.na_queue (v 0)) (aC (v 3) (aC (bR (aC (v 1) (aC (v 2) aF))) aF))))))
    e7)))
def zes:=cB P w mg base 3 Y.x14.fn Y.x14.bi b9 ZJ fun hr hu nd=>(aO (bF (i:=4) nd (bR (aC (aX hu (aX hu (d4 Y.cls_Search Y.na_grammar (v 0)) (v 1)) aK) (aC (aX hu (v 2) aK) aF))))
   (aO (bF (i:=5) nd (a9 dJ (v 4) (bR (aC (aX hu (v 2) (jX jZ aK)) aF))))
   (aO (dB (b8 (kN hu) (v 5) (d4 Y.cls_Search Y.na_best (v 0)))
    (aS FI)
    e7)
   (aO (j0 (bR (aC (v 3) (aC (v 1) (aC (v 2) aF)))) (w_sub hu (d4 Y.cls_Search Y.na_best (v 0)) (v 5)))
   (aO (dR (eE Bp Cb Ce gB (eE Hn F.slot_dict_setdefault F.type_dict_setdefault (GN hu) (d4 Y.cls_Search Y.na_ends (v 0)) (aC (v 4) (aC (iY aF) aF))) (aC (bR (aC (aX hu (v 2) (jX jZ aK)) (aC (v 3) aF))) aF)))
   (aS (fN Bs rfl (wH (eE Hn F.slot_dict_get F.type_dict_get (w6 hu) (d4 Y.cls_Search Y.na_begun (v 0)) (aC (v 4) (aC (gJ aF) aF)))) (lR rfl (gH (d5 (i:=6) nd) (gH (d5 (i:=7) nd) (gH (d5 (i:=8) nd) lQ))))
    (aS (dR (lW Y.cls_Search Y.x13.me (uI Y) (hr.mono (by decide)) Y.x13.bi (v 0) (aC (v 6) (aC (a9 dJ (v 7) (bR (aC (aX hu (v 2) (jX jZ aK)) aF))) (aC (bO (LD Y) Y.x11 hr (aC (v 8) (aC (v 3) aF))) aF)))))))))))))
def zet:=cB P w mg base 3 Y.x15.fn Y.x15.bi b9 ZH fun hr hu nd=>(aO (dR (eE Bp Cb Ce gB (eE Hn F.slot_dict_setdefault F.type_dict_setdefault (GN hu) (d4 Y.cls_Search Y.na_begun (v 0)) (aC (v 4) (aC (iY aF) aF))) (aC (bR (aC (v 1) (aC (v 2) (aC (v 3) aF)))) aF)))
   (aS (fN Bs rfl (wH (eE Hn F.slot_dict_get F.type_dict_get (w6 hu) (d4 Y.cls_Search Y.na_ends (v 0)) (aC (v 4) (aC (gJ aF) aF)))) (lR rfl (gH (d5 (i:=5) nd) (gH (d5 (i:=6) nd) lQ)))
    (aS (dR (lW Y.cls_Search Y.x13.me (uI Y) (hr.mono (by decide)) Y.x13.bi (v 0) (aC (v 1) (aC (a9 dJ (v 2) (bR (aC (v 5) aF))) (aC (bO (LD Y) Y.x11 hr (aC (v 3) (aC (v 6) aF))) aF)))))))))
def zeu:=cB P w mg base 4 Y.x16.fn Y.x16.bi b9 ZK fun hr hu nd=>(aO (bF (i:=1) nd (w5 Y.cls_Queue Y.x10.me (zeq Y) (hr.mono (by decide)) Y.x10.bi (d4 Y.cls_Search Y.na_queue (v 0))))
   (aO (bF (i:=2) nd (aX hu (v 1) aK))
   (aO (bF (i:=3) nd (aX hu (aX hu (v 1) aK) aK))
   (aO (bF (i:=4) nd (aX hu (aX hu (v 1) aK) aK))
   (aO (dB (b8 (GU hu) (aX hu (d4 Y.cls_Search Y.na_reached (v 0)) (bR (aC (v 3) (aC (dZ d7 (by rfl) Y.len_ d9 (aC (v 4) aF)) (aC (aX hu (v 4) aK) (aC (aX hu (v 4) (jX jZ aK)) aF)))))) (v 2))
    (aS FI)
    e7)
   (aO (bF (i:=5) nd (aX hu (aX hu (d4 Y.cls_Search Y.na_grammar (v 0)) (v 3)) aK))
   (aS (dB (b8 EU (dZ d7 (by rfl) Y.len_ d9 (aC (v 4) aF)) (dZ d7 (by rfl) Y.len_ d9 (aC (v 5) aF)))
    (aS (dR (lW Y.cls_Search Y.x14.me (zes Y) (hr.mono (by decide)) Y.x14.bi (v 0) (aC (v 3) (aC (v 4) (aC (v 2) aF))))))
    (aS (dB (b8 (kN hu) (aX hu (v 5) (a9 nL (dZ d7 (by rfl) Y.len_ d9 (aC (v 4) aF)) aK)) (d4 Y.cls_Search Y.na_own (v 0)))
    (aS (dR (lW Y.cls_Search Y.x15.me (zet Y) (hr.mono (by decide)) Y.x15.bi (v 0) (aC (v 3) (aC (v 4) (aC (v 2) (aC (bR (aC (aX hu (v 5) (a9 nL (dZ d7 (by rfl) Y.len_ d9 (aC (v 4) aF)) aK)) (aC (aX hu (v 4) (jX jZ aK)) aF))) aF)))))))
    (aS (fN Bs rfl (wH (eE Hn F.slot_dict_get F.type_dict_get (w6 hu) (d4 Y.cls_Search Y.na_steps (v 0)) (aC (bR (aC (aX hu (v 5) (a9 nL (dZ d7 (by rfl) Y.len_ d9 (aC (v 4) aF)) aK)) (aC (aX hu (v 4) (jX jZ aK)) aF))) (aC (gJ aF) aF)))) (lR rfl (gH (d5 (i:=6) nd) (gH (d5 (i:=7) nd) lQ)))
    (aS (dR (lW Y.cls_Search Y.x13.me (uI Y) (hr.mono (by decide)) Y.x13.bi (v 0) (aC (v 3) (aC (a9 dJ (v 4) (bR (aC (v 6) aF))) (aC (bR (aC (a9 dJ (aX hu (v 2) aK) (v 7)) (aC (aX hu (v 2) aK) aF))) aF))))))))))))))))))
def LF:=cB P w mg base 5 Y.x17.fn Y.x17.bi b9 ZS fun hr hu nd=>(aO (bF (i:=4) nd (V4 Y.x12.mak (zer Y) (hr.mono (by decide)) (by rfl) Y.at__Search Y.x12.bi (aC (v 0) (aC (v 2) aF))))
   (aO (fN Bs rfl (r9 (by rfl) Y.range_ (aC (dZ d7 (by rfl) Y.len_ d9 (aC (v 0) aF)) aF)) (d5 (i:=5) nd)
    (aS (fN Bs rfl (eW (v 1)) (d5 (i:=6) nd)
    (aS (dR (lW Y.cls_Search Y.x13.me (uI Y) (hr.mono (by decide)) Y.x13.bi (v 4) (aC (v 5) (aC (bR (aC (v 6) aF)) (aC (bR (aC (aX hu (v 3) (v 5)) (aC aK aF))) aF)))))))))
   (aO (wC Bs (EK (vK (w5 Y.cls_Queue Y.x7.me (zen Y) (hr.mono (by decide)) Y.x7.bi (d4 Y.cls_Search Y.na_queue (v 4)))))
    (aS (dR (w5 Y.cls_Search Y.x16.me (zeu Y) (hr.mono (by decide)) Y.x16.bi (v 4)))))
   (aS (bT (d4 Y.cls_Search Y.na_best (v 4)))))))
def LG:=cB P w mg base 1 Y.x18.fn Y.x18.bi b9 za3 fun hr hu nd=>(aO (bF (i:=3) nd (bO (qM Y) Y.x2 hr (aC (c7 (bO (qL Y) Y.x0 hr (aC (v 0) aF))) aF)))
   (aO (bF (i:=4) nd (zaC hu (v 2) kJ))
   (aO (bF (i:=5) nd (iY (aC (v 2) aF)))
   (aO (wC Bs (vK (v 5))
    (aO (bF (i:=6) nd (aX hu (v 1) (vR Bp Ll F.type_list_pop v9 (v 5))))
   (aS (fN Bs rfl (eW (c7 (bO (zel Y) Y.x5 hr (aC (v 3) (aC (aX hu (aX hu (v 0) (aX hu (v 6) aK)) aK) (aC (aX hu (v 6) aK) aF)))))) (d5 (i:=7) nd)
    (aS (dB (b8 (pG hu) (v 7) (v 4))
    (aO (j0 kJ (w_sub hu (v 4) (v 7)))
   (aS (dR (eE Bp Cb Ce gB (v 5) (aC (v 7) aF)))))
    e7))))))
   (aS (bT (iR ["fact","found"] [none,some 4] (ZZ (v 1)) (fun B=>(gP (i:=0))) (fun B=>(mO (b8 (kN hu) (v 0) (v 1)))) (fun B=>(v 0)))))))))
def zev:=cB P w mg base 0 Y.x19.fn Y.x19.bi b9 J7 fun hr hu nd=>(aS (bT (bR (aC (v 0) (aC (iE FD (by rfl) Y.tuple_ FX (aC (v 1) aF)) aF)))))
def zew:=cB P w mg base 0 Y.x20.fn Y.x20.bi b9 zaX fun hr hu nd=>(aS (bT (v 0)))
def zex:=cB P w mg base 2 Y.x21.fn Y.x21.bi b9 zdQ fun hr hu nd=>(aO (bF (i:=5) nd (bO (qM Y) Y.x2 hr (aC (c7 (bO (qL Y) Y.x0 hr (aC (v 0) aF))) aF)))
   (aO (bF (i:=6) nd lO)
   (aO (fN Bs rfl (eW (c7 (bO (LG Y) Y.x18 hr (aC (v 0) (aC (v 1) (aC (v 2) aF)))))) (d5 (i:=7) nd)
    (aO (bF (i:=8) nd (aX hu (aX hu (v 1) (v 7)) aK))
   (aO (bF (i:=9) nd (aX hu (aX hu (v 1) (v 7)) aK))
   (aO (bF (i:=10) nd (iY aF))
   (aO (fN Bs rfl (yN (by rfl) Y.enumerate_ (aC (aX hu (aX hu (v 0) (v 8)) aK) aF)) (lR rfl (gH (d5 (i:=11) nd) (gH (d5 (i:=12) nd) lQ)))
    (aS (dB (b8 (kN hu) (v 12) (v 5))
    (aS (dR (eE Bp Cb Ce gB (v 10) (aC (aX hu (v 6) (bR (aC (v 12) (aC (aX hu (v 9) (v 11)) (aC (aX hu (v 9) (a9 dJ (v 11) aK)) aF))))) aF))))
    (aS (dR (eE Bp Cb Ce gB (v 10) (aC (yK (i:=3) Y.f_same_word (zew Y) hr Y.x20.fn.kp Y.x20.bi (aC (v 12) (aC (aX hu (v 9) (v 11)) (aC (aX hu (v 9) (a9 dJ (v 11) aK)) aF)))) aF)))))))
   (aS (j0 (yK (i:=4) Y.f_z_knot_of (zev Y) hr Y.x19.fn.kp Y.x19.bi (aC (v 8) (aC (c7 (v 10)) aF))) (w_sub hu (v 6) (v 7)))))))))
   (aS (bT (aX hu (v 6) (v 2)))))))
def LH:=cB P w mg base 3 Y.x22.fn Y.x22.bi b9 zdR fun hr hu nd=>(aS (bT (bO (zex Y) Y.x21 hr (aC (v 0) (aC (v 1) (aC (v 2) (aC (yL Y.f_same_word Y.x20) (aC (yL Y.f_z_knot_of Y.x19) aF))))))))
def zey:=cB P w mg base 0 Y.x23.fn Y.x23.bi b9 J5 fun hr hu nd=>(aO (bF (i:=1) nd (iY aF))
   (aO (fN Bs rfl (eW (v 0)) (d5 (i:=2) nd)
    (aS (dR (eE Bp F.slot_list_extend F.type_list_extend T8 (v 1) (aC (v 2) aF)))))
   (aS (bT (v 1)))))
def zez:=cB P w mg base 1 Y.x24.fn Y.x24.bi b9 J6 fun hr hu nd=>(aS (bT (bO (zey Y) Y.x23 hr (aC (v 1) aF))))
def zeA:=cB P w mg base 6 Y.x25.fn Y.x25.bi b9 zdZ fun hr hu nd=>(aS (bT (bO (LF Y) Y.x17 hr (aC (v 0) (aC (c7 (bO (uH Y) Y.x3 hr (aC (v 1) aF))) (aC (c7 (bO (zek Y) Y.x4 hr (aC (v 1) aF))) (aC (v 2) aF)))))))
def LI:=cB P w mg base 0 Y.x26.fn Y.x26.bi b9 zao fun hr hu nd=>(aS (bT (iR ["rule"] [none] (eW (v 0)) (fun B=>(gP (i:=0))) (fun B=>lT) (fun B=>aK))))
def LJ:=cB P w mg base 1 Y.x27.fn Y.x27.bi b9 zaW fun hr hu nd=>(aS (bT (bR (aC (bO (zej Y) Y.x1 hr (aC (v 0) aF)) (aC aK (aC (dZ d7 (by rfl) Y.len_ d9 (aC (v 1) aF)) aF))))))
def LK:=cB P w mg base 7 Y.x28.fn Y.x28.bi b9 zd1 fun hr hu nd=>(aO (bF (i:=2) nd (HU (bO (zeA Y) Y.x25 hr (aC (v 0) (aC (v 1) (aC (c7 (bO (LI Y) Y.x26 hr (aC (v 0) aF))) aF))))))
   (aO (bF (i:=3) nd (bO (LJ Y) Y.x27 hr (aC (v 0) (aC (v 1) aF))))
   (aS (bT (vQ (b8 (kN hu) (v 3) (v 2)) (bO (LH Y) Y.x22 hr (aC (v 0) (aC (v 2) (aC (v 3) aF)))) mK)))))
def zeB:=cB P w mg base 1 Y.x29.fn Y.x29.bi b9 zbN fun hr hu nd=>(aO (bF (i:=1) nd (bO (qM Y) Y.x2 hr (aC (c7 (bO (qL Y) Y.x0 hr (aC (v 0) aF))) aF)))
   (aO (bF (i:=2) nd FF)
   (aO (fN Bs rfl (eW (v 0)) (d5 (i:=3) nd)
    (aS (fN Bs rfl (eW (aX hu (v 3) aK)) (d5 (i:=4) nd)
    (aS (dB (b8 (pG hu) (v 4) (v 1))
    (aS (j0 kJ (w_sub hu (v 2) (v 4))))
    e7)))))
   (aS (bT (dZ (U5 rfl) (by rfl) Y.sorted_ UY (aC (c7 (v 2)) aF)))))))
def LL:=cB P w mg base 0 Y.x30.fn Y.x30.bi b9 zdH fun hr hu nd=>Y.c_GAP.elim fun t_GAP h_GAP=>(aS (bT (c7 (iR ["rule"] [none] (eW (v 0)) (fun B=>(gP (i:=0))) (fun B=>lT) (fun B=>(vQ (b8 (mM hr.units) (aX hu (v 0) aK) (bR aF)) (v 0) (bR (aC (aX hu (v 0) aK) (aC (bR (aC (rJ (y:=V.str "") (by rfl) h_GAP ⟨_,rfl⟩ (fun _ _=>.str _)) aF)) (aC (aX hu (v 0) aK) aF))))))))))
def zeC:=cB P w mg base 0 Y.x31.fn Y.x31.bi b9 zdE fun hr hu nd=>Y.c_GAP.elim fun t_GAP h_GAP=>(aO (bF (i:=4) nd (i6 (v 0) (g7 (v 2)) (g7 (v 3))))
   (aO (dB (b8 (iF hr.units) (v 1) (rJ (y:=V.str "") (by rfl) h_GAP ⟨_,rfl⟩ (fun _ _=>.str _)))
    (aS (bT (dZ d7 (by rfl) Y.len_ d9 (aC (v 4) aF))))
    e7)
   (aO (dB (b8 (iF hr.units) (dZ d7 (by rfl) Y.len_ d9 (aC (v 4) aF)) aK)
    (aS (bT aK))
    e7)
   (aS (bT (vQ (b8 (kN hu) (v 1) (v 4)) (a9 nL (dZ d7 (by rfl) Y.len_ d9 (aC (v 4) aF)) aK) (dZ d7 (by rfl) Y.len_ d9 (aC (v 4) aF))))))))
def uJ:=cB P w mg base 0 Y.x32.fn Y.x32.bi b9 zdC fun hr hu nd=>(aS (bT (c7 (iR ["word"] [none] (eW (v 0)) (fun B=>(gP (i:=0))) (fun B=>lT) (fun B=>(bR (aC cG (aC (v 0) aF))))))))
def zeD:=cB P w mg base 1 Y.x33.fn Y.x33.bi b9 zdF fun hr hu nd=>Y.c_GAP.elim fun t_GAP h_GAP=>(aO (bF (i:=4) nd (i6 (v 0) (g7 (v 2)) (g7 (v 3))))
   (aO (dB (b8 (iF hr.units) (v 1) (rJ (y:=V.str "") (by rfl) h_GAP ⟨_,rfl⟩ (fun _ _=>.str _)))
    (aS (bT (bO (uJ Y) Y.x32 hr (aC (v 4) aF))))
    e7)
   (aO (dB (b8 (iF hr.units) (dZ d7 (by rfl) Y.len_ d9 (aC (v 4) aF)) aK)
    (aS (bT (gJ (aC (bR (aC cG (aC (v 1) aF))) aF))))
    e7)
   (aO (dB (b8 (kN hu) (v 1) (v 4))
    (aO (bF (i:=5) nd (eE Bp F.slot_list_index F.type_list_index zbv (v 4) (aC (v 1) aF)))
   (aS (bT (a9 dJ (a9 dJ (bO (uJ Y) Y.x32 hr (aC (i6 (v 4) kM (g7 (v 5))) aF)) (gJ (aC (bR (aC cG (aC (v 1) aF))) aF))) (bO (uJ Y) Y.x32 hr (aC (i6 (v 4) (g7 (a9 dJ (v 5) aK)) kM) aF))))))
    e7)
   (aS (bT (a9 dJ (gJ (aC (bR (aC cG (aC (aX hu (v 4) aK) (aC (v 1) aF)))) aF)) (bO (uJ Y) Y.x32 hr (aC (i6 (v 4) (g7 aK) kM) aF)))))))))
def zeE:=cB P w mg base 2 Y.x34.fn Y.x34.bi b9 zdL fun hr hu nd=>(aO (bF (i:=2) nd lO)
   (aO (fN Bs rfl (eW (bO (zeB Y) Y.x29 hr (aC (v 0) aF))) (d5 (i:=3) nd)
    (aS (fN Bs rfl (eW (c7 (bO (uH Y) Y.x3 hr (aC (v 1) aF)))) (d5 (i:=4) nd)
    (aO (JC (i:=5) nd ["end","begin"] [none,some 4] (eW (c7 (bO (uH Y) Y.x3 hr (aC (v 1) aF)))) (fun B=>(gP (i:=0))) (fun B=>(mO (b8 TH (v 0) (v 1)))) (fun B=>(v 0)))
   (aS (j0 (c7 (iR ["end","row","word","begin"] [none,some 1,some 3,some 4] (eW (v 5)) (fun B=>(gP (i:=0))) (fun B=>lT) (fun B=>(bR (aC (v 0) (aC (bO (zeC Y) Y.x31 hr (aC (v 1) (aC (v 2) (aC (v 3) (aC (v 0) aF))))) aF)))))) (w_sub hu (v 2) (bR (aC (v 3) (aC (v 4) aF))))))))))
   (aS (bT (v 2)))))
def zeF:=cB P w mg base 6 Y.x35.fn Y.x35.bi b9 zdN fun hr hu nd=>(aO (bF (i:=2) nd (bO (LL Y) Y.x30 hr (aC (v 0) aF)))
   (aS (bT (bO (LF Y) Y.x17 hr (aC (v 2) (aC (c7 (bO (uH Y) Y.x3 hr (aC (v 1) aF))) (aC (c7 (bO (zeE Y) Y.x34 hr (aC (v 2) (aC (v 1) aF)))) (aC (c7 (bO (LI Y) Y.x26 hr (aC (v 0) aF))) aF))))))))
def zeG{cy:Addr}{vv:V}(hc:oJ base cy vv):=cB P w mg base 5 Y.x21.fn Y.x21.bi b9 (zdS (cy:=cy) (v:=vv)) fun hr hu nd=>(aO (bF (i:=5) nd (bO (qM Y) Y.x2 hr (aC (c7 (bO (qL Y) Y.x0 hr (aC (v 0) aF))) aF)))
   (aO (bF (i:=6) nd lO)
   (aO (fN Bs rfl (eW (c7 (bO (LG Y) Y.x18 hr (aC (v 0) (aC (v 1) (aC (v 2) aF)))))) (d5 (i:=7) nd)
    (aO (bF (i:=8) nd (aX hu (aX hu (v 1) (v 7)) aK))
   (aO (bF (i:=9) nd (aX hu (aX hu (v 1) (v 7)) aK))
   (aO (bF (i:=10) nd (iY aF))
   (aO (fN Bs rfl (yN (by rfl) Y.enumerate_ (aC (aX hu (aX hu (v 0) (v 8)) aK) aF)) (lR rfl (gH (d5 (i:=11) nd) (gH (d5 (i:=12) nd) lQ)))
    (aS (dB (b8 (kN hu) (v 12) (v 5))
    (aS (dR (eE Bp Cb Ce gB (v 10) (aC (aX hu (v 6) (bR (aC (v 12) (aC (aX hu (v 9) (v 11)) (aC (aX hu (v 9) (a9 dJ (v 11) aK)) aF))))) aF))))
    (aS (dR (eE Bp Cb Ce gB (v 10) (aC (zbu (i:=3) (k:=4) (L:=iJ) (cy:=cy) (v:=vv) (show oJ base cy vv from hc) J8 (hr.mono (by decide)) (fun _ _ _ _ _ _ hr=>(bO (zeD Y) Y.x33 (hr.deeper _) (aC (v 3) (aC (v 0) (aC (v 1) (aC (v 2) aF)))))) (aC (v 12) (aC (aX hu (v 9) (v 11)) (aC (aX hu (v 9) (a9 dJ (v 11) aK)) aF)))) aF)))))))
   (aS (j0 (yK (i:=4) Y.f_z_joined (zez Y) hr Y.x24.fn.kp Y.x24.bi (aC (v 8) (aC (c7 (v 10)) aF))) (w_sub hu (v 6) (v 7)))))))))
   (aS (bT (aX hu (v 6) (v 2)))))))
def zeH:=zei P w mg base 7 "row" (fun n=>n + 1) Y.hc Y.x36.fn Y.x36.bi b9 zdY (fun _=>rfl) fun hr hu nd hcy=>(aO (bF (i:=2) nd (HU (bO (zeF Y) Y.x35 hr (aC (v 0) (aC (v 1) aF)))))
   (aO (bF (i:=3) nd (bO (LJ Y) Y.x27 hr (aC (v 0) (aC (v 1) aF))))
   (aO (dB (b8 (pG hu) (v 3) (v 2))
    (aS (bT mK))
    e7)
   (aO (bF (i:=4) nd (zbt (y:="row") (j:=1) (sp:=y0 C) (fun base v hc=>zeG Y hc) hr Y.x21.at_ Y.x21.fn.kp Y.x21.bi (aC (bO (LL Y) Y.x30 hr (aC (v 0) aF)) (aC (v 2) (aC (v 3) (aC (zbs (L:=iJ) Y.bm rfl Y.hd (by kernel_rfl) hcy J8) (aC (yL Y.f_z_joined Y.x24) aF))))) hcy rfl rfl))
   (aS (bT (bR (aC (aX hu (aX hu (aX hu (v 2) (v 3)) aK) aK) (aC (v 4) (aC (bO (LH Y) Y.x22 hr (aC (v 0) (aC (v 2) (aC (v 3) aF)))) aF))))))))))
def zeI:=cB P w mg base 0 Y.x37.fn Y.x37.bi b9 zd4 fun hr hu nd=>(aS (bT (iR ["step"] [none] (eW (v 0)) (fun B=>(gP (i:=0))) (fun B=>(mO (b8 (mM hr.units) (aX hu (v 0) aK) cG))) (fun B=>(aX hu (v 0) (jX jZ aK))))))
def zeJ:=cB P w mg base 0 Y.x38.fn Y.x38.bi b9 zd5 fun hr hu nd=>(aS (bT (tU (iF hr.units) (c7 (iR ["step"] [none] (eW (v 1)) (fun B=>(gP (i:=0))) (fun B=>(mO (b8 (mM hr.units) (aX hu (v 0) aK) cG))) (fun B=>(aX hu (v 0) aK)))) (v 0))))
def zI:=cB P w mg base 0 Y.x39.fn Y.x39.bi b9 zd6 fun hr hu nd=>(aO (dB (b8 nM (v 1) (dZ d7 (by rfl) Y.len_ d9 (aC (v 0) aF)))
    (aS (bT (aX hu (v 0) (v 1))))
    e7)
   (aS (bT aK)))
def zeK:=cB P w mg base 0 Y.x40.fn Y.x40.bi b9 zd9 fun hr hu nd=>(aO (bF (i:=2) nd (iY aF))
   (aO (fN Bs rfl (r9 (by rfl) Y.range_ (aC (aX hu (gJ (aC aK (aC aK (aC aK (aC aK (aC aK (aC aK aF))))))) (a9 eZ (v 0) aK)) aF)) (d5 (i:=3) nd)
    (aO (bF (i:=4) nd (a9 eZ (a9 g6 (v 0) (a9 dJ aK (a9 wJ aK (v 3)))) aK))
   (aS (dB (b8 nM (v 4) aK)
    (aS (dR (eE Bp Cb Ce gB (v 2) (aC (aX hu (gJ (aC cG (aC cG (aC cG aF)))) (a9 eZ (v 4) aK)) aF))))
    (aS (dR (eE Bp Cb Ce gB (v 2) (aC (aX hu (v 1) (a9 eZ (v 4) (dZ d7 (by rfl) Y.len_ d9 (aC (v 1) aF)))) aF))))))))
   (aS (bT (iE FD (by rfl) Y.tuple_ FX (aC (v 2) aF))))))
def zeL:=cB P w mg base 1 Y.x41.fn Y.x41.bi b9 zea fun hr hu nd=>(aO (bF (i:=1) nd (bO (zI Y) Y.x39 hr (aC (v 0) (aC aK aF))))
   (aO (bF (i:=2) nd (i6 (gJ (aC cG (aC cG (aC cG aF)))) kM (g7 (a9 dJ aK (a9 eZ (a9 g6 (v 1) aK) aK)))))
   (aO (bF (i:=3) nd (iY aF))
   (aO (fN Bs rfl (r9 (by rfl) Y.range_ (aC (a9 dJ (dZ d7 (by rfl) Y.len_ d9 (aC (v 2) aF)) (a9 eZ (a9 g6 (v 1) aK) aK)) aF)) (d5 (i:=4) nd)
    (aO (bF (i:=5) nd (bO (zI Y) Y.x39 hr (aC (v 0) (aC (a9 dJ aK (v 4)) aF))))
   (aO (dB (b8 (iF hr.units) (a9 eZ (v 1) aK) aK)
    (aS (bF (i:=5) nd (a9 g6 (a9 wJ (a9 dJ (a9 eZ (v 5) (a9 ES aK aK)) (v 4)) (a9 dJ (a9 dJ (a9 eZ (v 5) (a9 ES aK aK)) (a9 wJ aK (v 4))) aK)) aK)))
    e7)
   (aO (bF (i:=6) nd (aX hu (v 2) (a9 eZ (v 5) (dZ d7 (by rfl) Y.len_ d9 (aC (v 2) aF)))))
   (aO (dB (b8 nM (v 4) (dZ d7 (by rfl) Y.len_ d9 (aC (v 2) aF)))
    (aS (bF (i:=6) nd (aX hu (v 2) (v 4))))
    e7)
   (aS (dR (eE Bp Cb Ce gB (v 3) (aC (bR (aC (v 6) (aC (bO (zeK Y) Y.x40 hr (aC (a9 g6 (v 5) aK) (aC (v 2) aF))) (aC (a9 eZ (a9 g6 (v 5) aK) aK) aF)))) aF)))))))))
   (aS (bT (v 3)))))))
def LM:=cB P w mg base 0 Y.x42.fn Y.x42.bi b9 zd8 fun hr hu nd=>(aS (bT (iR ["cell"] [none] (eW (i6 (v 0) kM (g7 (v 1)))) (fun B=>(gP (i:=0))) (fun B=>lT) (fun B=>(aX hu (gJ (aC cG (aC cG (aC cG aF)))) (a9 eZ (v 0) aK))))))
def zeM:=cB P w mg base 0 Y.x43.fn Y.x43.bi b9 zef fun hr hu nd=>(aO (bF (i:=1) nd (i6 (gJ (aC cG (aC cG (aC cG (aC cG (aC cG (aC cG (aC cG (aC cG aF))))))))) kM (g7 (a9 dJ aK (a9 eZ (v 0) aK)))))
   (aO (bF (i:=2) nd (iY aF))
   (aO (fN Bs rfl (r9 (by rfl) Y.range_ (aC (a9 nL (dZ d7 (by rfl) Y.len_ d9 (aC (v 1) aF)) aK) aF)) (d5 (i:=3) nd)
    (aS (dR (eE Bp Cb Ce gB (v 2) (aC (bR (aC (aX hu (v 1) (v 3)) (aC (bR (aC (aX hu (v 1) (a9 dJ (v 3) aK)) aF)) (aC aK aF)))) aF)))))
   (aO (dR (eE Bp Cb Ce gB (v 2) (aC (bR (aC (aX hu (v 1) (jX jZ aK)) (aC (aX hu (gJ (aC (bR (aC cG (aC cG aF))) (aC (bR (aC cG (aC cG aF))) (aC (bR (aC cG (aC cG (aC cG aF)))) aF)))) (a9 eZ (a9 g6 (v 0) aK) aK)) (aC aK aF)))) aF)))
   (aO (dR (eE Bp Cb Ce gB (v 2) (aC (bR (aC (aX hu (v 1) (a9 eZ (a9 g6 (v 0) aK) (dZ d7 (by rfl) Y.len_ d9 (aC (v 1) aF)))) (aC (aX hu (gJ (aC (bR (aC cG aF)) (aC (bR aF) aF))) (a9 eZ (a9 g6 (v 0) aK) aK)) (aC aK aF)))) aF)))
   (aO (dB (b8 (iF hr.units) (a9 eZ (a9 g6 (v 0) aK) aK) aK)
    (aS (bT (zbC (by rfl) Y.list_ (by rfl) Y.reversed_ (v 2))))
    e7)
   (aS (bT (v 2)))))))))
def zeN:=cB P w mg base 2 Y.x44.fn Y.x44.bi b9 zed fun hr hu nd=>(aO (bF (i:=1) nd (bO (zI Y) Y.x39 hr (aC (v 0) (aC aK aF))))
   (aO (bF (i:=2) nd (a9 eZ (a9 g6 (v 1) aK) aK))
   (aO (dB (b8 (iF hr.units) (a9 eZ (a9 g6 (v 1) aK) aK) aK)
    (aS (bT (bR (aC (c7 (bO (zeM Y) Y.x43 hr (aC (a9 g6 (v 1) aK) aF))) (aC (c7 (bO (LM Y) Y.x42 hr (aC (i6 (v 0) (g7 aK) kM) (aC (a9 dJ (v 2) aK) aF)))) aF)))))
    e7)
   (aS (bT (bR (aC (c7 (bO (zeL Y) Y.x41 hr (aC (v 0) aF))) (aC (c7 (bO (LM Y) Y.x42 hr (aC (i6 (v 0) (g7 aK) kM) (aC (v 2) aF)))) aF))))))))
def zeO:=cB P w mg base 0 Y.x45.fn Y.x45.bi b9 zec fun hr hu nd=>(aO (bF (i:=2) nd (iY aF))
   (aO (bF (i:=3) nd (iE (kQ rfl) (by rfl) Y.list_ j5 (aC (v 0) aF)))
   (aO (fN Bs rfl (eW (v 1)) (d5 (i:=4) nd)
    (aO (bF (i:=5) nd (aX hu (gJ (aC cG (aC cG (aC cG aF)))) (a9 eZ (a9 g6 (v 4) aK) aK)))
   (aS (dB (PW.pt (vO (b8 (iF hr.units) (a9 eZ (v 4) aK) aK) (vM (b8 nM (dZ d7 (by rfl) Y.len_ d9 (aC (v 2) aF)) aK))))
    (aS (dR (eE Bp Cb Ce gB (v 2) (aC (bR (aC cG (aC (v 5) aF))) aF))))
    (aS (dB (b8 (mM hr.units) (v 3) (gJ aF))
    (aO (dB (b8 (iF hr.units) (a9 eZ (v 4) aK) aK)
    (aS (dR (eE Bp Cb Ce gB (v 2) (aC (bR (aC cG (aC (aX hu (v 3) aK) aF))) aF))))
    (aS (dB (b8 (iF hr.units) (a9 eZ (v 4) aK) aK)
    (aS (dR (eE Bp Cb Ce gB (v 2) (aC (bR (aC cG (aC (aX hu (v 3) aK) (aC (v 5) aF)))) aF))))
    (aS (dR (eE Bp Cb Ce gB (v 2) (aC (bR (aC cG (aC (aX hu (v 3) aK) aF))) aF)))))))
   (aS (bF (i:=3) nd (i6 (v 3) (g7 aK) kM))))
    e7))))))
   (aS (bT (a9 ER (v 2) (c7 (iR ["word"] [none] (eW (v 3)) (fun B=>(gP (i:=0))) (fun B=>lT) (fun B=>(bR (aC cG (aC (v 0) aF))))))))))))
def zeP:=cB P w mg base 8 Y.x46.fn Y.x46.bi b9 zeh fun hr hu nd=>(aO (j0 (bO (zeN Y) Y.x44 hr (aC (v 0) aF)) (lR rfl (gH (d5 (i:=1) nd) (gH (d5 (i:=2) nd) lQ))))
   (aO (bF (i:=3) nd (bO (zeH Y) Y.x36 hr (aC (iE (kQ rfl) (by rfl) Y.list_ j5 (aC (v 1) aF)) (aC (iE (kQ rfl) (by rfl) Y.list_ j5 (aC (v 2) aF)) aF))))
   (aO (dB (b8 rR (bO (LK Y) Y.x28 hr (aC (iE (kQ rfl) (by rfl) Y.list_ j5 (aC (v 1) aF)) (aC (iE (kQ rfl) (by rfl) Y.list_ j5 (aC (v 2) aF)) aF))) mK)
    (aS (bT (v_and (tU rR (v 3) mK) (S5 (tU (iF hr.units) (aX hu (v 3) aK) aK)))))
    e7)
   (aO (dB (PW.pt (vO (b8 rR (v 3) mK) (vM (b8 nM (aX hu (v 3) aK) aK))))
    (aS (bT kJ))
    e7)
   (aO (fN Bs rfl (eW (gJ (aC aK (aC aK (aC aK (aC aK aF)))))) (d5 (i:=4) nd)
    (aO (bF (i:=5) nd (c7 (bO (zeO Y) Y.x45 hr (aC (v 2) (aC (i6 (v 0) (g7 (v 4)) (g7 (a9 dJ (v 4) aK))) aF)))))
   (aO (JC (i:=6) nd ["step"] [none] (eW (v 5)) (fun B=>(gP (i:=0))) (fun B=>(mO (b8 (mM hr.units) (aX hu (v 0) aK) cG))) (fun B=>(aX hu (v 0) (a9 nL (dZ d7 (by rfl) Y.len_ d9 (aC (v 0) aF)) aK))))
   (aO (dB (PW.pt (vP (EK (vK (bO (zeJ Y) Y.x38 hr (aC (iE (kQ rfl) (by rfl) Y.list_ j5 (aC (v 2) aF)) (aC (iE (kQ rfl) (by rfl) Y.list_ j5 (aC (v 5) aF)) aF))))) (vN (b8 (mM hr.units) (c7 (bO (zeI Y) Y.x37 hr (aC (iE (kQ rfl) (by rfl) Y.list_ j5 (aC (v 5) aF)) aF))) (v 6)))))
    (aS (bT kJ))
    e7)
   (aO (bF (i:=7) nd (dZ d7 (by rfl) Y.len_ d9 (aC (c7 (iR ["step"] [none] (eW (v 5)) (fun B=>(gP (i:=0))) (fun B=>(mO (b8 (mM hr.units) (aX hu (v 0) aK) cG))) (fun B=>(v 0)))) aF)))
   (aS (dB (PW.pt (vO (b8 rR (bO (LK Y) Y.x28 hr (aC (iE (kQ rfl) (by rfl) Y.list_ j5 (aC (v 1) aF)) (aC (v 6) aF))) mK) (vM (PW.pt (vP (b8 TJ (v 3) mK) (vN (b8 EU (aX hu (v 3) aK) (v 7))))))))
    (aS (bT kJ))
    e7)))))))
   (aS (bT kJ)))))))
end
end M47
namespace M47
open PySem PySem.Spec PyProof.Rows L2 L3 Rg
section
variable {w:Cm}{h:Heap}{mg:Str->Option Ae}
theorem mn{x:Str}(X:(hpK w.params).In h)(G:h.Ns De mg)(e:PySem.W.nsIn (hpK w.params) De x=some none:=by kernel_rfl):mg x=none:=PySem.W.mg_none_of X G e
theorem zeQ(X:(hpK w.params).In h)(G:h.Ns De mg):Tx mg:=⟨⟨533,Iu (v:=.str "" 533) X G (by kernel_rfl)⟩,mn X G,mn X G,mn X G,mn X G,mn X G,mn X G,mn X G,mn X G⟩
theorem zeR(X:(hpK w.params).In h)(G:h.Ns De mg):Kc (hpK w.params) mg ⟨95,151,0,209,0,181,188,284,280⟩:=⟨⟨by kernel_rfl,by kernel_rfl,by kernel_rfl,by kernel_rfl⟩,Iu (v:=.ref 95) X G (by kernel_rfl),⟨by kernel_rfl,by kernel_rfl,by kernel_rfl,by kernel_rfl⟩,Iu (v:=.ref 151) X G (by kernel_rfl),(show Cf (hpK w.params) (.ref 95) "costs" = some none by kernel_rfl),(show Cf (hpK w.params) (.ref 95) "waiting" = some none by kernel_rfl),(show Cf (hpK w.params) (.ref 151) "grammar" = some none by kernel_rfl),(show Cf (hpK w.params) (.ref 151) "own" = some none by kernel_rfl),(show Cf (hpK w.params) (.ref 151) "steps" = some none by kernel_rfl),(show Cf (hpK w.params) (.ref 151) "queue" = some none by kernel_rfl),(show Cf (hpK w.params) (.ref 151) "reached" = some none by kernel_rfl),(show Cf (hpK w.params) (.ref 151) "best" = some none by kernel_rfl),(show Cf (hpK w.params) (.ref 151) "ends" = some none by kernel_rfl),(show Cf (hpK w.params) (.ref 151) "begun" = some none by kernel_rfl)⟩
def zeS(i:Nat):Addr:=([21,28,33,40,45,50,64,71,85,78,92,106,120,127,148,141,134,162,167,188,181,174,195,202,209,216,221,228,235,242,247,254,259,266,271,278,285,290,295,302,309,316,321,328,335,340,345]:List Addr).getD i 0
noncomputable def zeT(i:Nat):Bi:=[A9,BA,BB,BC,BD,BE,BF,BG,BI,BH,BJ,BK,BL,BM,BP,BO,BN,BQ,BR,BV,BU,BS,BW,BX,BY,BZ,B2,B3,B4,B5,B6,B7,B8,B9,CA,CB,CC,CD,CF,CG,CH,CI,CJ,CK,CL,CM,qN].getD i qN
theorem zeU(X:(hpK w.params).In h)(G:h.Ns De mg):Al (hpK w.params) mg ⟨95,151,0,209,0,181,188,284,280⟩ zeS zeT:=⟨zeQ X G,zeR X G,dF X G,dF X G,dF X G,dF X G,dF X G,dF X G,dI,dM,dM,dM,dM,dF X G,dI,dM,dM,dM,dM,dF X G,dF X G,dF X G,dF X G,dF X G,dF X G,dF X G,dF X G,dF X G,dF X G,dF X G,dF X G,dF X G,dF X G,dF X G,dF X G,dF X G,dF X G,dF X G,dF X G,dF X G,dF X G,dF X G,dF X G,dF X G,dF X G,dF X G,dF X G,dF X G,dF X G,rfl,rfl,rfl,rfl,⟨4,⟨.type "module",some Lo,.plain,#[]⟩,Iu (v:=.ref 4) X G (by kernel_rfl),by decide,by decide,by kernel_rfl,rfl,rfl,rfl⟩,by kernel_rfl⟩
end
theorem all_mk{l:PySem.W.OpenLaw}{w:Cm}{h:Heap}{mg:Str->Option Ae}{fa:Addr}(X:(hpK w.params).In h)(G:h.Ns De mg)(hfa:mg "law" = some (.ref fa)) :
  ∃ fd:Bi,(∀ (s:Ag) (v:Ae),BindsTo s fd ⟨[v],[]⟩ [("script",v)])/\∀ base:Heap,(hpK w.params).In base->base.Ns De mg->eV l.prog w (hpK w.params) mg base e9 9 fa fd ["script"] (fV (hpK w.params) (qG 280 nB iJ.qual)):=by
 have e:=hfa.symm.trans (Iu (v:=.ref 345) X G (by kernel_rfl))
 cases e
 exact⟨qN,fun s v=>.of_eq rfl,fun base _ _=>zeP (zeU X G)⟩
theorem walk{l:PySem.W.OpenLaw}{q:Bu}{loose:List Str}{XP:(Str->Option Ae)->Heap->Prop}{YP:Cm->Heap->Prop}{d:DefRec}(hn:l.most=some 63)(hdf:d.params.defaults=[])
  (hY:∀ (w:Cm) (h:Heap),YP w h->(hpK w.params).In h/\h.get? 280=some (Fh #[]))
  (F:∀ (w:Cm) (mg:Str->Option Ae) (fa:Addr) (h:Heap),(hpK w.params).In h->h.Ns De mg->mg d.name=some (.ref fa)->
   ∃ fd:Bi,(∀ (s:Ag) (u:Ae),BindsTo s fd ⟨[u],[]⟩ [("script",u)])/\∀ base:Heap,(hpK w.params).In base->base.Ns De mg->eV l.prog w (hpK w.params) mg base e9 9 fa fd ["script"] (fV (hpK w.params) (qG 280 nB iJ.qual))) :
  PySem.W.WalkO q loose XP YP l.row.toRowW d [] (fun f vs=>PySem.call f vs):=
 L2.zbp (n:=63) (k:=9) (x:="script") (c:=284) (P:=280) (lp:=nB) (sp:=fun w=>fV (hpK w.params) (qG 280 nB iJ.qual)) hn (by decide) hdf ⟨rfl,by decide,by decide⟩ hY (fun _=>by kernel_rfl) (fun _=>by kernel_rfl) F (fun _ _ a ns hl ho hS=>zbq hl ho hS)
end M47
open PySem PySem.W PyProof.Rows
set_option maxRecDepth 100000 in
set_option maxHeartbeats 0 in
theorem PySem.Challenge.cw_readgrove_k48_whole_no_fewer_mends_holds : PySem.Challenge.rw_readgrove_k48_whole_no_fewer_mends.Holds := by
 w_on; refine PySem.W.holds_law M47.hws fun said => ?_
 refine PySem.W.holds_open (r := PySem.Challenge.rw_readgrove_k48_whole_no_fewer_mends.row) (q := M47.qv) (loose := []) (N := 3984)
  (Xt := fun s => xlAt M47.qv [] s && recOk (RowW.records (OpenRow.toRowW PySem.Challenge.rw_readgrove_k48_whole_no_fewer_mends.row)) s)
  (XP := XL M47.qv []) (Yf := M47.hk.obs) (Ya := M47.hk.val) (YP := M47.hk.says) ?hl M47.hk.of M47.hk.keeps
  (fun s e => xl_of s (Bool.and_eq_true_iff.mp e).1) XL.keeps (by rfl) (by rfl) (by rfl) (fun s e => recFacts_of (Bool.and_eq_true_iff.mp e).2)
  (by rfl) (by assumption) (by decide +kernel) ⟨rfl, rfl, rfl, rfl, rfl, by decide +kernel⟩ ?hw ?hc
 case hw => w_witness2
 case hc => exact M47.walk (l := PySem.Challenge.rw_readgrove_k48_whole_no_fewer_mends) rfl rfl (fun w h Y => ⟨PySem.W.km_in_of Y, PySem.W.km_tabs_of Y 280 (Bb ..)⟩) (fun w mg fa h KX G hmg => M47.all_mk KX G hmg)
 case hl => exact M47.hlx
