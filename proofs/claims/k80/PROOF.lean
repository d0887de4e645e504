import PyProof.Rows.All
import Wide.All
import OpenK.AllK
import Wide.FinOn
import Lean
import PyProof.EqAt
import PyProof.EqKinds
import PyProof.TupleCall
import PyProof.NeKinds
import PyProof.ListRange
import PyProof.Draws
import PyProof.Rows.SortStr
import KE.KDictSum
import KE.KEqDict
import KE.KDictOf
import KE.KRevSl
import PyProof.StrWalks
import PyProof.StrBlock2
import PyProof.SetKind
import PyProof.SetRoads
import PyProof.Rows.SetFrom
import PyProof.ReprRoads
import PyProof.ReprLen
import PyProof.NsDelKeeps
import PyProof.ListMulRoad
import PyProof.FactsAll.tuple_2
import KE.KLam
import KE.KNestM
import PyProof.AttrMissHeap
import PyProof.Rows.SortShell
import PySem.Challenge.RW_figurejudge_k80_whole_rows_from_above
set_option Elab.async false
set_option linter.all false
set_option maxRecDepth 100000
set_option maxHeartbeats 4000000
open PySem renaming wpAny_bind → AA, wpAny_pure → AG, Shared → AH, mainGlobals → AX, Program → Af, rawInt → Ap, FuncData → Ay, Around → A0, mem_of_lookup → A9, wpAny_holding → BE, wpAny_callSpecial?_slot → BF, wpAny_newObj_type → BJ, wpAny_call_entry → BK, starEach → BO, wpAny_setState_of → BS, Paired → BV, wpAny_setField_rec → Bi, bootBuiltins → Bj, compareOp → Bl, codeAny_builtin → Bx, wpAny_field → B2, wpAny_mono → CC, wpAny_setEntries_of → CM, plainId_quiet → CO, sysModules → CS, wpAny_Call_Name_kw → CT, wpAny_seqItems → Cb, sizeLine_eq → Cg, wpAny_ite_split → Ci, wpAny_typeOf → Cm, wpAny_truthy_bool → Cr, wpAny_rule → Cw, NameKind → Cz, pyNext → C1, wpAny_attempt → C5, pickOrder → C8, wpAny_pyIter_tuple → C9, builtinLookup_eq_fast → DH, wpAny_passesOwn → DJ, binaryOp → DL
open PySem renaming IsPair → DZ, codeAny_mono → Dd, tupleKind_room_in1 → Df, wpAny_specialOf → Dk, wpAny_updateSeq → Dm, Arguments → Dn, wpAny_pyIter_list → Dv, wpAny_fieldsOf → D4, wpAny_forIn_list → D_, wpAny_isInstance → D', codeAmong → EB, backTo → EH, getItem → EV, typeLookup_type → EW, assignEach → Ea, sliceBounds → Eh, codeAny → Em, wpAny_pyIter_enum → Eu, wpAny_storeSet_of → Ex, fits_of_scanBound → Ey, setNext → Ez, ofAClassStatement → E8, tupleKind → FG, wpAny_execs_cons → FH, call_meets → FI, seqItems? → FK, wpAny_askSetting → FL, codeAny_extend_loopS → FX, wpAny_execs_nil → Fc, letOwnedTupleGo → Fd, scanBound → Fs, GenState → Fv, wpAny_Name → Fw, wpAny_load → Fy, wpAny_newFunctionEnv_cells → GA, wpAny_letOwnedTupleGo_enum → GG, isSubtype_type → GI, firstArgMember → GJ, wpAny_runValue → GL, foldedSetIterable → GZ
open PySem renaming wpAny_sequenceKey → Ga, hashByValue → Gf, wpAny_pyIter_slot → Gh, wpAny_setEpoch_of → Gi, wpAny_standAt → Gp, wpAny_getItem_list_slice → Gr, attributeBase → Gs, wpAny_comprehension_free → Gu, wpAny_newList → Gw, bindArgs → G4, noFill_tuple_add → G6, putSet_of → G8, builtinsNs → HH, IsPart → HJ, typeLookup → HL, setAddHashed → HR, codeAny_of_tree → Hi, subscripted → Hy, Params → Hz, newFunctionEnv → IA, setAddHashedIn → IE, unsupported → IG, wpAny_newTuple → IH, swapsWith → IP, InCallC → IQ, callerA → IS, valueAt → IT, updateSeq → IU, eqIsQuiet → IV, seq_tuple_add → Ig, wpAny_onRaise → Il, pyIter → Iu, wpAny_call → Iv, merged → I0, closureFor → I_, strKind_is → JA, BindsTo → JG, Keyword → JH, storeSet → JK, ZipApart → JO
open PySem renaming Result → JS, call → Jd
open List renaming length_map → AB, getElem?_eq_some_iff → AF, mem_of_getElem? → AI, getElem?_map → AJ, mem_cons_of_mem → AM, mem_cons_self → AQ, length_append → AR, mem_cons → AV, map_append → AW, size_toArray → AY, mem_singleton → Ad, getElem?_append_right → Ag, length_cons → Aj, getElem?_of_mem → Ak, getElem?_eq_getElem → Al, getElem?_append_left → Am, range → Ao, mem_map → As, map_cons → Aw, length_take → Az, length_range → A2, mem_range → A4, mem_append → A6, forall_mem_cons → A8, getD_eq_getElem?_getD → BB, getElem?_eq_none → BC, take_of_length_le → BD, take_length → BQ, mem_append_right → BR, append_nil → Bg, Nodup → Bs, getElem?_toArray → Bu, length_reverse → Bw, getElem?_cons_succ → B0, nodup_cons → B4, length_nil → B5, map_map → B', length_drop → CG, not_mem_nil → CU, mem_of_mem_take → CY
open List renaming ext_getElem? → Cc, getElem?_range → Ce, getElem_mem → Cj, mem_append_left → Cq, nodup_append → Cs, of_mem_zip → Cv, replicate → C', take_add_one → DM, append_assoc → DN, lookup_cons → DW, length_pos_of_mem → Dg, find?_cons → Dj, forIn_cons → Dl, length_singleton → Dq, reverse_cons → Dy, mem_erase_of_ne → D5, nodup_iff_pairwise_ne → D7, getElem_inj → D9, nodup_range → EC, filterMap_cons → EG, getElem?_take_of_lt → EN, all_cons → ER, any_cons → ES, length_erase_of_mem → ET, mem_filter → EU, range_succ → EX, sum_append → EZ, lookup_append → Eb, length_eq_zero_iff → Ek, flatMap_cons → E9, eraseIdxIfInBounds_toArray → E_, eraseIdx_eq_take_drop_succ → FA, length_replicate → FC, getElem?_reverse → FD, take_append_drop → FE, all_eq_true → FJ, mem_reverse → FO, mem_flatMap → FP, map_drop → FV, getElem_toArray → FY
open List renaming mem_of_mem_drop → Fb, map_congr_left → Fm, mem_filterMap → Fz, filterMap_map → GC, length_eraseIdx_of_lt → GN, forIn_nil → GO, getElem?_drop → GP, drop_eq_getElem_cons → GU, extract_eq_take_drop → GW, pairwise_map → Gn, sum_cons → G3, getElem?_replicate → G5, perm_middle → G_, map_reverse → HB, map → HF, getElem?_set_self → HI, map_nil → HK, range_succ_eq_map → HN, sum_replicate_nat → HW, zipWith → HX, length_filter_le → Ht, getElem?_set_ne → Hw, pairwise_append → IL, drop_zero → IM, length_flatMap → Ia, flatMap_append → Ib, take_succ_cons → Ic, map_take → Im, length → JV
open PySem.W renaming Frag → AD, keepIn → AL, nsIn → AS, fnOf → Aa, codeIn → Ab, mg_of → Ah, mg_none_of → BH, find_K → Bc, tabObj → B1, kia_one → CF, codeHdIn → CV, codeHd_of_K → Cf, envX → Co, kitOne → Dz, cellsFrom_some → Eo, kla_fn → E1, CodeHd → E3, methodObj → GX, hashW → G0, instObj → HY, KeysLit → HZ, kla_obj → Hj, OpenLaw → Hk, hideAll_size → Hu, hideAll_none → Hv, lookIn → Hx, kla_callFunE → II, kla_codeExpr → IJ, hideAll_get → IX, of_hideAll → Ir, callWith_K → Iw, codeRec_of → Iy, kitx_list → JE, kitx_dict → JF, plainGet → JR, kat_cons → JU
open PySem.Heap renaming get?_push_of_some → AE, get?_push_size → AO, lt_size → AU, size_push → Ax, get?_update_self → Bk, get?_update_other → CI, SameBut → Ck, ExtBut → Ej
open Nat renaming le_refl → AK, lt_of_lt_of_le → AZ, ne_of_lt → Ac, le_trans → A1, zero_le → BI, pow_le_pow_right → BP, lt_of_le_of_lt → BX, lt_irrefl → Bm, lt_succ_of_lt → Bp, lt_succ_self → B7, le_succ → B8, sub_self → B_, ne_of_gt → CQ, le_of_lt → CZ, pow_succ → Cp, mod_lt → DQ, zero_add → Dh, pow_le_pow_left → EJ, div_lt_self → EY, lt_trans → Es, add_zero → E5, mul_le_mul_right → FZ, lt_trichotomy → Gj, min_eq_left → Hm, not_le → JC, not_lt → JD, le_of_eq → JN, add_comm → JP
open Option.some renaming inj → AN, injEq → Ew
open Int renaming toNat_natCast → Ae, emod_nonneg → Cy, emod_lt_of_pos → DF, natCast_ediv → ED, natCast_mul → Fj, toNat_of_nonneg → Fn, toNat → Ft, fdiv_eq_ediv_of_nonneg → F_, natCast_emod → HG
open Or renaming inl → Ai, inr → DD
open Bool renaming false_ne_true → An, false_eq_true → A', and_eq_true → Bz, not_true → C6, and_false → DC, eq_iff_iff → Di, and_true → Gv
open PySem.Paired renaming length → Aq
open Array renaming length_toList → Au, getElem?_eq_getElem → Av, getElem?_toList → A_, getD_eq_getD_getElem? → Bt, getElem?_eq_none → C3, forIn_toList → Ec, toList_inj → FN, perm_iff_toList_perm → GQ, toList_push → Ge, replicate → Hl, size_eq_one_iff → Hq, toList_extract → IK
open PySem.F renaming plainAttrs_list → A3, called_set → BN, slot_list_append → Ba, type_list_append → Bb, slot_tuple_iterator_next → DE, slot_dict_get → DG, slot_list_extend → DT, type_list_extend → DU, plain_list_iadd → DY, slot_set_iter → Dr, slot_zip_next → Du, slot_tuple_getattribute → EF, args_tuple_add_2 → EO, entry_tuple_add → Eg, args_dict_get_3 → Ei, slot_tuple_add → Ep, entry_dict_get → Et, args_tuple_iterator_next_1 → Fh, entry_tuple_iterator_next → Fp, plain_proto_collect → Fq, sub_list_frozenset → GK, slot_dict_getitem → GS, plain_extend_loop → GV, plainAttrs_dict → G7, entry_type_call → G9, args_set_iter_1 → G', args_zip_next_1 → HD, slot_tuple_hash → HE, typeCall_set_1 → HS, entry_set_init → HU, entry_zip_next → HV, type_dict_get → Hn, plain_set_new → Ho, slot_list_pop → Hr, type_list_pop → Hs, sub_list_set → IF
open PySem.Value renaming ref → A5, none → CB, type → DO, int → Ef, str → FF, bool → Fu, isStrOf_shape → IW, isStrOf → Ie
open PySem.PassesOwn renaming never → A7
open PySem.SetTable renaming runEnd → BA, below → BL, grown → Bh, bits → Bn, leap → C7, turns → D6, sizeAbove → Ee, insertAt → E4, layClean → Gm, laid → Gx, relaid → Hh, sameMemory → IZ, fits → Ik
open PyProof.Rows.F renaming plain_set_update_loop → BG, entry_set_update_loop → CL
open PyProof.Rows renaming slot_tuple_getitem → BM, wpS_bind → BU, callWith_type1 → Bd, wpS_pure → CK, mirror_perm → CW, IntsAre → C2, SortSt → DS, StrsAre → DV, seqObj → DX, wpS_reverse → D8, envOfC → EK, wpS_forRange → E7, subscriptTail → FQ, envOfC → Fe, entry_tuple_getitem → Fl, slicePart_none → GB, args_tuple_getitem → GD, AllBare → GY, Subscript_ → HM, sortedHeap → HQ, entry_list_sort → Hg, slot_list_sort → IB, args_list_sort → IC, sortedHeap_old → ID, tupleItemsOf_ → Ih, sortedHeap_at → Ij, listUpdate_at → Io, sortedS → JJ, SortKind → JQ
open Classical renaming byContradiction → BW, propDecidable → Cu
open List.Nodup renaming length_le_of_subset → BY
open PySem.NameKind renaming free → BZ, cell → FR
open PySem.Builtin.List renaming listExtendWith → Be, listSameRef → CN, listTooLong → Cn, listLengthHint → Dx, listItems → HP
open PySem.Around renaming under_plainId → Bf, in1_units → Dc, frames_deeper → FW, under_plain → JB
open PySem.Builtin.Slice renaming slicePlaces → Bo, sliceAdjust → CJ, sliceApplied → DA, sliceFields → GR
open PySem.Builtin.Tuple renaming tupleExact → Bq, tupleItemsOf → DB, tupleHashOf → DI
open PySem.Obj renaming mapSeq → Br, putSet → DP
open Sum renaming inr → Bv, inl → DK
open True renaming intro → By
open PySem.Builtin.SmallTypes renaming nextOf → B3, ownedTupleIsFree → CP, ownedTupleHandOut → EI
open ForInStep renaming yield → B6, done → E6
open False renaming elim → B9
open Option renaming bind_eq_some_iff → CA, map_eq_some_iff → Ca, isSome_iff_exists → EM, map_some → Fg, isSome_map → Gb, none → H_, bind_eq_bind → IY, some → JY, getD → JZ
open PySem.SeqAt renaming EqAt → CD, RcAt → Je
open PySem.Str renaming ofString → CH
open PySem.Heap.SameBut renaming update → Cd
open PySem.SetTable.below renaming go → Ct
open Ne renaming symm → C0
open PySem.SetTable.layClean renaming free → C4
open PySem.Calls renaming spliced_cons → C_, callWith_builtin → De, evalArgs_plain → D1, call_function_entry → EE, spliced_nil → El, Name_function_global → Fx
open Nat.succ renaming inj → EA
open PySem.BindsTo renaming of_defaults → EL
open Prod.mk renaming injEq → FT
open PySem.Shared renaming TypeIs → FU, heap → JX
open PySem.SeqAt.EqAt renaming same → Ff, of_refs → GH, int_str → Ip, str_int → Iq, int_int → Iz
open PySem.Builtin.Frozenset renaming updateFrom → Fi, addrOf → Gy, sizeOf → Gz, slot0 → HA
open PySem.Heap.IsSliceOf renaming new → GF
open PySem.SeqAt.RcAt renaming tuples → Gd
open PySem.Moved renaming trans → Gg, eq_with → Ii
open PySem.SetTable.probe renaming go → Gk
open PySem.AutoSeq1 renaming sub_tuple_tuple → Gq
open PySem.Builtin.Dict renaming updateFrom → HC
open List.Pairwise renaming nil → JI
open String renaming splitOnAux → JL
open PySem.pickOrder renaming go → JM
open PyProof.Rows.IsTup renaming new → JT
open PySem.ItemsOf renaming nil → JW
open PySem.Heap.DictOf renaming new → Ja
open List.cons renaming injEq → Jb
open Array.Perm renaming refl → Jc
open PySem.Walks renaming list → Jf
namespace L2
open PySem PySem.Spec PyProof.Rows
abbrev Key:=Sum Int Str
def oa:Key->Value->Bool
 | .inl k,v=>Value.isInt k v
 | .inr x,v=>Ie x v
def aeQ(w:World):Key->Int
 | .inl k=>hashInt k
 | .inr x=>hashStr w x
theorem cC:∀{k:Key} {v:Value},oa k v=true->(∃i t,k=DK i/\v=Ef i t)∨(∃x t,k=Bv x/\v=FF x t)
 | .inl i,v,h=>by
  obtain⟨t,e⟩:=Value.isInt_shape (k:=i) (v:=v) h
  exact .inl ⟨i,t,rfl,e⟩
 | .inr x,v,h=>by
  obtain⟨t,e⟩:=IW (x:=x) (v:=v) h
  exact .inr ⟨x,t,rfl,e⟩
theorem OY(i:Int)(t:Tok):oa (.inl i) (.int i t)=true:=by simp[oa,Value.isInt]
theorem OZ(x:Str)(t:Tok):oa (.inr x) (.str x t)=true:=by simp[oa,Ie]
theorem Xf(a b:Int):decide ((DK a:Key)=DK b)=(a == b):=by
 by_cases e:a=b
 ·subst e;simp
 ·have h:¬(DK a:Key)=DK b:=λq=>e (Sum.inl.inj q)
  rw[decide_eq_false h]
  exact(beq_eq_false_iff_ne.mpr e).symm
theorem Xg(a b:Str):decide ((Bv a:Key)=Bv b)=decide (a=b):=by
 by_cases e:a=b
 ·subst e;simp
 ·have h:¬(Bv a:Key)=Bv b:=λq=>e (Sum.inr.inj q)
  rw[decide_eq_false h,decide_eq_false e]
theorem Xh(a:Int)(b:Str):decide ((DK a:Key)=Bv b)=false:=decide_eq_false (λq=>nomatch q)
theorem Xi(a:Str)(b:Int):decide ((Bv a:Key)=DK b)=false:=decide_eq_false (λq=>nomatch q)
def bb(prog:Af)(w:World):PySem.KeyKind prog w Key where
 is:=oa
 hash:=aeQ w
 inj:=λv a b ha hb=>by
  rcases cC ha with⟨i,t,rfl,rfl⟩ | ⟨x,t,rfl,rfl⟩
  ·rcases cC hb with⟨j,u,rfl,e⟩ | ⟨y,u,rfl,e⟩
   ·injection e with e1 _;rw[e1]
   ·exact nomatch e
  ·rcases cC hb with⟨j,u,rfl,e⟩ | ⟨y,u,rfl,e⟩
   ·exact nomatch e
   ·injection e with e1 _;rw[e1]
 byValue:=λk v h=>by
  rcases cC h with⟨i,t,rfl,rfl⟩ | ⟨x,t,rfl,rfl⟩<;>rfl
 pyHash:=λhv h=>by
  rcases cC hv with⟨i,t,rfl,rfl⟩ | ⟨x,t,rfl,rfl⟩
  ·exact wpAny_pyHash_int h
  ·exact wpAny_pyHash_str h
 eqBool:=λhu hv h=>by
  rcases cC hu with⟨i,t,rfl,rfl⟩ | ⟨x,t,rfl,rfl⟩
  ·rcases cC hv with⟨j,u,rfl,rfl⟩ | ⟨y,u,rfl,rfl⟩
   ·rw[Xf] at h;exact wpAny_eqBool_int h
   ·rw[Xh] at h;exact Ip i t y u _ _ _ _ h
  ·rcases cC hv with⟨j,u,rfl,rfl⟩ | ⟨y,u,rfl,rfl⟩
   ·rw[Xi] at h;exact Iq x t j u _ _ _ _ h
   ·rw[Xg] at h;exact wpAny_eqBool_str h
 «strs» :=λk x t v h=>by
  rcases cC h with⟨i,u,rfl,e⟩ | ⟨y,u,rfl,e⟩
  ·exact nomatch e
  ·injection e with e1 _
   subst e1
   cases v<;>rfl
theorem Nh(prog:Af)(w:World)(k:Key)(v:Value):(bb prog w).is k v=oa k v:=rfl
theorem Lp(prog:Af)(w:World)(i:Int)(t:Tok):(bb prog w).is (.inl i) (.int i t)=true:=OY i t
theorem Lq(prog:Af)(w:World)(x:Str)(t:Tok):(bb prog w).is (.inr x) (.str x t)=true:=OZ x t
inductive V where
 | non | bl (b:Bool) | int (i:Int) | str (x:Str) | kQ (b:Array UInt8) | flt (b:UInt64) | ref (a:Addr) | ty (n:String)
 deriving DecidableEq
def RelV:V->Value->Prop
 | .non,u=>u=CB
 | .bl b,u=>u=Fu b
 | .int i,u=>∃t,u=Ef i t
 | .str x,u=>∃t,u=FF x t
 | .kQ b,u=>∃t,u=Value.bytes b t
 | .flt b,u=>∃t,u=Value.float b t
 | .ref a,u=>u=A5 a
 | .ty n,u=>u=DO n
abbrev Vals:List V->List Value->Prop:=BV RelV
theorem Vals.length{xs:List V}{us:List Value}(r:Vals xs us):xs.length=us.length:=Aq r
theorem Vals.get:∀{xs:List V} {us:List Value} {i:Nat} {x:V},Vals xs us->xs[i]? =some x->∃u,us[i]? =some u/\RelV x u
 | _,_,_,_,.nil,e=>by simp at e
 | _,_,0,_,.cons r _,e=>by simp at e;subst e;exact⟨_,rfl,r⟩
 | _,_,i+1,x,.cons _ t,e=>by
  obtain⟨u,h1,h2⟩:=Vals.get (i:=i) (x:=x) t (by simpa using e)
  exact⟨u,by simpa using h1,h2⟩
theorem Vals.set{x:V}{u:Value}(r:RelV x u):∀{xs:List V} {us:List Value} (i:Nat),Vals xs us->Vals (xs.set i x) (us.set i u)
 | _,_,_,.nil=>.nil
 | _,_,0,.cons _ t=>.cons r t
 | _,_,i+1,.cons q t=>.cons q (Vals.set r i t)
theorem Vals.append:∀{xs ys:List V} {us ws:List Value},Vals xs us->Vals ys ws->Vals (xs++ys) (us++ws)
 | _,_,_,_,.nil,s=>s
 | _,_,_,_,.cons r t,s=>.cons r (Vals.append t s)
theorem Vals.take:∀{xs:List V} {us:List Value} (n:Nat),Vals xs us->Vals (xs.take n) (us.take n)
 | _,_,0,_=>.nil
 | _,_,_+1,.nil=>.nil
 | _,_,n+1,.cons r t=>.cons r (Vals.take n t)
theorem Vals.drop:∀{xs:List V} {us:List Value} (n:Nat),Vals xs us->Vals (xs.drop n) (us.drop n)
 | _,_,0,r=>r
 | _,_,_+1,.nil=>.nil
 | _,_,n+1,.cons _ t=>Vals.drop n t
def gT:Option V->Option Value->Prop
 | some v,some u=>RelV v u
 | none,none=>True
 | _,_=>False
def KV{κ:Type}:List (κ×V)->List (κ×Value)->Prop:=BV λ(p:κ×V) (q:κ×Value)=>p.1=q.1/\RelV p.2 q.2
def kV:Key->V
 | .inl i=>.int i
 | .inr x=>.str x
inductive HO where
 | lst (xs:List V)
 | tup (xs:List V)
 | dK (kvs:List (Key×V)) | dT (kvs:List (List Key×V))
 | set (S:Int->Bool) (n:Nat)
 | ins (C dx:Addr) (fs:List (Str×V))
 | own (x:Addr)
 | xd (fs:List (Str×V))
 | met (f x:Addr)
 | rng (lo hi:Int)
 | jR (o:Obj) (u:HO)
 | de (ps:Array Value)
 | ext (φ:Heap->Prop)
abbrev Hp:=Addr->Option HO
def upd(H:Hp)(a:Addr)(o:HO):Hp:=λb=>if b=a then some o else H b
theorem af{H:Hp}{a:Addr}{o:HO}:upd H a o a=some o:=by unfold upd;rw[if_pos rfl]
theorem aD{H:Hp}{a b:Addr}{o:HO}(h:b≠a):upd H a o b=H b:=by unfold upd;rw[if_neg h]
theorem iV{H:Hp}{a b:Addr}{o u:HO}(h:H a=some o)(h':H b=some u)(d:o≠u):a≠b:=by
 intro e;subst e;rw[h] at h';exact d (AN h')
theorem aC{H:Hp}{a b:Addr}{o:HO}(h:H a=some o)(h':H b=none):a≠b:=by
 intro e;subst e;rw[h] at h';cases h'
section
variable(P:Af)(w:World)
def bA(H:Hp)(h:Heap)(a:Addr):HO->Prop
 | .lst xs=>xs.length<=sizeLine/\∃(its:List Value) (n:Nat),Vals xs its/\h.get? a=some {cls:=.type "list",data:=.seq its.toArray n}
 | .tup xs=>(xs.length<=sizeLine/\∃o,h.get? a=some o/\o.dict=none)/\∃its:List Value,Vals xs its/\IsTup h a its.toArray
 | .dK kvs=>kvs.length<=sizeLine/\(a == CS)=false/\∃vs,KV kvs vs/\h.DictOf (bb P w) a vs
 | .dT kvs=>kvs.length<=sizeLine/\(a == CS)=false/\∃xs:List (List Key×Addr×Value),
   BV (λ(p:List Key×V) (q:List Key×Addr×Value)=>p.1=q.1/\H q.2.1=some (.tup (p.1.map kV))/\RelV p.2 q.2.2) kvs xs/\
   ∃o es ep,h.get? a=some o/\o.ExactDict/\o.data=.dict es ep/\es.toList=xs.map (entryOfKey (FG (bb P w)))/\(xs.map (·.1)).Nodup
 | .set S n=>h.SetOf (intKind P w) a S n
 | .ins C dx fs=>H dx=some (.own a)/\fs.length<=1000/\dx≠a/\h.get? a=some (HY C dx)/\
   ∃mA,h.Ns1 dx mA/\(∀f,gT (fs.lookup f) (mA f))/\PySem.Within mA (fs.map (·.1))
 | .own _=>∃o,h.get? a=some o
 | .xd fs=>∃mA,h.Ns1 a mA/\∀f,gT (fs.lookup f) (mA f)
 | .rng lo hi=>∃t u v,h.get? a=some {cls:=.type "range",data:=.fields #[.int lo t,.int hi u,.int 1 v]}
 | .jR o u=>h.get? a=some o/\bA H h a u
 | .de ps=>h.get? a=some {cls:=.none,data:=.fields ps}
 | .met f x=>h.get? a=some (GX (.ref f) (.ref x))
 | .ext φ=>φ h/\(∃o,h.get? a=some o)/\∀h1 h2:Heap,φ h1->(∀o,h1.get? a=some o->h2.get? a=some o)->φ h2
def df(H:Hp)(h:Heap):Prop:=∀a o,H a=some o->bA P w H h a o
end
section
variable{P:Af}{w:World}{H H':Hp}{h h':Heap}{a:Addr}{o:HO}
theorem bA.lt(x:bA P w H h a o):a<h.objs.size:=by
 cases o with
 | lst xs=>obtain⟨_,_,_,_,e⟩:=x;exact AU e
 | tup xs=>obtain⟨_,_,_,p⟩:=x;exact p.lt
 | dK kvs=>obtain⟨_,_,_,_,o,_,_,e,_⟩:=x;exact AU e
 | dT kvs=>obtain⟨_,_,_,_,o,_,_,e,_⟩:=x;exact AU e
 | set S n=>obtain⟨o,_,_,_,e,_⟩:=x;exact AU e
 | ins C dx fs=>obtain⟨_,_,_,e,_⟩:=x;exact AU e
 | own y=>obtain⟨_,e⟩:=x;exact AU e
 | xd fs=>obtain⟨_,⟨_,_,_,e,_⟩,_⟩:=x;exact AU e
 | rng lo hi=>obtain⟨_,_,_,e⟩:=x;exact AU e
 | jR ob u=>obtain⟨e,_⟩:=x;exact AU e
 | de ps=>exact AU (show h.get? a=some _ from x)
 | met f y=>exact AU (show h.get? a=some _ from x)
 | ext φ=>obtain⟨_,⟨_,e⟩,_⟩:=x;exact AU e
theorem Paired.og{α β:Type}{F G:α->β->Prop}:∀{l₁:List α} {l₂:List β},BV F l₁ l₂->(∀a b,F a b->G a b)->BV G l₁ l₂
 | _,_,.nil,_=>.nil
 | _,_,.cons r t,f=>.cons (f _ _ r) (Paired.og t f)
theorem bA.stay(x:bA P w H h a o)(k:∀b u,(b=a∨H b=some (.own a))->h.get? b=some u->h'.get? b=some u)
  (ho:∀b,H b=some (.own a)->H' b=some (.own a)) (ht:∀b xs,H b=some (.tup xs)->H' b=some (.tup xs)):bA P w H' h' a o:=by
 induction o with
 | lst xs=>obtain⟨z,its,n,r,e⟩:=x;exact⟨z,its,n,r,k _ _ (.inl rfl) e⟩
 | tup xs=>obtain⟨⟨z,o2,e2,d2⟩,its,r,ob,e,c⟩:=x;exact⟨⟨z,o2,k _ _ (.inl rfl) e2,d2⟩,its,r,ob,k _ _ (.inl rfl) e,c⟩
 | dK kvs=>obtain⟨z,y,vs,r,ob,es,ep,e,c⟩:=x;exact⟨z,y,vs,r,ob,es,ep,k _ _ (.inl rfl) e,c⟩
 | dT kvs=>
  obtain⟨z,y,xs,r,ob,es,ep,e,c⟩:=x
  exact⟨z,y,xs,Paired.og r λp q z=>⟨z.1,ht _ _ z.2.1,z.2.2⟩,ob,es,ep,k _ _ (.inl rfl) e,c⟩
 | set S n=>obtain⟨ob,es,ep,t,e,c⟩:=x;exact⟨ob,es,ep,t,k _ _ (.inl rfl) e,c⟩
 | ins C dx fs=>
  obtain⟨d,z,ne,e,mA,⟨od,es,ep,e2,c⟩,r⟩:=x
  exact⟨ho _ d,z,ne,k _ _ (.inl rfl) e,mA,⟨od,es,ep,k _ _ (.inr d) e2,c⟩,r⟩
 | own y=>obtain⟨ob,e⟩:=x;exact⟨ob,k _ _ (.inl rfl) e⟩
 | xd fs=>obtain⟨mA,⟨od,es,ep,e,c⟩,r⟩:=x;exact⟨mA,⟨od,es,ep,k _ _ (.inl rfl) e,c⟩,r⟩
 | rng lo hi=>obtain⟨t,u,v,e⟩:=x;exact⟨t,u,v,k _ _ (.inl rfl) e⟩
 | jR ob u ih=>obtain⟨e,q⟩:=x;exact⟨k _ _ (.inl rfl) e,ih q⟩
 | de ps=>
  have e:h.get? a=some {cls:=.none,data:=.fields ps}:=x
  show h'.get? a=some {cls:=.none,data:=.fields ps}
  exact k a _ (.inl rfl) e
 | met f y=>
  have e:h.get? a=some (GX (.ref f) (.ref y)):=x
  show h'.get? a=some (GX (.ref f) (.ref y))
  exact k a _ (.inl rfl) e
 | ext φ=>obtain⟨p,⟨o,e⟩,st⟩:=x;exact⟨st _ _ p λo q=>k _ _ (.inl rfl) q,⟨o,k _ _ (.inl rfl) e⟩,st⟩
theorem df.lt(x:df P w H h)(e:H a=some o):a<h.objs.size:=(x a o e).lt
theorem df.fresh(x:df P w H h)(e:h.objs.size<=a):H a=none:=by
 cases q:H a with
 | none=>rfl
 | some u=>exact absurd (AZ (x.lt q) e) (Bm _)
theorem df.kept(x:df P w H h)(k:∀b u,h.get? b=some u->h'.get? b=some u):df P w H h':=λa o e=>
 (x a o e).stay (λb u _ q=>k b u q) (λ_ q=>q) λ_ _ q=>q
theorem df.laid(x:df P w H h)(k:∀b u,h.get? b=some u->h'.get? b=some u)(hp:h.objs.size<=a)(new:bA P w (upd H a o) h' a o):df P w (upd H a o) h':=λb u e=>by
 have hn:=x.fresh hp
 by_cases hb:b=a
 ·subst hb;rw[af] at e;cases e;exact new
 ·rw[aD hb] at e
  exact(x b u e).stay (λc v _ q=>k c v q) (λc q=>by rw[aD (aC q hn)];exact q) λc xs q=>by rw[aD (aC q hn)];exact q
end
def Rd(H:Hp)(a:Addr)(u:HO):Prop:=H a=some u∨∃o,H a=some (.jR o u)
theorem Rd.ok{P:Af}{w:World}{H:Hp}{h:Heap}{a:Addr}{u:HO}(r:Rd H a u)(x:df P w H h):bA P w H h a u:=by
 rcases r with r | ⟨o,r⟩
 ·exact x a u r
 ·obtain⟨_,q⟩:=x a _ r
  exact q
def O_:Option HO->Prop
 | some (.lst _)=>True
 | some (.dK _)=>True
 | some (.dT _)=>True
 | some (.set _ _)=>True
 | some (.ins _ _ _)=>True
 | some (.ext _)=>True
 | _=>False
section
variable{P:Af}{w:World}{H:Hp}{h h':Heap}{x e:Addr}{o':HO}
theorem df.write(ok:df P w H h)(mu:O_ (H x))(he:e=x∨H e=some (.own x))(k:∀b u,b≠e->h.get? b=some u->h'.get? b=some u)(heo:∃u,h'.get? e=some u)
  (new:bA P w (upd H x o') h' x o'):df P w (upd H x o') h':=λb u q=>by
 have Xj:∀c y,H c=some (.own y)->c≠x:=λc y r z=>by subst z;rw[r] at mu;exact mu
 have aeR:∀c xs,H c=some (.tup xs)->c≠x:=λc xs r z=>by subst z;rw[r] at mu;exact mu
 by_cases hb:b=x
 ·subst hb;rw[af] at q;cases q;exact new
 ·rw[aD hb] at q
  by_cases hbe:b=e
  ·have q':H b=some (.own x):=by
    rcases he with z | z
    ·exact absurd (hbe.trans z) hb
    ·rw[hbe];exact z
   rw[q] at q';cases q'
   obtain⟨v,hv⟩:=heo
   exact⟨v,by rw[hbe];exact hv⟩
  ·refine(ok b u q).stay (λc v hc r=>k c v ?_ r) (λc r=>by rw[aD (Xj c b r)];exact r) λc xs r=>by rw[aD (aeR c xs r)];exact r
   rcases hc with rfl | hc
   ·exact hbe
   ·rintro rfl
    rcases he with z | z
    ·exact Xj c b hc z
    ·rw[hc] at z;cases z;exact hb rfl
end
structure Un (fs ex:List Addr)(H H':Hp)(h h':Heap):Prop where
 keep:∀b o,h.get? b=some o->H b=none->b ∉ fs->b ∉ ex->h'.get? b=some o
 slot:∀b o,h.get? b=some o->H b=none->b∈fs->b ∉ ex->∃sl,h'.get? b=some {o with slots:=sl}
 free:∀b o,h.get? b=some o->H b=none->b ∉ ex->H' b=none
 there:∀b o,h.get? b=some o->b ∉ ex->∃o',h'.get? b=some o'
 tups:∀b xs,H b=some (.tup xs)->H' b=some (.tup xs)
 kS:∀b o u,H b=some (.jR o u)->H' b=some (.jR o u)
 kT:∀b ps,H b=some (.de ps)->∃more,H' b=some (.de (ps++more))
section
variable{fs fs' ex ex':List Addr}{H H1 H2:Hp}{h h1 h2 h':Heap}{a x e:Addr}{o:HO}
theorem Un.any(u:Un fs ex H H1 h h1){b:Addr}{ob:Obj}(q:h.get? b=some ob)(n:H b=none)(hx:b ∉ ex):∃sl,h1.get? b=some {ob with slots:=sl}:=by
 by_cases hb:b∈fs
 ·exact u.slot b ob q n hb hx
 ·exact⟨ob.slots,u.keep b ob q n hb hx⟩
theorem Un.kept(k:∀b u,h.get? b=some u->h'.get? b=some u):Un fs ex H H h h':=
 ⟨λb ob q _ _ _=>k b ob q,λb ob q _ _ _=>⟨ob.slots,k b ob q⟩,λ_ _ _ n _=>n,λb ob q _=>⟨ob,k b ob q⟩,λ_ _ q=>q,λ_ _ _ q=>q,λ_ ps q=>⟨#[],by rw[q];simp⟩⟩
theorem Un.refl:Un fs ex H H h h:=Un.kept λ_ _ q=>q
theorem Un.laid(k:∀b u,h.get? b=some u->h'.get? b=some u)(hp:h.objs.size<=a)(hn:H a=none):Un fs ex H (upd H a o) h h' where
 keep:=λb u q _ _ _=>k b u q
 slot:=λb u q _ _ _=>⟨u.slots,k b u q⟩
 free:=λb u q n _=>by rw[aD (Ac (AZ (AU q) hp))];exact n
 there:=λb u q _=>⟨u,k b u q⟩
 tups:=λb xs q=>by rw[aD (aC q hn)];exact q
 kS:=λb u xs q=>by rw[aD (aC q hn)];exact q
 kT:=λb ps q=>⟨#[],by rw[aD (aC q hn),q];simp⟩
theorem Un.write(mu:O_ (H x))(he:e=x∨H e=some (.own x))(k:∀b u,b≠e->h.get? b=some u->h'.get? b=some u)(heo:∃u,h'.get? e=some u):Un fs ex H (upd H x o) h h':=by
 have hx:∀b,H b=none->b≠x:=λb n z=>by subst z;rw[n] at mu;exact mu
 have hb:∀b,H b=none->b≠e:=λb n z=>by
  subst z
  rcases he with r | r
  ·exact hx b n r
  ·rw[n] at r;cases r
 have hm:∀b u,H b=some u->¬O_ (some u)->b≠x:=λb u q nm z=>by subst z;rw[q] at mu;exact nm mu
 refine⟨λb u q n _ _=>k b u (hb b n) q,λb u q n _ _=>⟨u.slots,k b u (hb b n) q⟩,λb u q n _=>by rw[aD (hx b n)];exact n,λb u q _=>?_,
  λb xs q=>by rw[aD (hm b _ q λz=>z)];exact q,λb u xs q=>by rw[aD (hm b _ q λz=>z)];exact q,λb ps q=>⟨#[],by rw[aD (hm b _ q λz=>z),q];simp⟩⟩
 by_cases hbe:b=e
 ·subst hbe;exact heo
 ·exact⟨u,k b u hbe q⟩
end
def Ur(h:Heap)(H:Hp):List Addr:=(Ao h.objs.size).filter λa=>(H a).isSome
def kU(h:Heap)(H:Hp):Heap:=PySem.W.hideAll h (Ur h H)
theorem wO(h:Heap)(H:Hp):(kU h H).objs.size=h.objs.size:=Hu _ _
theorem zi{h:Heap}{H:Hp}{b:Addr}{o:Obj}(e:h.get? b=some o)(n:H b=none):(kU h H).get? b=some o:=
 IX _ e λhm=>by
  have q:(H b).isSome=true:=(EU.mp hm).2
  rw[n] at q;simp at q
theorem L4{h:Heap}{H:Hp}{b:Addr}{o:Obj}(e:(kU h H).get? b=some o):h.get? b=some o/\H b=none:=by
 have e':h.get? b=some o:=Ir (Ur h H) e
 refine⟨e',?_⟩
 cases q:H b with
 | none=>rfl
 | some x=>
  have hm:b∈Ur h H:=EU.mpr ⟨A4.mpr (AU e'),by simp[q]⟩
  have z:(kU h H).get? b=none:=Hv (Ur h H) hm
  rw[z] at e;cases e
structure Mod (K:AD)(mg:Str->Option Value)(base:Heap):Prop where
 qZ:K.In base
 glob:base.Ns AX mg
 blt:∃mb,base.Ns HH mb/\∀x:Str,x≠"__name__"->mb x=Bj x
 nolimit:base.NoLimit
structure Cx where
 prog:Af
 w:World
 K:AD
 mg:Str->Option Value
 base:Heap
 A:A0
 N:List Str
 s₀:AH
 H₀:Hp
 env:Env
 outer:List Env
 stack:List Env
 ex:List Addr
 fn:Str->Bool
 calm:Bool
 pn:List (Addr×Obj)
 xe:Value->AH->Prop
def frs(l:List Env):List Addr:=l.filterMap (·.frame)
abbrev Cx.fs (X:Cx):List Addr:=frs X.outer
def L5(sc:Scope)(x:Str):Prop:=sc.names.lookup x=some .local∨sc.names.lookup x=some .cell∨sc.names.lookup x=some .free
def Loc(sc:Scope)(x:Str):Prop:=sc.names.lookup x=some .local∨sc.names.lookup x=some .cell
def Look(env:Env)(h:Heap)(m:Str->Option Value)(x:Str)(u:Value):Prop:=
 (env.kindOf x=some .local/\m x=some u)∨((env.kindOf x=some .cell∨env.kindOf x=some .free)/\∃c,env.cells.lookup x=some c/\h.IsCell c (some u))
structure Cx.Ok (X:Cx):Prop where
 mod:Mod X.K X.mg X.base
 kind:X.env.scope.kind=.function
 glob:X.env.globals=AX
 blt:X.env.builtins=HH
 above:X.s₀.heap.objs.size<=X.env.locals
 inj:∀x y c,X.env.cells.lookup x=some c->X.env.cells.lookup y=some c->x=y
 has:∀x,(X.env.kindOf x=some .cell∨X.env.kindOf x=some .free)->∃c,X.env.cells.lookup x=some c
 cab:∀x c,X.fn x=true->X.env.cells.lookup x=some c->X.s₀.heap.objs.size<=c
 hd:X.calm=true->X.A.handled=none
 frames:X.A.frames=some X.stack
 stk:X.stack=X.outer∨(X.stack=X.env::X.outer/\X.env.frame=some X.env.locals)
 Xk:∀b∈X.ex,b≠X.env.locals/\∀x c,X.env.cells.lookup x=some c->c≠b
 bs:∀b o,X.base.get? b=some o->X.s₀.heap.get? b=some o/\X.H₀ b=none
 pT:X.base.objs.size<=X.s₀.heap.objs.size
 zj:∀b o,X.base.get? b=some o->b ∉ X.ex
 zk:∀b∈X.ex,b ∉ X.fs
 iW:X.s₀.heap.FunFrames X.base X.outer
 wQ:∀b∈X.fs,X.H₀ b=none
structure Inv (X:Cx)(pins:List (Addr×Obj))(σ:List (Option V))(H:Hp)(s:AH):Prop where
 ok:X.Ok
 os:s.os=X.s₀.os
 bare:GY s.gens
 base:Un X.fs X.ex X.H₀ H X.s₀.heap s.heap
 loc:∃m,s.heap.Ns X.env.locals m/\∀(i:Nat) (x:Str) (v:V),X.N[i]? =some x->σ[i]? =some (some v)->L5 X.env.scope x->∃u,RelV v u/\Look X.env s.heap m x u
 cell:∀x c,X.env.cells.lookup x=some c->∃v,s.heap.IsCell c v
 free:H X.env.locals=none
 gG:∀x c,X.env.cells.lookup x=some c->H c=none
 pin:∀p∈X.pn++pins,s.heap.get? p.1=some p.2/\H p.1=none/\p.1≠X.env.locals/\p.1 ∉ X.fs/\∀v,p.2.data≠.cell v
 hok:df X.prog X.w H s.heap
 len:σ.length=X.N.length
section
variable{X:Cx}{pins:List (Addr×Obj)}{σ:List (Option V)}{H H':Hp}{s:AH}{h':Heap}
theorem Cx.Ok.Xl(ok:X.Ok){b:Addr}{o:Obj}(e:X.base.get? b=some o):b ∉ X.fs:=λhb=>by
 have:=(ok.iW.mem hb).1
 rw[e] at this;cases this
theorem Inv.bs(I:Inv X pins σ H s):∀b o,X.base.get? b=some o->s.heap.get? b=some o/\H b=none:=λb o e=>
 ⟨I.base.keep b o (I.ok.bs b o e).1 (I.ok.bs b o e).2 (I.ok.Xl e) (I.ok.zj b o e),I.base.free b o (I.ok.bs b o e).1 (I.ok.bs b o e).2 (I.ok.zj b o e)⟩
theorem Inv.bk(I:Inv X pins σ H s):∀b o,X.base.get? b=some o->s.heap.get? b=some o:=λb o e=>(I.bs b o e).1
theorem Inv.mod(I:Inv X pins σ H s):Mod X.K X.mg X.base:=I.ok.mod
theorem Inv.gX(I:Inv X pins σ H s):X.K.In s.heap:=I.ok.mod.qZ.keeps I.bk
theorem Inv.lt(I:Inv X pins σ H s):X.env.locals<s.heap.objs.size:=let ⟨_,hn,_⟩:=I.loc;hn.lt
theorem Inv.sz(I:Inv X pins σ H s):X.s₀.heap.objs.size<=s.heap.objs.size:=A1 I.ok.above (CZ I.lt)
theorem Inv.aeS(I:Inv X pins σ H s){a:Addr}(h:s.heap.objs.size<=a):a ∉ X.fs:=λhb=>by
 obtain⟨_,o,ho,_⟩:=I.ok.iW.mem hb
 exact absurd (AZ (AU ho) (A1 I.sz h)) (Bm _)
theorem Inv.wR(I:Inv X pins σ H s):∀x c,X.env.cells.lookup x=some c->c≠X.env.locals:=λx c e z=>by
 obtain⟨v,o,ho,hd⟩:=I.cell x c e
 obtain⟨m,⟨o',es,ep,ho',hd',_⟩,_⟩:=I.loc
 rw[z,ho'] at ho;cases ho;rw[hd'] at hd;cases hd
theorem Inv.iW(I:Inv X pins σ H s):s.heap.FunFrames X.base X.outer:=by
 have all:∀(l:List Env),(∀b∈frs l,b∈X.fs)->X.s₀.heap.FunFrames X.base l->s.heap.FunFrames X.base l:=by
  intro l
  induction l with
  | nil=>intro _ _;trivial
  | cons env r ih=>
   intro hs hl
   obtain⟨hk,⟨L,o,hf,hn,ho,hd⟩,hr⟩:=hl
   have hL:L∈X.fs:=hs L (by unfold frs;rw[EG,hf];exact AQ)
   obtain⟨sl,e⟩:=I.base.slot L o ho (I.ok.wQ L hL) hL λz=>I.ok.zk L z hL
   exact⟨hk,⟨L,_,hf,hn,e,hd⟩,ih (λb hb=>hs b (by unfold frs;rw[EG,hf];exact AM _ hb)) hr⟩
 exact all X.outer (λ_ hb=>hb) I.ok.iW
theorem Inv.stack(I:Inv X pins σ H s):s.heap.FunFrames X.base X.stack:=by
 rcases I.ok.stk with e | ⟨e,hf⟩
 ·rw[e];exact I.iW
 ·rw[e]
  obtain⟨m,hn,_⟩:=I.loc
  refine .cons (by rw[I.ok.kind];decide) hf hn ?_ I.iW
  exact Heap.get?_none_of_le (A1 I.ok.pT I.ok.above)
theorem Inv.pU(I:Inv X pins σ H s):∀b∈frs X.stack,b∈X.env.locals::X.fs:=λb hb=>by
 rcases I.ok.stk with e | ⟨e,hf⟩
 ·rw[e] at hb;exact AM _ hb
 ·rw[e] at hb
  unfold frs at hb
  rw[EG,hf] at hb
  exact hb
theorem Inv.ni(I:Inv X pins σ H s):∀b∈frs X.stack,H b=none:=λb hb=>by
 rcases AV.mp (I.pU b hb) with e | hb
 ·rw[e];exact I.free
 ·obtain⟨_,o,ho,_⟩:=I.ok.iW.mem hb
  exact I.base.free b o ho (I.ok.wQ b hb) λz=>I.ok.zk b z hb
theorem Inv.step{g':Array Fv}{t':Nat}{d':Drawn}{ch:List Addr}(I:Inv X pins σ H s)
  (hch:∀b∈ch,(b∈X.ex∨X.s₀.heap.objs.size<=b)/\b≠X.env.locals/\(∀x c,X.env.cells.lookup x=some c->c≠b)/\∀p∈X.pn++pins,p.1≠b)
  (keep:∀b o,b≠X.env.locals->b ∉ X.fs->b ∉ ch->s.heap.get? b=some o->H b=none->h'.get? b=some o)
  (slot:∀b o,b≠X.env.locals->b∈X.fs->b ∉ ch->s.heap.get? b=some o->H b=none->∃sl,h'.get? b=some {o with slots:=sl}) (free:∀b o,b ∉ ch->s.heap.get? b=some o->H b=none->H' b=none)
  (there:∀b o,b ∉ ch->s.heap.get? b=some o->∃o',h'.get? b=some o')
  (tups:∀b xs,H b=some (.tup xs)->H' b=some (.tup xs)) (kS:∀b o u,H b=some (.jR o u)->H' b=some (.jR o u)) (kT:∀b ps,H b=some (.de ps)->∃more,H' b=some (.de (ps++more)))
  (ns:∀m,s.heap.Ns X.env.locals m->h'.Ns X.env.locals m) (hok:df X.prog X.w H' h') (hg:GY g'):
  Inv X pins σ H' {s with heap:=h',gens:=g',drawn:=d',toks:=t'}:=by
 have neL:∀b o,X.s₀.heap.get? b=some o->b≠X.env.locals:=λb o e=>Ac (AZ (AU e) I.ok.above)
 have Us:∀b o,X.s₀.heap.get? b=some o->b ∉ X.ex->b ∉ ch:=λb o e hx hb=>by
  rcases(hch b hb).1 with z | z
  ·exact hx z
  ·exact absurd (AZ (AU e) z) (Bm _)
 have cellK:∀x c,X.env.cells.lookup x=some c->∀v,s.heap.IsCell c v->h'.IsCell c v:=λx c e v ⟨o,ho,hd⟩=>by
  have pV:c ∉ ch:=λz=>(hch c z).2.2.1 x c e rfl
  by_cases hc:c∈X.fs
  ·obtain⟨sl,q⟩:=slot c o (I.wR x c e) hc pV ho (I.gG x c e)
   exact⟨_,q,hd⟩
  ·exact⟨o,keep c o (I.wR x c e) hc pV ho (I.gG x c e),hd⟩
 refine⟨I.ok,I.os,hg,⟨λb o e n hb hx=>?_,λb o e n hb hx=>?_,λb o e n hx=>?_,λb o e hx=>?_,λb xs e=>tups b xs (I.base.tups b xs e),λb o xs e=>kS b o xs (I.base.kS b o xs e),λb ps e=>?_⟩,?_,λx c e=>?_,?_,λx c e=>?_,λp hp=>?_,hok,I.len⟩
 ·exact keep b o (neL b o e) hb (Us b o e hx) (I.base.keep b o e n hb hx) (I.base.free b o e n hx)
 ·obtain⟨sl,e1⟩:=I.base.slot b o e n hb hx
  obtain⟨sl',e2⟩:=slot b _ (neL b o e) hb (Us b o e hx) e1 (I.base.free b o e n hx)
  exact⟨sl',e2⟩
 ·obtain⟨o',e1⟩:=I.base.there b o e hx
  exact free b o' (Us b o e hx) e1 (I.base.free b o e n hx)
 ·obtain⟨o',e1⟩:=I.base.there b o e hx
  exact there b o' (Us b o e hx) e1
 ·obtain⟨m1,e1⟩:=I.base.kT b ps e
  obtain⟨m2,e2⟩:=kT b _ e1
  exact⟨m1++m2,by rw[e2,Array.append_assoc]⟩
 ·obtain⟨m,hn,hl⟩:=I.loc
  refine⟨m,ns m hn,λi x v e1 e2 e3=>?_⟩
  obtain⟨u,r,l⟩:=hl i x v e1 e2 e3
  refine⟨u,r,?_⟩
  rcases l with l | ⟨k,c,e,z⟩
  ·exact .inl l
  ·exact .inr ⟨k,c,e,cellK x c e _ z⟩
 ·obtain⟨v,z⟩:=I.cell x c e
  exact⟨v,cellK x c e v z⟩
 ·obtain⟨m,⟨o,_,_,ho,_⟩,_⟩:=I.loc
  exact free _ o (λz=>(hch _ z).2.1 rfl) ho I.free
 ·obtain⟨v,o,ho,hd⟩:=I.cell x c e
  exact free c o (λz=>(hch c z).2.2.1 x c e rfl) ho (I.gG x c e)
 ·obtain⟨e,n,ne,nf,d⟩:=I.pin p hp
  have pV:p.1 ∉ ch:=λz=>(hch p.1 z).2.2.2 p hp rfl
  exact⟨keep p.1 p.2 ne nf pV e n,free p.1 p.2 pV e n,ne,nf,d⟩
theorem Inv.un{t':Nat}(I:Inv X pins σ H s)(u:Un X.fs [] H H' s.heap h')(hok:df X.prog X.w H' h'):Inv X pins σ H' {s with heap:=h',toks:=t'}:=by
 obtain⟨m,⟨o,es,ep,ho,r⟩,_⟩:=id I.loc
 obtain⟨sl,hL⟩:=u.any ho I.free (by simp)
 exact I.step (g':=s.gens) (d':=s.drawn) (ch:=[]) (λ_ z=>nomatch z) (λb o _ hb _ e n=>u.keep b o e n hb (by simp)) (λb o _ hb _ e n=>u.slot b o e n hb (by simp)) (λb o _ e n=>u.free b o e n (by simp)) (λb o _ e=>u.there b o e (by simp)) u.tups u.kS u.kT (λm' hm=>by
  obtain⟨o',es',ep',ho',r'⟩:=hm
  rw[ho] at ho';cases ho'
  exact⟨_,es',ep',hL,r'⟩) hok I.bare
theorem Inv.call{g':Array Fv}{t':Nat}{d':Drawn}{ch:List Addr}(I:Inv X pins σ H s)(u:Un (frs X.stack) ch H H' s.heap h')(hok:df X.prog X.w H' h')(hg:GY g')
  (hch:∀b∈ch,(b∈X.ex∨X.s₀.heap.objs.size<=b)/\b≠X.env.locals/\(∀x c,X.env.cells.lookup x=some c->c≠b)/\∀p∈X.pn++pins,p.1≠b):
  Inv X pins σ H' {s with heap:=h',gens:=g',drawn:=d',toks:=t'}:=by
 obtain⟨m,⟨o,es,ep,ho,r⟩,_⟩:=id I.loc
 obtain⟨sl,hL⟩:=u.any ho I.free λz=>(hch _ z).2.1 rfl
 exact I.step (ch:=ch) hch (λb o hL hb hc e n=>u.keep b o e n (λz=>(AV.mp (I.pU b z)).elim hL hb) hc) (λb o _ _ hc e n=>u.any e n hc) (λb o hc e n=>u.free b o e n hc) (λb o hc e=>u.there b o e hc) u.tups u.kS u.kT (λm' hm=>by
  obtain⟨o',es',ep',ho',r'⟩:=hm
  rw[ho] at ho';cases ho'
  exact⟨_,es',ep',hL,r'⟩) hok hg
theorem Inv.turned{t':Nat}{it:Addr}(I:Inv X pins σ H s)(k:∀b o,b≠it->s.heap.get? b=some o->h'.get? b=some o)(hn:H it=none)(hL:it≠X.env.locals)
  (h1:it∈X.ex∨X.s₀.heap.objs.size<=it) (h2:∀x c,X.env.cells.lookup x=some c->c≠it) (h3:∀p∈X.pn++pins,p.1≠it):Inv X pins σ H {s with heap:=h',toks:=t'}:=by
 have nit:∀b u,H b=some u->b≠it:=λb u e z=>by rw[z,hn] at e;cases e
 refine I.step (g':=s.gens) (d':=s.drawn) (ch:=[it]) (λb hb=>?_) (λb o _ _ hc e _=>k b o (λz=>hc (by simp[z])) e) (λb o _ _ hc e _=>⟨o.slots,k b o (λz=>hc (by simp[z])) e⟩) (λ_ _ _ _ n=>n)
  (λb o hc e=>⟨o,k b o (λz=>hc (by simp[z])) e⟩) (λ_ _ e=>e) (λ_ _ _ e=>e) (λb ps e=>⟨#[],by rw[e];simp⟩) (λm hm=>?_) (λb u e=>?_) I.bare
 ·have e:b=it:=by simpa using hb
  subst e
  exact⟨h1,hL,h2,h3⟩
 ·obtain⟨o,es,ep,ho,r⟩:=hm
  exact⟨o,es,ep,k _ o (C0 hL) ho,r⟩
 ·refine(I.hok b u e).stay (λc v hc q=>k c v ?_ q) (λ_ q=>q) λ_ _ q=>q
  rcases hc with z | z
  ·rw[z];exact nit b u e
  ·exact nit c _ z
theorem Inv.tok(I:Inv X pins σ H s)(t:Nat):Inv X pins σ H {s with toks:=t}:=I.un (h':=s.heap) (t':=t) Un.refl I.hok
theorem Inv.kept{t':Nat}(I:Inv X pins σ H s)(k:∀b u,s.heap.get? b=some u->h'.get? b=some u):Inv X pins σ H {s with heap:=h',toks:=t'}:=I.un (Un.kept k) (I.hok.kept k)
theorem Inv.laid{a:Addr}{o:HO}{t':Nat}(I:Inv X pins σ H s)(k:∀b u,s.heap.get? b=some u->h'.get? b=some u)(hp:s.heap.objs.size<=a)(new:bA X.prog X.w (upd H a o) h' a o):
  Inv X pins σ (upd H a o) {s with heap:=h',toks:=t'}:=I.un (Un.laid k hp (I.hok.fresh hp)) (I.hok.laid k hp new)
theorem Inv.write{x e:Addr}{o:HO}{t':Nat}(I:Inv X pins σ H s)(mu:O_ (H x))(he:e=x∨H e=some (.own x))(k:∀b u,b≠e->s.heap.get? b=some u->h'.get? b=some u)(heo:∃u,h'.get? e=some u)
  (new:bA X.prog X.w (upd H x o) h' x o):Inv X pins σ (upd H x o) {s with heap:=h',toks:=t'}:=I.un (Un.write mu he k heo) (I.hok.write mu he k heo new)
theorem Inv.L6{Ut:List (Addr×Obj)}(I:Inv X pins σ H s)(h:∀p∈Ut,s.heap.get? p.1=some p.2/\H p.1=none/\p.1≠X.env.locals/\p.1 ∉ X.fs/\∀v,p.2.data≠.cell v):Inv X Ut σ H s:=
 ⟨I.ok,I.os,I.bare,I.base,I.loc,I.cell,I.free,I.gG,λp hp=>(A6.mp hp).elim (λz=>I.pin p (Cq _ z)) (h p),I.hok,I.len⟩
theorem zl{N:List Str}(hN:N.Nodup){i j:Nat}{x:Str}(a:N[i]? =some x)(b:N[j]? =some x):i=j:=by
 obtain⟨h1,e1⟩:=AF.mp a
 obtain⟨h2,e2⟩:=AF.mp b
 exact(D9 hN).mp (e1.trans e2.symm)
theorem wU{M:Model}{A:A0}{E:Value->AH->Prop}{i:Nat}{x:Str}{v:V}{u:Value}{Q:Unit->AH->Prop}(I:Inv X pins σ H s)(hN:X.N.Nodup)(hi:X.N[i]? =some x)(hx:Loc X.env.scope x)(r:RelV v u)
  (h:∀s',Inv X pins (σ.set i (some v)) H s'->(∃a,Ck a s.heap s'.heap/\(a=X.env.locals∨X.env.cells.lookup x=some a))->Q () s') (hf:X.fn x=true∨X.env.scope.names.lookup x=some .local:=by first | exact .inl rfl | exact .inr rfl | assumption):wpAny M A (storeName X.env x u) Q E s:=by
 obtain⟨m,hn,hl⟩:=id I.loc
 have hcls:(X.env.scope.kind == .class||(X.env.scope.kind == .module&&X.env.locals != X.env.globals))=false:=by rw[I.ok.kind];rfl
 have hiσ:i<σ.length:=by rw[I.len];exact(AF.mp hi).1
 have wR:=I.wR
 have tracked:∀{a:Addr} {h':Heap},(∃o,s.heap.get? a=some o/\H a=none)->Ck a s.heap h'->df X.prog X.w H h':=λ{a h'} ha hs b ob e=>by
  obtain⟨_,_,hfree⟩:=ha
  refine(I.hok b ob e).stay (λc w' hc q=>(hs.2 c ?_).trans q) (λ_ q=>q) λ_ _ q=>q
  rintro rfl
  rcases hc with rfl | hc
  ·rw[hfree] at e;cases e
  ·rw[hfree] at hc;cases hc
 rcases hx with hk | hk
 ·refine wpAny_storeName_local hk hn (λh' hn' hs=>?_) hcls
  obtain⟨oL,_,_,hoL,_⟩:=id hn
  refine h _ ⟨I.ok,I.os,I.bare,⟨λb o e n hb hx=>?_,λb o e n hb hx=>?_,I.base.free,λb o e hx=>?_,I.base.tups,I.base.kS,I.base.kT⟩,⟨_,hn',λj y v' e1 e2 e3=>?_⟩,λy c e=>?_,I.free,I.gG,λp hp=>?_,tracked ⟨oL,hoL,I.free⟩ hs,by simpa using I.len⟩ ⟨_,hs,.inl rfl⟩
  ·exact(hs.2 b (Ac (AZ (AU e) I.ok.above))).trans (I.base.keep b o e n hb hx)
  ·obtain⟨sl,e1⟩:=I.base.slot b o e n hb hx
   exact⟨sl,(hs.2 b (Ac (AZ (AU e) I.ok.above))).trans e1⟩
  ·obtain⟨o',e1⟩:=I.base.there b o e hx
   exact⟨o',(hs.2 b (Ac (AZ (AU e) I.ok.above))).trans e1⟩
  ·by_cases hj:j=i
   ·subst hj
    rw[hi] at e1;cases e1
    rw[HI hiσ] at e2
    cases e2
    exact⟨u,r,.inl ⟨hk,by simp⟩⟩
   ·rw[Hw (C0 hj)] at e2
    obtain⟨u',r',q⟩:=hl j y v' e1 e2 e3
    refine⟨u',r',?_⟩
    rcases q with⟨k,e⟩ | ⟨k,c,e,z⟩
    ·refine .inl ⟨k,?_⟩
     have:y≠x:=λe=>hj (zl hN e1 (e▸hi))
     simp[this,e]
    ·exact .inr ⟨k,c,e,z.sameBut hs (wR y c e)⟩
  ·obtain⟨w',z⟩:=I.cell y c e
   exact⟨w',z.sameBut hs (wR y c e)⟩
  ·obtain⟨e,n,ne,nf,d⟩:=I.pin p hp
   exact⟨(hs.2 p.1 ne).trans e,n,ne,nf,d⟩
 ·have hfn:X.fn x=true:=by
   rcases hf with z | z
   ·exact z
   ·rw[z] at hk;cases hk
  obtain⟨c,hc⟩:=I.ok.has x (.inl hk)
  obtain⟨w',z⟩:=I.cell x c hc
  refine wpAny_storeName_cell I.ok.kind hk hc z (λh' hc' hs=>?_)
  obtain⟨oc,hoc,aeT⟩:=id z
  refine h {s with heap:=h'} ⟨I.ok,I.os,I.bare,⟨λb o e n hb hx=>?_,λb o e n hb hx=>?_,I.base.free,λb o e hx=>?_,I.base.tups,I.base.kS,I.base.kT⟩,⟨m,hn.sameBut hs (C0 (wR x c hc)),λj y v' e1 e2 e3=>?_⟩,λy c' e=>?_,I.free,I.gG,λp hp=>?_,tracked ⟨oc,hoc,I.gG x c hc⟩ hs,by simpa using I.len⟩ ⟨c,hs,.inr hc⟩
  ·exact(hs.2 b (Ac (AZ (AU e) (I.ok.cab x c hfn hc)))).trans (I.base.keep b o e n hb hx)
  ·obtain⟨sl,e1⟩:=I.base.slot b o e n hb hx
   exact⟨sl,(hs.2 b (Ac (AZ (AU e) (I.ok.cab x c hfn hc)))).trans e1⟩
  ·obtain⟨o',e1⟩:=I.base.there b o e hx
   exact⟨o',(hs.2 b (Ac (AZ (AU e) (I.ok.cab x c hfn hc)))).trans e1⟩
  ·by_cases hj:j=i
   ·subst hj
    rw[hi] at e1;cases e1
    rw[HI hiσ] at e2
    cases e2
    exact⟨u,r,.inr ⟨.inl hk,c,hc,hc'⟩⟩
   ·rw[Hw (C0 hj)] at e2
    obtain⟨u',r',q⟩:=hl j y v' e1 e2 e3
    refine⟨u',r',?_⟩
    rcases q with q | ⟨k,c',e,z'⟩
    ·exact .inl q
    ·refine .inr ⟨k,c',e,z'.sameBut hs ?_⟩
     rintro rfl
     exact hj (zl hN e1 (I.ok.inj _ _ _ e hc▸hi))
  ·by_cases hcc:c'=c
   ·subst hcc;exact⟨_,hc'⟩
   ·obtain⟨w2,z2⟩:=I.cell y c' e
    exact⟨w2,z2.sameBut hs hcc⟩
  ·obtain⟨e,n,ne,nf,d⟩:=I.pin p hp
   refine⟨(hs.2 p.1 ?_).trans e,n,ne,nf,d⟩
   intro q
   rw[q,hoc] at e
   have q':oc=p.2:=AN e
   exact d w' (by rw[<-q'];exact aeT)
theorem zm{M:Model}{A:A0}{E:Value->AH->Prop}{i:Nat}{x:Str}{v:V}{u:Value}{Q:Unit->AH->Prop}(I:Inv X pins σ H s)(hN:X.N.Nodup)(hi:X.N[i]? =some x)(hx:Loc X.env.scope x)(r:RelV v u)
  (h:∀s',Inv X pins (σ.set i (some v)) H s'->Q () s') (hf:X.fn x=true∨X.env.scope.names.lookup x=some .local:=by first | exact .inl rfl | exact .inr rfl | assumption):wpAny M A (storeName X.env x u) Q E s:=
 wU I hN hi hx r (λs' I' _=>h s' I') hf
theorem Inv.call'{s':AH}{ch:List Addr}(I:Inv X pins σ H s)(ho:s'.os=s.os)(u:Un (frs X.stack) ch H H' s.heap s'.heap)(hok:df X.prog X.w H' s'.heap)(hg:GY s'.gens)
  (hch:∀b∈ch,(b∈X.ex∨X.s₀.heap.objs.size<=b)/\b≠X.env.locals/\(∀x c,X.env.cells.lookup x=some c->c≠b)/\∀p∈X.pn++pins,p.1≠b):Inv X pins σ H' s':=by
 obtain⟨h',g',d',t',o'⟩:=s'
 have e:o'=s.os:=ho
 subst e
 exact I.call (g':=g') (t':=t') (d':=d') u hok hg hch
end
abbrev XK:=Value->Option Addr->Hp->Prop
abbrev St:=List (Option V)
abbrev VK:=V->Hp->Prop
abbrev TE:=St->Hp->VK->Prop
abbrev TT:=St->Hp->(Bool->Hp->Prop)->Prop
abbrev TA:=St->Hp->(List V->Hp->Prop)->Prop
structure Ends where
 nx:St->Hp->Prop
 rt:VK
 bk:St->Hp->Prop:=λ_ _=>False
 ct:St->Hp->Prop:=λ_ _=>False
abbrev TS:=Ends->St->Hp->Prop
def EP(X:Cx)(pins:List (Addr×Obj))(σ:St)(Q:VK)(u:Value)(s':AH):Prop:=∃v H',Inv X pins σ H' s'/\RelV v u/\Q v H'
def TP(X:Cx)(pins:List (Addr×Obj))(σ:St)(Q:Bool->Hp->Prop)(b:Bool)(s':AH):Prop:=∃H',Inv X pins σ H' s'/\Q b H'
def AP(X:Cx)(pins:List (Addr×Obj))(σ:St)(Q:List V->Hp->Prop)(us:List Value)(s':AH):Prop:=∃vs H',Inv X pins σ H' s'/\Vals vs us/\Q vs H'
def SP(X:Cx)(pins:List (Addr×Obj))(D:Ends)(f:Flow)(s':AH):Prop:=
 match f with
 | .next=>∃σ' H',Inv X pins σ' H' s'/\D.nx σ' H'
 | .brk=>∃σ' H',Inv X pins σ' H' s'/\D.bk σ' H'
 | .cont=>∃σ' H',Inv X pins σ' H' s'/\D.ct σ' H'
 | .ret u=>∃v σ' H',Inv X pins σ' H' s'/\RelV v u/\D.rt v H'
def PE(X:Cx)(e:Expr)(t:TE):Prop:=
 ∀(pins:List (Addr×Obj)) (s:AH) (σ:St) (H:Hp) (Q:VK),Inv X pins σ H s->t σ H Q->wpAny (model X.prog X.w) X.A (eval e X.env) (EP X pins σ Q) X.xe s
def PT(X:Cx)(e:Expr)(t:TT):Prop:=
 ∀(pins:List (Addr×Obj)) (s:AH) (σ:St) (H:Hp) (Q:Bool->Hp->Prop),Inv X pins σ H s->t σ H Q->wpAny (model X.prog X.w) X.A (isTrue e X.env (eval e X.env)) (TP X pins σ Q) X.xe s
def PW(X:Cx)(e:Expr)(t:TT):Prop:=
 ∀(whole:Sem Value) (pins:List (Addr×Obj)) (s:AH) (σ:St) (H:Hp) (Q:Bool->Hp->Prop),Inv X pins σ H s->t σ H Q->wpAny (model X.prog X.w) X.A (isTrue e X.env whole) (TP X pins σ Q) X.xe s
theorem PW.pt{X:Cx}{e:Expr}{t:TT}(h:PW X e t):PT X e t:=h _
def PA(X:Cx)(es:List Expr)(t:TA):Prop:=
 ∀(pos:Pos) (pins:List (Addr×Obj)) (s:AH) (σ:St) (H:Hp) (Q:List V->Hp->Prop),Inv X pins σ H s->t σ H Q->wpAny (model X.prog X.w) X.A (spliced (EH pos (BO es X.env))) (AP X pins σ Q) X.xe s
def PS(X:Cx)(st:Stmt)(t:TS):Prop:=
 ∀(pins:List (Addr×Obj)) (s:AH) (σ:St) (H:Hp) (D:Ends),Inv X pins σ H s->t D σ H->wpAny (model X.prog X.w) X.A (exec st X.env) (SP X pins D) X.xe s
def mx(X:Cx)(st:List Stmt)(t:TS):Prop:=
 ∀(pins:List (Addr×Obj)) (s:AH) (σ:St) (H:Hp) (D:Ends),Inv X pins σ H s->t D σ H->wpAny (model X.prog X.w) X.A (execs st X.env) (SP X pins D) X.xe s
theorem aK{α:Type}{t:Sem α}{Q Q':α->AH->Prop}{M:Model}{A:A0}{E:Value->AH->Prop}{s:AH}(h:wpAny M A t Q E s)(hQ:∀a s,Q a s->Q' a s):wpAny M A t Q' E s:=CC h hQ λ_ _ x=>x
section
variable{X:Cx}
def Ni(i:Nat):TE:=λσ H Q=>∃v,σ[i]? =some (some v)/\Q v H
def tC(v:V):TE:=λ_ H Q=>Q v H
theorem Xm{i:Nat}{x:Str}{pos:Pos}(hN:X.N[i]? =some x)(hv:L5 X.env.scope x)(hd:(x == ("__debug__":Str))=false:=by decide)(hcd:(x == ("__classdict__":Str))=false:=by decide):PE X (.Name x pos) (Ni i):=by
 intro pins s σ H Q I h
 obtain⟨v,e,h⟩:=h
 obtain⟨m,hn,hl⟩:=I.loc
 obtain⟨u,r,l⟩:=hl i x v hN e hv
 have fin:EP X pins σ Q u s:=⟨v,H,I,r,h⟩
 rcases l with⟨hk,hm⟩ | ⟨hk,c,hc,hcell⟩
 ·exact Fw (wpAny_loadName_local I.ok.kind hk hn hm fin) hd
 ·rcases hk with hk | hk
  ·exact Fw (wpAny_loadName_cell I.ok.kind hk hc hcell fin) hd
  ·exact Fw (wpAny_loadName_free I.ok.kind hk hc hcell fin hcd) hd
theorem aj{i j pos}:PE X (.Constant (.int i) j pos) (tC (.int i)):=λ_ _ _ H _ I h=>wpAny_Constant_int ⟨.int i,H,I.tok _,⟨_,rfl⟩,h⟩
theorem fm{b j pos}:PE X (.Constant (.bool b) j pos) (tC (.bl b)):=λ_ _ _ H _ I h=>Constant_bool ⟨.bl b,H,I,rfl,h⟩
theorem t_{j pos}:PE X (.Constant .none j pos) (tC .non):=λ_ _ _ H _ I h=>Constant_none ⟨.non,H,I,rfl,h⟩
theorem eJ{x j pos}:PE X (.Constant (.str x) j pos) (tC (.str x)):=λ_ _ _ H _ I h=>Calls.Constant_str ⟨.str x,H,I.tok _,⟨_,rfl⟩,h⟩
def Gl(X:Cx)(x:Str):Prop:=X.env.kindOf x=some .globalImplicit
theorem qH{E:Value->AH->Prop}{pins:List (Addr×Obj)}{s:AH}{σ:St}{H:Hp}{x:Str}{u:Value}{pos:Pos}{Q:Value->AH->Prop}(I:Inv X pins σ H s)(hg:Gl X x)(hm:X.mg x=some u)(h:Q u s)
  (hd:(x == ("__debug__":Str))=false:=by decide):wpAny (model X.prog X.w) X.A (eval (.Name x pos) X.env) Q E s:=
 Fx I.ok.kind hg (Calls.loadGlobal_global (by rw[I.ok.glob];exact I.mod.glob.keeps I.bk) hm h) hd
theorem gY{E:Value->AH->Prop}{pins:List (Addr×Obj)}{s:AH}{σ:St}{H:Hp}{x:Str}{u:Value}{pos:Pos}{Q:Value->AH->Prop}(I:Inv X pins σ H s)(hg:Gl X x)(hm:X.mg x=none)(hv:Bj x=some u)(h:Q u s)
  (hn:x≠"__name__":=by decide) (hd:(x == ("__debug__":Str))=false:=by decide):wpAny (model X.prog X.w) X.A (eval (.Name x pos) X.env) Q E s:=by
 obtain⟨mb,h1,h2⟩:=I.mod.blt
 exact Fx I.ok.kind hg (Calls.loadGlobal_builtin (by rw[I.ok.glob];exact I.mod.glob.keeps I.bk) hm (by rw[I.ok.blt];exact h1.keeps I.bk) ((h2 x hn).trans hv) h) hd
theorem V8{x:Str}{v:V}{u:Value}{pos:Pos}(hg:Gl X x)(hm:X.mg x=some u)(r:RelV v u)(hd:(x == ("__debug__":Str))=false:=by decide):PE X (.Name x pos) (tC v):=
 λ_ _ _ H _ I h=>qH I hg hm ⟨v,H,I,r,h⟩ hd
theorem vf{x:Str}{v:V}{u:Value}{pos:Pos}(hg:Gl X x)(hm:X.mg x=none)(hv:Bj x=some u)(r:RelV v u)(hn:x≠"__name__":=by decide)(hd:(x == ("__debug__":Str))=false:=by decide):PE X (.Name x pos) (tC v):=
 λ_ _ _ H _ I h=>gY I hg hm hv ⟨v,H,I,r,h⟩ hn hd
variable{a b:Expr}{ta tb:TE}{pos:Pos}
def PC(X:Cx)(op:CmpOp)(a b:Expr)(t:TE):Prop:=
 ∀(pins:List (Addr×Obj)) (s:AH) (σ:St) (H:Hp) (Q:VK),Inv X pins σ H s->t σ H Q->
  wpAny (model X.prog X.w) X.A (eval a X.env) (λv s₁=>wpAny (model X.prog X.w) X.A (eval b X.env) (λu s₂=>wpAny (model X.prog X.w) X.A (Bl op v u) (EP X pins σ Q) X.xe s₂) X.xe s₁) X.xe s
def tB(t:TE):TT:=λσ H Q=>t σ H λx H1=>∃c,x=.bl c/\Q c H1
theorem Xn{op:CmpOp}{t:TE}(h:PC X op a b t)(h1:behindInMarks op b=false:=by first | exact aeU _ (by decide) (by decide) | rfl):PT X (.Compare a [op] [b] pos) (tB t):=by
 intro pins s σ H Q I hw
 refine wpAny_isTrue_Compare1 (aK (h pins s σ H _ I hw) λv s1 h1=>aK h1 λu s2 h2=>aK h2 λc s3 ⟨x,H1,I1,r1,q1⟩=>?_) h1
 obtain⟨d,rfl,q⟩:=q1
 cases r1
 exact Cr ⟨H1,I1,q⟩
variable{tA tB':TT}{rest:List Expr}
def tOr(t u:TT):TT:=λσ H Q=>t σ H λc H1=>if c=true then Q true H1 else u σ H1 Q
def aeV(t:TT):TT:=λσ H Q=>t σ H λc H1=>Q (!c) H1
theorem pW(ha:PT X a tA):PW X (.BoolOp .Or [a] pos) tA:=by
 intro wh pins s σ H Q I h
 refine isTrue_or (aK (ha pins s σ H Q I h) λc s1 e=>?_)
 cases c with
 | false=>exact isTrue_or_nil e
 | true=>exact e
theorem oh(ha:PT X a tA)(hb:PW X (.BoolOp .Or (b::rest) pos) tB'):PW X (.BoolOp .Or (a::b::rest) pos) (tOr tA tB'):=by
 intro wh pins s σ H Q I h
 refine isTrue_or (aK (ha pins s σ H _ I h) λc s1 ⟨H1,I1,q1⟩=>?_)
 cases c with
 | true=>exact⟨H1,I1,q1⟩
 | false=>exact hb wh pins s1 σ H1 Q I1 q1
theorem nj(ha:PT X a tA):PT X (.UnaryOp .Not a pos) (aeV tA):=by
 intro pins s σ H Q I h
 exact isTrue_not (ha pins s σ H (λc H1=>Q (!c) H1) I h)
end
def bG(K:AD)(H:Hp)(a:Addr)(xs:List V):Prop:=
 Rd H a (.lst xs)∨
  ∃(o:Obj) (its:Array Value) (n:Nat),K.lookup a=some o/\o.cls=.type "list"/\o.dict=none/\o.data=.seq its n/\its.size<=sizeLine/\Vals xs its.toList
def aY(K:AD)(H:Hp)(a:Addr)(xs:List V):Prop:=
 Rd H a (.tup xs)∨
  ∃(o:Obj) (its:Array Value) (n:Nat),K.lookup a=some o/\o.cls=.type "tuple"/\o.data=.seq its n/\its.size<=sizeLine/\Vals xs its.toList
def aeW:Value->Option V
 | .none=>some .non
 | .bool b=>some (.bl b)
 | .int i _=>some (.int i)
 | .str x _=>some (.str x)
 | .bytes b _=>some (.kQ b)
 | .float b _=>some (.flt b)
 | .ref a=>some (.ref a)
 | .type n=>some (.ty n)
 | _=>none
theorem RelV.abs{x:V}{u:Value}(r:RelV x u):aeW u=some x:=by
 cases x with
 | non=>cases r;rfl
 | bl _=>cases r;rfl
 | int _=>obtain⟨t,rfl⟩:=r;rfl
 | str _=>obtain⟨t,rfl⟩:=r;rfl
 | kQ _=>obtain⟨t,rfl⟩:=r;rfl
 | flt _=>obtain⟨t,rfl⟩:=r;rfl
 | ref _=>cases r;rfl
 | ty _=>cases r;rfl
theorem RelV.inj{x y:V}{u:Value}(r:RelV x u)(q:RelV y u):x=y:=AN (r.abs.symm.trans q.abs)
theorem Vals.inj:∀{xs ys:List V} {us:List Value},Vals xs us->Vals ys us->xs=ys
 | _,_,_,.nil,.nil=>rfl
 | _,_,_,.cons r t,.cons r' t'=>by rw[r.inj r',Vals.inj t t']
section
variable{X:Cx}{pins:List (Addr×Obj)}{σ:St}{H:Hp}{s:AH}{a:Addr}{xs ys:List V}
theorem bG.of{K:AD}(h:H a=some (.lst xs)):bG K H a xs:=.inl (.inl h)
theorem aY.of{K:AD}(h:H a=some (.tup xs)):aY K H a xs:=.inl (.inl h)
theorem Inv.list(I:Inv X pins σ H s)(h:bG X.K H a xs):∃its:List Value,Vals xs its/\PlainL s.heap a its.toArray/\xs.length<=sizeLine:=by
 rcases h with h | ⟨o,its,n,hk,hc,hd,hs,hz,r⟩
 ·obtain⟨z,its,n,r,e⟩:=h.ok I.hok
  exact⟨its,r,⟨_,n,e,rfl,rfl,rfl⟩,z⟩
 ·refine⟨its.toList,r,⟨o,n,I.gX a o hk,hc,hd,by simpa using hs⟩,?_⟩
  have e:=r.length
  simp only[Au] at e
  omega
theorem Inv.tuple(I:Inv X pins σ H s)(h:aY X.K H a xs):∃its:List Value,Vals xs its/\IsTup s.heap a its.toArray/\xs.length<=sizeLine:=by
 rcases h with h | ⟨o,its,n,hk,hc,hs,hz,r⟩
 ·obtain⟨z,its,r,p⟩:=h.ok I.hok
  exact⟨its,r,p,z.1⟩
 ·refine⟨its.toList,r,⟨o,I.gX a o hk,hc,n,by simpa using hs⟩,?_⟩
  have e:=r.length
  simp only[Au] at e
  omega
theorem Inv.oi(I:Inv X pins σ H s)(h:bG X.K H a xs)(h':bG X.K H a ys):xs=ys:=by
 obtain⟨its,r,⟨o,n,e,_,_,d⟩,_⟩:=I.list h
 obtain⟨its',r',⟨o',n',e',_,_,d'⟩,_⟩:=I.list h'
 rw[e] at e';cases e'
 rw[d] at d'
 injection d' with d1 _
 have:its=its':=by simpa using congrArg Array.toList d1
 subst this
 exact r.inj r'
theorem Inv.my(I:Inv X pins σ H s)(h:aY X.K H a xs)(h':aY X.K H a ys):xs=ys:=by
 obtain⟨its,r,⟨o,e,_,n,d⟩,_⟩:=I.tuple h
 obtain⟨its',r',⟨o',e',_,n',d'⟩,_⟩:=I.tuple h'
 rw[e] at e';cases e'
 rw[d] at d'
 injection d' with d1 _
 have:its=its':=by simpa using congrArg Array.toList d1
 subst this
 exact r.inj r'
end
abbrev Cx.wish (X:Cx)(E:Value->AH->Prop):Cx:={X with xe:=E}
abbrev Cx.q_ (X:Cx):Cx:=X.wish λ_ _=>False
theorem Cx.Ok.wish{X:Cx}(ok:X.Ok)(E:Value->AH->Prop):(X.wish E).Ok:=
 ⟨ok.mod,ok.kind,ok.glob,ok.blt,ok.above,ok.inj,ok.has,ok.cab,ok.hd,ok.frames,ok.stk,ok.Xk,ok.bs,ok.pT,ok.zj,ok.zk,ok.iW,ok.wQ⟩
theorem Cx.Ok.iX{X:Cx}{E:Value->AH->Prop}(ok:(X.wish E).Ok):X.Ok:=
 ⟨ok.mod,ok.kind,ok.glob,ok.blt,ok.above,ok.inj,ok.has,ok.cab,ok.hd,ok.frames,ok.stk,ok.Xk,ok.bs,ok.pT,ok.zj,ok.zk,ok.iW,ok.wQ⟩
section
variable{X:Cx}{pins:List (Addr×Obj)}{σ:St}{H:Hp}{s:AH}{E:Value->AH->Prop}
theorem Inv.wish(I:Inv X pins σ H s)(E:Value->AH->Prop):Inv (X.wish E) pins σ H s:=⟨I.ok.wish E,I.os,I.bare,I.base,I.loc,I.cell,I.free,I.gG,I.pin,I.hok,I.len⟩
theorem Inv.iX(I:Inv (X.wish E) pins σ H s):Inv X pins σ H s:=⟨I.ok.iX,I.os,I.bare,I.base,I.loc,I.cell,I.free,I.gG,I.pin,I.hok,I.len⟩
theorem SP.iX{D:Ends}{f:Flow}{s':AH}(h:SP (X.wish E) pins D f s'):SP X pins D f s':=by
 cases f with
 | next=>obtain⟨σ',H',I,q⟩:=h;exact⟨σ',H',I.iX,q⟩
 | brk=>obtain⟨σ',H',I,q⟩:=h;exact⟨σ',H',I.iX,q⟩
 | cont=>obtain⟨σ',H',I,q⟩:=h;exact⟨σ',H',I.iX,q⟩
 | ret u=>obtain⟨v,σ',H',I,r,q⟩:=h;exact⟨v,σ',H',I.iX,r,q⟩
theorem mx.q_{st:List Stmt}{t:TS}(h:mx X.q_ st t):mx X st t:=λpins s σ H D I hw=>
 CC (h pins s σ H D (I.wish _) hw) (λ_ _ q=>q.iX) λ_ _ z=>B9 z
end
section
variable{X:Cx}{st:Stmt}{rest:List Stmt}{t u:TS}{e:Expr}{te:TE}{pos:Pos}
def Uu:TS:=λD σ H=>D.nx σ H
def zo(t u:TS):TS:=λD σ H=>t {D with nx:=u D} σ H
theorem bu:mx X [] Uu:=λ_ _ σ H _ I h=>Fc ⟨σ,H,I,h⟩
theorem ai(h1:PS X st t)(h2:mx X rest u):mx X (st::rest) (zo t u):=by
 intro pins s σ H D I h
 refine FH (aK (h1 pins s σ H {D with nx:=u D} I h) λf s1 q=>?_)
 cases f with
 | next=>
  obtain⟨σ',H',I',q⟩:=q
  exact h2 pins s1 σ' H' D I' q
 | ret v=>exact q
 | brk=>exact q
 | cont=>exact q
theorem aq(h1:PS X st t):mx X [st] t:=by
 intro pins s σ H D I h
 refine FH (aK (h1 pins s σ H D I h) λf s1 q=>?_)
 cases f with
 | next=>exact Fc q
 | ret v=>exact q
 | brk=>exact q
 | cont=>exact q
theorem Inv.quiet{pins:List (Addr×Obj)}{σ:St}{H:Hp}{s:AH}(I:Inv X pins σ H s):interactive X.env=false:=by simp[interactive,I.ok.kind]
def Uv(te:TE):TS:=λD σ H=>te σ H λ_ H1=>D.nx σ H1
theorem cM(he:PE X e te)(hs:IP e none pos.line X.env=pure false:=by rfl):PS X (.Expr e pos) (Uv te):=by
 intro pins s σ H D I h
 exact wpAny_Expr_any (aK (he pins s σ H _ I h) λv s1 ⟨x,H1,I1,r1,q1⟩=>⟨σ,H1,I1,q1⟩) I.quiet hs
def Xo(te:TE):TS:=λD σ H=>te σ H D.rt
theorem aM(he:PE X e te):PS X (.Return (some e) pos) (Xo te):=by
 intro pins s σ H D I h
 exact wpAny_Return_some (aK (he pins s σ H _ I h) λv s1 ⟨x,H1,I1,r1,q1⟩=>⟨x,σ,H1,I1,r1,q1⟩)
def Nj(c:TT)(t u:TS):TS:=λD σ H=>c σ H λb H1=>if b=true then t D σ H1 else u D σ H1
theorem bW{c:Expr}{a b:List Stmt}{tc:TT}(hc:PT X c tc)(ha:mx X a t)(hb:mx X b u):PS X (.If c a b pos) (Nj tc t u):=by
 intro pins s σ H D I h
 refine wpAny_If (aK (hc pins s σ H _ I h) λd s1 ⟨H1,I1,q1⟩=>?_)
 cases d with
 | true=>exact ha pins s1 σ H1 D I1 q1
 | false=>exact hb pins s1 σ H1 D I1 q1
def Xp:TS:=λ_ _ _=>False
theorem R1:PS X st Xp:=λ_ _ _ _ _ _ h=>h.elim
end
abbrev TG:=V->St->Hp->(St->Hp->Prop)->Prop
abbrev wV:=List V->St->Hp->(St->Hp->Prop)->Prop
def PG(X:Cx)(target:Expr)(t:TG):Prop:=
 ∀(pins:List (Addr×Obj)) (s:AH) (σ:St) (H:Hp) (v:V) (u:Value) (Q:St->Hp->Prop),Inv X pins σ H s->RelV v u->t v σ H Q->
  wpAny (model X.prog X.w) X.A (assign target X.env u) (λ_ s'=>∃σ' H',Inv X pins σ' H' s'/\Q σ' H') X.xe s
def O0(X:Cx)(ts:List Expr)(t:wV):Prop:=
 ∀(pins:List (Addr×Obj)) (s:AH) (σ:St) (H:Hp) (vs:List V) (us:List Value) (Q:St->Hp->Prop),Inv X pins σ H s->Vals vs us->t vs σ H Q->
  wpAny (model X.prog X.w) X.A (assignInOrder ((Ea ts X.env).map (·.2)) us) (λ_ s'=>∃σ' H',Inv X pins σ' H' s'/\Q σ' H') X.xe s
abbrev R3:=V->V->V->Hp->(Hp->Prop)->Prop
def Xq(X:Cx)(t:R3):Prop:=
 ∀(pins:List (Addr×Obj)) (s:AH) (σ:St) (H:Hp) (o i v:V) (ov iv u:Value) (Q:Hp->Prop),Inv X pins σ H s->RelV o ov->RelV i iv->RelV v u->t o i v H Q->
  wpAny (model X.prog X.w) X.A (setItem ov iv u) (λ_ s'=>∃H',Inv X pins σ H' s'/\Q H') X.xe s
section
variable{X:Cx}{pos:Pos}
def aO(i:Nat):TG:=λv σ H Q=>Q (σ.set i (some v)) H
theorem aH{i:Nat}{x:Str}(hN:X.N.Nodup)(hi:X.N[i]? =some x)(hx:Loc X.env.scope x)(hf:X.fn x=true∨X.env.scope.names.lookup x=some .local:=by first | exact .inl rfl | exact .inr rfl | assumption):PG X (.Name x pos) (aO i):=by
 intro pins s σ H v u Q I r h
 exact wpAny_assign_Name (zm I hN hi hx r (λs' I'=>⟨_,H,I',h⟩) hf)
def aeX:wV:=λvs σ H Q=>vs=[]/\Q σ H
def abM(t:TG)(u:wV):wV:=λvs σ H Q=>∃v r,vs=v::r/\t v σ H λσ' H'=>u r σ' H' Q
theorem iK:O0 X [] aeX:=by
 intro pins s σ H vs us Q I r h
 obtain⟨e,h⟩:=h
 subst e
 cases r
 exact assignInOrder_nil ⟨σ,H,I,h⟩
theorem bV{e:Expr}{es:List Expr}{t:TG}{u:wV}(h1:PG X e t)(h2:O0 X es u)
  (hs:(Ea (e::es) X.env).map (·.2)=assign e X.env::(Ea es X.env).map (·.2):=by rfl):O0 X (e::es) (abM t u):=by
 intro pins s σ H vs us Q I r h
 obtain⟨v,vr,e1,h⟩:=h
 subst e1
 cases r with
 | cons r rr=>
  rw[hs]
  refine assignInOrder_cons (aK (h1 pins s σ H _ _ _ I r h) λ_ s1 ⟨σ1,H1,I1,q1⟩=>?_)
  exact h2 pins s1 σ1 H1 _ _ Q I1 rr q1
def Xr(K:AD)(n:Nat)(t:wV):TG:=λv σ H Q=>∃a xs,v=.ref a/\aY K H a xs/\xs.length=n/\t xs σ H Q
theorem kX{es:List Expr}{k:Nat}{t:wV}{n:Nat}(hc:X.calm=true)(h:O0 X es t)
  (hn:(Ea es X.env).length=n:=by rfl) (hst:(Ea es X.env).findIdx? (·.1)=none:=by rfl):PG X (.Tuple es k pos) (Xr X.K n t):=by
 intro pins s σ H v u Q I r hw
 obtain⟨a,xs,e1,hq,hl,hw⟩:=hw
 subst e1
 cases r
 obtain⟨its,rv,ht,hz⟩:=I.tuple hq
 refine assign_Tuple_tuple (I.ok.hd hc) ht (by simp[hn,<-hl,rv.length]) hst λh' hx=>?_
 have I1:Inv X pins σ H {s with heap:=h'}:=I.kept (t':=s.toks) λb o e=>hx b o (Ac (AU e)) e
 exact h pins _ σ H xs _ Q I1 (by simpa using rv) hw
def aeY(to ti:TE)(t:R3):TG:=λv σ H Q=>to σ H λo H1=>ti σ H1 λi H2=>t o i v H2 λH3=>Q σ H3
theorem O1{o i:Expr}{to ti:TE}{t:R3}(ho:PE X o to)(hi:PE X i ti)(hs:Xq X t)
  (ha:∀v,assign (.Subscript o i pos) X.env v=(do
   let ov <-holding [v] (eval o X.env)
   let iv <-holding [v,ov] (eval i X.env)
   standAt pos
   holding [v,ov,iv] (setItem ov iv v)
   release [v,ov,iv] []):=by intro _;rfl):PG X (.Subscript o i pos) (aeY to ti t):=by
 intro pins s σ H v u Q I r h
 rw[ha]
 refine AA (BE (aK (ho pins s σ H _ I h) λov s1 ⟨x,H1,I1,r1,q1⟩=>?_))
 refine AA (BE (aK (hi pins s1 σ H1 _ I1 q1) λiv s2 ⟨y,H2,I2,r2,q2⟩=>?_))
 refine AA (Gp (AA (BE (aK (hs pins s2 σ H2 x y v ov iv u _ I2 r1 r2 r q2) λ_ s3 ⟨H3,I3,q3⟩=>?_))))
 exact wpAny_release ⟨σ,H3,I3,q3⟩
def Nk(te:TE)(g:TG):TS:=λD σ H=>te σ H λx H1=>g x σ H1 D.nx
theorem t6{tg e:Expr}{te:TE}{g:TG}(he:PE X e te)(hg:PG X tg g)(hs:swapsWithSole [tg] e pos.line X.env=pure false:=by rfl)(hw:swappedStores [tg] e X.env=pure none:=by rfl)
  (h1:(Ea [tg] X.env).map (·.2)=[assign tg X.env]:=by rfl):PS X (.Assign [tg] e pos) (Nk te g):=by
 intro pins s σ H D I h
 refine wpAny_Assign_stores (aK (he pins s σ H _ I h) λv s1 ⟨x,H1,I1,r1,q1⟩=>?_) hs hw
 rw[h1]
 exact aK (hg pins s1 σ H1 x v _ I1 r1 q1) λ_ s2 q=>q
theorem az{i:Nat}{x:Str}{e:Expr}{te:TE}{pos':Pos}(hN:X.N.Nodup)(hi:X.N[i]? =some x)(hx:Loc X.env.scope x)(he:PE X e te)(hs:IP e (some (.Name x pos')) pos.line X.env=pure false:=by rfl)(hf:X.fn x=true∨X.env.scope.names.lookup x=some .local:=by first | exact .inl rfl | exact .inr rfl | assumption):
  PS X (.Assign [.Name x pos'] e pos) (Nk te (aO i)):=by
 intro pins s σ H D I h
 refine wpAny_Assign_Name (aK (he pins s σ H _ I h) λv s1 ⟨y,H1,I1,r1,q1⟩=>?_) hs
 exact zm I1 hN hi hx r1 (λs2 I2=>⟨_,H1,I2,q1⟩) hf
def pX(c:TT)(tb:TS):TS:=λD σ H=>∃W:Nat->St->Hp->Prop,(∃m,W m σ H)/\∀m σ H,W m σ H->
 c σ H λb H1=>if b=true then ∃N:St->Hp->Prop,(∀σ' H',N σ' H'->∃m',m'<m/\W m' σ' H')/\tb {D with nx:=N,ct:=N,bk:=D.nx} σ H1 else D.nx σ H1
theorem oj{c:Expr}{body:List Stmt}{tc:TT}{tb:TS}(hp:PassesOwn (model X.prog X.w) X.A X.env X.xe)(hc:PT X c tc)(hb:mx X body tb):PS X (.While c body [] pos) (pX tc tb):=by
 intro pins s σ H D I h
 obtain⟨W,⟨m0,w0⟩,turn⟩:=h
 refine wpAny_While (codeAny_whileLoop (λn s'=>∃σ' H',Inv X pins σ' H' s'/\W n σ' H') ?_ m0 ⟨σ,H,I,w0⟩)
 rintro n s1 ⟨σ1,H1,I1,w1⟩
 refine DJ hp (aK (hc pins s1 σ1 H1 _ I1 (turn n σ1 H1 w1)) λb s2 ⟨H2,I2,q2⟩=>?_)
 cases b with
 | true=>
  obtain⟨N,hN,q2⟩:=q2
  rw[if_pos rfl]
  refine DJ hp (aK (hb pins s2 σ1 H2 _ I2 q2) λf s3 q3=>?_)
  cases f with
  | next=>
   obtain⟨σ3,H3,I3,n3⟩:=q3
   obtain⟨m',hm,w3⟩:=hN σ3 H3 n3
   exact⟨m',hm,σ3,H3,I3,w3⟩
  | cont=>
   obtain⟨σ3,H3,I3,n3⟩:=q3
   obtain⟨m',hm,w3⟩:=hN σ3 H3 n3
   exact⟨m',hm,σ3,H3,I3,w3⟩
  | brk=>exact q3
  | ret v=>exact q3
 | false=>
  rw[if_neg An]
  exact Fc ⟨σ1,H2,I2,q2⟩
end
structure It where
 go:Nat->Hp->Prop
 t7:Nat->Hp->V->Hp->Prop
 stop:Nat->Hp->Prop
def iY(X:Cx)(pins:List (Addr×Obj))(H:Hp)(b:Addr):Prop:=
 H b=none/\b≠X.env.locals/\b ∉ X.fs/\(b∈X.ex∨X.s₀.heap.objs.size<=b)/\(∀x c,X.env.cells.lookup x=some c->c≠b)/\∀p∈X.pn++pins,p.1≠b
theorem Inv.mS{X:Cx}{pins:List (Addr×Obj)}{σ:St}{H H':Hp}{s:AH}{b:Addr}(I:Inv X pins σ H s)(hb:s.heap.objs.size<=b)(hn:H' b=none):iY X pins H' b:=by
 refine⟨hn,CQ (AZ I.lt hb),I.aeS hb,.inr (A1 I.sz hb),λx c e z=>?_,λp hp z=>?_⟩
 ·obtain⟨v,q⟩:=I.cell x c e
  exact absurd (AZ q.lt (by rw[z];exact hb)) (Bm _)
 ·exact absurd (AZ (AU (I.pin p hp).1) (by rw[z];exact hb)) (Bm _)
structure Turn (P:Af)(w:World)(K:AD)(tg:Expr)(J:It)(fp:List Addr)(it:Addr)(tn:Nat->Heap->Prop):Prop where
 mem:it∈fp
 obj:∀i h,tn i h->∀b∈fp,∃o,h.get? b=some o/\∀v,o.data≠.cell v
 keep:∀i h h',tn i h->(∀b∈fp,∀o,h.get? b=some o->h'.get? b=some o)->tn i h'
 item:∀(X:Cx),X.prog=P->X.w=w->X.K=K->X.calm=true->∀(i:Nat) (pins:List (Addr×Obj)) (s:AH) (σ:St) (H:Hp) (E:Value->AH->Prop),Inv X pins σ H s->(∀b∈fp,iY X pins H b)->tn i s.heap->J.go i H->
  wpAny (model P w) X.A (C1 (.ref it)) (λr s1=>∃u,r=some u/\
   wpAny (model P w) X.A (Fd tg (.ref it) u) (λ_ s2=>∃x H',Inv X pins σ H' s2/\RelV x u/\J.t7 i H x H'/\tn (i+1) s2.heap/\∀b∈fp,H' b=none) E s1) E s
 done:∀(X:Cx),X.prog=P->X.w=w->X.K=K->X.calm=true->∀(i:Nat) (pins:List (Addr×Obj)) (s:AH) (σ:St) (H:Hp) (E:Value->AH->Prop),Inv X pins σ H s->(∀b∈fp,iY X pins H b)->tn i s.heap->J.stop i H->
  wpAny (model P w) X.A (C1 (.ref it)) (λr s1=>r=none/\Inv X pins σ H s1) E s
 self:∀(A:A0) (i:Nat) (s:AH) (Q:Value->AH->Prop) (E:Value->AH->Prop),tn i s.heap->Q (.ref it) s->wpAny (model P w) A (Iu (.ref it)) Q E s
abbrev TI:=St->Hp->(It->Hp->Prop)->Prop
def PIE(X:Cx)(pins:List (Addr×Obj))(σ:St)(tg:Expr)(R:It->Hp->Prop)(itv:Value)(s2:AH):Prop:=
 ∃(it:Addr) (fp:List Addr) (tn:Nat->Heap->Prop) (J:It) (H':Hp),itv=.ref it/\Inv X pins σ H' s2/\Turn X.prog X.w X.K tg J fp it tn/\tn 0 s2.heap/\(∀b∈fp,iY X pins H' b)/\R J H'
def PI(X:Cx)(tg iter:Expr)(wi:TI):Prop:=
 ∀(pins:List (Addr×Obj)) (s:AH) (σ:St) (H:Hp) (R:It->Hp->Prop),Inv X pins σ H s->wi σ H R->
  wpAny (model X.prog X.w) X.A (eval iter X.env) (λv s1=>wpAny (model X.prog X.w) X.A (Iu v) (PIE X pins σ tg R) X.xe s1) X.xe s
theorem Nl{M:Model}{A:A0}{E:Value->AH->Prop}{s:AH}{tg:Expr}{it:Addr}{u:Value}{o:Obj}{n:String}{vs:Array Value}{Q:Unit->AH->Prop}(ho:s.heap.get? it=some o)(hc:o.cls=.type n)(hd:o.data=.fields vs)
  (hn:["enumerate","zip","dict_itemiterator","dict_reverseitemiterator","odict_iterator","itertools.zip_longest","itertools.pairwise"].contains n=false) (hQ:Q () s):wpAny M A (Fd tg (.ref it) u) Q E s:=by
 unfold Fd
 cases tg<;>first
  | exact AG hQ
  | (cases u<;>first
    | exact AG hQ
    | (refine AA (Fy ho ?_)
       rw[hc,hd]
       show wpAny M A (if(["enumerate","zip","dict_itemiterator","dict_reverseitemiterator","odict_iterator","itertools.zip_longest","itertools.pairwise"].contains n&&vs[0]? == some (Ap _))=true then _ else _) Q E s
       rw[if_neg (by intro h;rw[hn,Bool.false_and] at h;cases h)]
       exact AG hQ))
def zp(K:AD)(a:Addr):It:=
 ⟨λi H=>∃xs x,bG K H a xs/\xs[i]? =some x,λi H x H'=>H'=H/\∀xs,bG K H a xs->xs[i]? =some x,λi H=>∃xs,bG K H a xs/\xs.length<=i⟩
def zq(K:AD)(a:Addr):It:=
 ⟨λi H=>∃xs x,aY K H a xs/\xs[i]? =some x,λi H x H'=>H'=H/\∀xs,aY K H a xs->xs[i]? =some x,λi H=>∃xs,aY K H a xs/\xs.length<=i⟩
def t8(lo:Int)(n:Nat):It:=⟨λi _=>i<n,λi H x H'=>H'=H/\x=.int (lo+i),λi _=>n<=i⟩
theorem O6{P:Af}{w:World}{K:AD}{tg:Expr}(a it:Addr):Turn P w K tg (zp K a) [it] it (λi h=>h.IsListIter it a i) where
 mem:=by simp
 obj:=λi h st b hb=>by
  have e:b=it:=by simpa using hb
  subst e
  obtain⟨o,e,c,d⟩:=st
  exact⟨o,e,λv z=>by rw[d] at z;cases z⟩
 keep:=λi h h' st k=>st.at λo e=>k it (by simp) o e
 item:=by
  intro X hP hw hK hc i pins s σ H E I hf st hg
  subst hP hw hK
  obtain⟨xs,x,hq,hx⟩:=hg
  obtain⟨its,rv,p,hz⟩:=I.list hq
  obtain⟨u,hu,ru⟩:=rv.get hx
  obtain⟨f0,f1,f2,f3,f4,f5⟩:=hf it (by simp)
  refine wpAny_pyNext_list_item st p.isList (x:=u) (by simpa using hu) λh' st' sb=>?_
  have I1:Inv X pins σ H {s with heap:=h'}:=I.turned (t':=s.toks) (λb o hb e=>(sb.2 b hb).trans e) f0 f1 f3 f4 f5
  obtain⟨o,e,c,d⟩:=id st'
  exact⟨u,rfl,Nl (s:={s with heap:=h'}) e c d (by decide) ⟨x,H,I1,ru,⟨rfl,λys hy=>by rw[I.oi hy hq];exact hx⟩,st',λb hb=>(hf b hb).1⟩⟩
 done:=by
  intro X hP hw hK hc i pins s σ H E I hf st hg
  subst hP hw hK
  obtain⟨xs,hq,hx⟩:=hg
  obtain⟨its,rv,p,hz⟩:=I.list hq
  obtain⟨f0,f1,f2,f3,f4,f5⟩:=hf it (by simp)
  have hl:=rv.length
  exact wpAny_pyNext_list_end (I.ok.hd hc) st p.isList (by simp;omega) λh' eb=>⟨rfl,I.turned (t':=s.toks) (λb o hb e=>eb b o hb e) f0 f1 f3 f4 f5⟩
 self:=λ_ _ _ _ _ st h=>wpAny_pyIter_listiter st h
theorem Nm{P:Af}{w:World}{K:AD}{tg:Expr}(a it:Addr):Turn P w K tg (zq K a) [it] it (λi h=>h.IsTupleIter it a i) where
 mem:=by simp
 obj:=λi h st b hb=>by
  have e:b=it:=by simpa using hb
  subst e
  obtain⟨o,e,c,d⟩:=st
  exact⟨o,e,λv z=>by rw[d] at z;cases z⟩
 keep:=λi h h' st k=>st.at λo e=>k it (by simp) o e
 item:=by
  intro X hP hw hK hc i pins s σ H E I hf st hg
  subst hP hw hK
  obtain⟨xs,x,hq,hx⟩:=hg
  obtain⟨its,rv,p,hz⟩:=I.tuple hq
  obtain⟨u,hu,ru⟩:=rv.get hx
  obtain⟨f0,f1,f2,f3,f4,f5⟩:=hf it (by simp)
  refine wpAny_pyNext_tuple_item st (show s.heap.IsTuple a its.toArray from p) (x:=u) (by simpa using hu) λh' st' sb=>?_
  have I1:Inv X pins σ H {s with heap:=h'}:=I.turned (t':=s.toks) (λb o hb e=>(sb.2 b hb).trans e) f0 f1 f3 f4 f5
  obtain⟨o,e,c,d⟩:=id st'
  exact⟨u,rfl,Nl (s:={s with heap:=h'}) e c d (by decide) ⟨x,H,I1,ru,⟨rfl,λys hy=>by rw[I.my hy hq];exact hx⟩,st',λb hb=>(hf b hb).1⟩⟩
 done:=by
  intro X hP hw hK hc i pins s σ H E I hf st hg
  subst hP hw hK
  obtain⟨xs,hq,hx⟩:=hg
  obtain⟨its,rv,p,hz⟩:=I.tuple hq
  obtain⟨f0,f1,f2,f3,f4,f5⟩:=hf it (by simp)
  have hl:=rv.length
  exact wpAny_pyNext_tuple_end (I.ok.hd hc) st (show s.heap.IsTuple a its.toArray from p) (by simp;omega) λh' eb=>⟨rfl,I.turned (t':=s.toks) (λb o hb e=>eb b o hb e) f0 f1 f3 f4 f5⟩
 self:=λ_ _ _ _ _ st h=>wpAny_pyIter_tupleiter st h
theorem Nn{P:Af}{w:World}{K:AD}{tg:Expr}(it:Addr)(lo:Int)(n:Nat):Turn P w K tg (t8 lo n) [it] it (λi h=>IsRangeIter h it (lo+(i:Nat)*1) ((n:Int)-(i:Nat)) 1) where
 mem:=by simp
 obj:=λi h st b hb=>by
  have e:b=it:=by simpa using hb
  subst e
  exact⟨_,st,λv z=>by
   have z':Data.fields _=Data.cell v:=z
   cases z'⟩
 keep:=λi h h' st k=>k it (by simp) _ st
 item:=by
  intro X hP hw hK hc i pins s σ H E I hf st hg
  subst hP hw hK
  obtain⟨f0,f1,f2,f3,f4,f5⟩:=hf it (by simp)
  have W:=Walks.range (prog:=X.prog) (w:=X.w) (I.ok.hd hc) it lo 1 n
  refine W.item i s _ _ hg st λv h' tk hv st' kk=>?_
  obtain⟨t,rfl⟩:=hv
  have I1:Inv X pins σ H {s with heap:=h',toks:=tk}:=I.turned (λb o hb e=>kk b o (by simpa using hb) e) f0 f1 f3 f4 f5
  refine⟨_,rfl,Nl (s:={s with heap:=h',toks:=tk}) (n:="range_iterator") st' rfl rfl (by decide) ⟨.int (lo+i),H,I1,⟨t,?_⟩,⟨rfl,rfl⟩,st',λb hb=>(hf b hb).1⟩⟩
  rw[Int.mul_one]
 done:=by
  intro X hP hw hK hc i pins s σ H E I hf st hg
  subst hP hw hK
  obtain⟨f0,f1,f2,f3,f4,f5⟩:=hf it (by simp)
  exact wpAny_pyNext_range_end (I.ok.hd hc) st (by have:n<=i:=hg;omega) λh' eb=>⟨rfl,I.turned (t':=s.toks) (λb o hb e=>eb b o hb e) f0 f1 f3 f4 f5⟩
 self:=λ_ _ _ _ _ st h=>wpAny_pyIter_rangeiter st h
section
variable{X:Cx}{tg:Expr}
def abN(K:AD)(tl:TE):TI:=λσ H R=>tl σ H λx H1=>∃a,x=.ref a/\(∃xs,bG K H1 a xs)/\R (zp K a) H1
def Xs(K:AD)(tl:TE):TI:=λσ H R=>tl σ H λx H1=>∃a,x=.ref a/\(∃xs,aY K H1 a xs)/\R (zq K a) H1
theorem dJ{l:Expr}{tl:TE}(hl:PE X l tl):PI X tg l (abN X.K tl):=by
 intro pins s σ H R I h
 refine aK (hl pins s σ H _ I h) λv s1 ⟨x,H1,I1,r1,q1⟩=>?_
 obtain⟨a,e,⟨xs,hq⟩,q⟩:=q1
 subst e
 cases r1
 obtain⟨its,rv,p,hz⟩:=I1.list hq
 refine Dv p.isList ?_
 refine⟨s1.heap.objs.size,[s1.heap.objs.size],_,_,H1,rfl,I1.kept (t':=s1.toks) λb o e=>AE _ e,O6 a _,⟨_,AO _ rfl,rfl,rfl⟩,λb hb=>?_,q⟩
 have e:b=s1.heap.objs.size:=by simpa using hb
 subst e
 exact I1.mS (AK _) (I1.hok.fresh (AK _))
theorem kY{l:Expr}{tl:TE}(hl:PE X l tl):PI X tg l (Xs X.K tl):=by
 intro pins s σ H R I h
 refine aK (hl pins s σ H _ I h) λv s1 ⟨x,H1,I1,r1,q1⟩=>?_
 obtain⟨a,e,⟨xs,hq⟩,q⟩:=q1
 subst e
 cases r1
 obtain⟨its,rv,p,hz⟩:=I1.tuple hq
 refine C9 (show s1.heap.IsTuple a its.toArray from p) ?_
 refine⟨s1.heap.objs.size,[s1.heap.objs.size],_,_,H1,rfl,I1.kept (t':=s1.toks) λb o e=>AE _ e,Nm a _,⟨_,AO _ rfl,rfl,rfl⟩,λb hb=>?_,q⟩
 have e:b=s1.heap.objs.size:=by simpa using hb
 subst e
 exact I1.mS (AK _) (I1.hok.fresh (AK _))
theorem zr{pins:List (Addr×Obj)}{σ:St}{H:Hp}{s:AH}{R:It->Hp->Prop}{E:Value->AH->Prop}{lo hi:Int}{t u v:Tok}{tk:Nat}(I:Inv X pins σ H s)(h1: -(2 ^ 62)<=lo)(h2:lo<2 ^ 62)(h3: -(2 ^ 62)<=hi)(h4:hi<2 ^ 62)
  (q:R (t8 lo (hi-lo).toNat) H):wpAny (model X.prog X.w) X.A (Iu (.ref s.heap.objs.size)) (PIE X pins σ tg R) E {s with heap:=s.heap.push {cls:=.type "range",data:=.fields #[.int lo t,.int hi u,.int 1 v]},toks:=tk}:=by
 refine wpAny_pyIter_range (IsRange.new ..) (small_one h1 h2 h3 h4) ?_
 have I1:Inv X pins σ H {s with heap:=s.heap.push {cls:=.type "range",data:=.fields #[.int lo t,.int hi u,.int 1 v]},toks:=tk}:=I.kept λb o e=>AE _ e
 refine⟨(s.heap.push {cls:=.type "range",data:=.fields #[.int lo t,.int hi u,.int 1 v]}).objs.size,[(s.heap.push {cls:=.type "range",data:=.fields #[.int lo t,.int hi u,.int 1 v]}).objs.size],_,_,H,rfl,
  I1.kept (t':=tk) λb o e=>AE _ e,Nn _ lo (hi-lo).toNat,?_,λb hb=>?_,q⟩
 ·have e1:lo+((0:Nat):Int)*1=lo:=by simp
  have e2:(((hi-lo).toNat:Nat):Int)-((0:Nat):Int)=Builtin.Range.rangeSize lo hi 1:=by rw[rangeSize_one];split<;>omega
  show IsRangeIter _ _ (lo+((0:Nat):Int)*1) ((((hi-lo).toNat:Nat):Int)-((0:Nat):Int)) 1
  rw[e1,e2]
  exact AO _ rfl
 ·have e:b=(s.heap.push {cls:=.type "range",data:=.fields #[.int lo t,.int hi u,.int 1 v]}).objs.size:=by simpa using hb
  subst e
  exact I1.mS (AK _) (I1.hok.fresh (AK _))
def abO(ta:TA):TI:=λσ H R=>ta σ H λvs H1=>∃j:Int,vs=[.int j]/\ -(2 ^ 62)<=j/\j<2 ^ 62/\R (t8 0 j.toNat) H1
def abP(ta:TA):TI:=λσ H R=>ta σ H λvs H1=>∃i j:Int,vs=[.int i,.int j]/\(-(2 ^ 62)<=i/\i<2 ^ 62/\ -(2 ^ 62)<=j/\j<2 ^ 62)/\R (t8 i (j-i).toNat) H1
theorem cg{a:Expr}{ta:TA}{p pos:Pos}(hg:Gl X "range")(hm:X.mg "range"=none)(ha:PA X [a] ta)(hs:BO [a] X.env=[(false,eval a X.env)]:=by rfl):PI X tg (.Call (.Name "range" p) [a] [] pos) (abO ta):=by
 intro pins s σ H R I h
 refine Call_ (gY I hg hm boot_range (Bd (aK (ha pos pins s σ H _ I h) λus s1 ⟨vs,H1,I1,r1,q1⟩=>?_) hs rfl))
 obtain⟨j,e,q1,q2,q⟩:=q1
 subst e
 cases r1 with
 | cons r rr=>
  cases rr
  obtain⟨t,rfl⟩:=r
  exact call_range_1 (zr I1 (by omega) (by omega) q1 q2 (by simpa using q))
theorem O7{a b:Expr}{ta:TA}{p pos:Pos}(hg:Gl X "range")(hm:X.mg "range"=none)(ha:PA X [a,b] ta)(hs:BO [a,b] X.env=[(false,eval a X.env),(false,eval b X.env)]:=by rfl)(hs2:BO [b] X.env=[(false,eval b X.env)]:=by rfl):
  PI X tg (.Call (.Name "range" p) [a,b] [] pos) (abP ta):=by
 intro pins s σ H R I h
 refine Call_ (gY I hg hm boot_range (Bd (aK (ha pos pins s σ H _ I h) λus s1 ⟨vs,H1,I1,r1,q1⟩=>?_) (by rw[hs,hs2]) (by rw[hs2];rfl)))
 obtain⟨i,j,e,⟨q1,q2,q3,q4⟩,q⟩:=q1
 subst e
 cases r1 with
 | cons r rr=>
  cases rr with
  | cons r' rr=>
   cases rr
   obtain⟨t,rfl⟩:=r
   obtain⟨t',rfl⟩:=r'
   exact call_range_2 (zr I1 q1 q2 q3 q4 q)
def Xt(wi:TI)(g:TG)(tb:TS):TS:=λD σ H=>wi σ H λJ H1=>∃W:Nat->Nat->St->Hp->Prop,(∃m,W 0 m σ H1)/\∀i m σ H,W i m σ H->
 (J.stop i H/\D.nx σ H)∨(J.go i H/\∃N:St->Hp->Prop,(∀σ' H',N σ' H'->∃m',m'<m/\W (i+1) m' σ' H')/\∀x H',J.t7 i H x H'->g x σ H' λσ2 H2=>tb {D with nx:=N,ct:=N,bk:=D.nx} σ2 H2)
def pY(fp:List Addr)(h:Heap):List (Addr×Obj):=fp.filterMap λb=>(h.get? b).map λo=>(b,o)
theorem kH{fp:List Addr}{h:Heap}{b:Addr}{o:Obj}(hb:b∈fp)(e:h.get? b=some o):(b,o)∈pY fp h:=Fz.mpr ⟨b,hb,by rw[e];rfl⟩
theorem O8{fp:List Addr}{h:Heap}{p:Addr×Obj}(hp:p∈pY fp h):p.1∈fp/\h.get? p.1=some p.2:=by
 obtain⟨b,hb,e⟩:=Fz.mp hp
 cases q:h.get? b with
 | none=>rw[q] at e;cases e
 | some o=>
  rw[q] at e
  have e':(b,o)=p:=AN e
  subst e'
  exact⟨hb,q⟩
theorem Inv.pinned{pins:List (Addr×Obj)}{σ:St}{H:Hp}{s:AH}{fp:List Addr}(I:Inv X pins σ H s)(hf:∀b∈fp,iY X pins H b)(ho:∀b∈fp,∃o,s.heap.get? b=some o/\∀v,o.data≠.cell v):Inv X (pins++pY fp s.heap) σ H s:=
 I.L6 λp hp=>(A6.mp hp).elim (λz=>I.pin p (BR _ z)) λz=>by
  obtain⟨hb,e⟩:=O8 z
  obtain⟨f0,f1,f2,_⟩:=hf p.1 hb
  obtain⟨o,e',d⟩:=ho p.1 hb
  rw[e] at e';cases e'
  exact⟨e,f0,f1,f2,d⟩
theorem Inv.om{pins pl:List (Addr×Obj)}{σ:St}{H:Hp}{s:AH}(I:Inv X (pins++pl) σ H s):Inv X pins σ H s:=I.L6 λp hp=>I.pin p (BR _ (Cq _ hp))
theorem cp{iter:Expr}{body:List Stmt}{wi:TI}{g:TG}{tb:TS}{pos:Pos}(hp:PassesOwn (model X.prog X.w) X.A X.env X.xe)(hc:X.calm=true)(hi:PI X tg iter wi)(hg:PG X tg g)(hb:mx X body tb)
  (hs:∀x,GZ iter X.env x=pure x:=by intro _;rfl):PS X (.For tg iter body [] pos) (Xt wi g tb):=by
 intro pins s σ H D I h
 refine wpAny_For (aK (hi pins s σ H _ I h) λv s1 h1=>aK h1 λitv s2 h2=>?_) hs
 obtain⟨it,fp,tn,J,H2,e,I2,T,st2,f2,W,⟨m0,w0⟩,turn⟩:=h2
 subst e
 have stat:∀{H':Hp},(∀b∈fp,H' b=none)->∀b∈fp,iY X pins H' b:=λhn b hb=>⟨hn b hb,(f2 b hb).2⟩
 refine codeAny_forLoop_any (λn s'=>∃i σ' H',Inv X pins σ' H' s'/\tn i s'.heap/\(∀b∈fp,H' b=none)/\W i n σ' H') ?_ m0 ⟨0,σ,H2,I2,st2,λb hb=>(f2 b hb).1,w0⟩
 rintro n s3 ⟨i,σ3,H3,I3,st3,fr3,w3⟩
 rcases turn i n σ3 H3 w3 with⟨stop,qn⟩ | ⟨go,N,hN,step⟩
 ·refine DJ hp (aK (T.done X rfl rfl rfl hc i pins s3 σ3 H3 X.xe I3 (stat fr3) st3 stop) λr s4 ⟨hr,I4⟩=>?_)
  subst hr
  exact Fc ⟨σ3,H3,I4,qn⟩
 ·refine DJ hp (aK (T.item X rfl rfl rfl hc i pins s3 σ3 H3 X.xe I3 (stat fr3) st3 go) λr s4 ⟨u,hr,h4⟩=>?_)
  subst hr
  refine DJ hp (aK h4 λ_ s5 ⟨x,H5,I5,r5,y5,wW,Uw⟩=>?_)
  have I5':=I5.pinned (stat Uw) (T.obj _ _ wW)
  refine DJ hp (aK (hg _ s5 σ3 H5 x u _ I5' r5 (step x H5 y5)) λ_ s6 ⟨σ6,H6,I6,q6⟩=>?_)
  refine DJ hp (aK (hb _ s6 σ6 H6 _ I6 q6) λf s7 q7=>?_)
  have again:∀{σ7:St} {H7:Hp},Inv X (pins++pY fp s5.heap) σ7 H7 s7->N σ7 H7->∃m,m<n/\∃i σ' H',Inv X pins σ' H' s7/\tn i s7.heap/\(∀b∈fp,H' b=none)/\W i m σ' H':=λ{σ7 H7} I7 n7=>by
   obtain⟨m',hm,w7⟩:=hN σ7 H7 n7
   refine⟨m',hm,i+1,σ7,H7,I7.om,T.keep _ _ _ wW λb hb o e=>(I7.pin (b,o) (BR _ (BR _ (kH hb e)))).1,λb hb=>?_,w7⟩
   obtain⟨o,e,d⟩:=T.obj _ _ wW b hb
   exact(I7.pin (b,o) (BR _ (BR _ (kH hb e)))).2.1
  cases f with
  | next=>obtain⟨σ7,H7,I7,n7⟩:=q7;exact again I7 n7
  | cont=>obtain⟨σ7,H7,I7,n7⟩:=q7;exact again I7 n7
  | brk=>obtain⟨σ7,H7,I7,q7⟩:=q7;exact⟨σ7,H7,I7.om,q7⟩
  | ret v=>obtain⟨x7,σ7,H7,I7,r7,q7⟩:=q7;exact⟨x7,σ7,H7,I7.om,r7,q7⟩
end
theorem iA{K:AD}{a:Addr}{xs:List V}{g:TG}{tb:TS}{D:Ends}{σ:St}{H:Hp}(Pv:Nat->St->Hp->Prop)(h0:Pv 0 σ H)(hl:∀i σ H,i<=xs.length->Pv i σ H->bG K H a xs)
  (hs:∀i x σ H,xs[i]? =some x->Pv i σ H->g x σ H λσ2 H2=>tb {D with nx:=Pv (i+1),ct:=Pv (i+1),bk:=D.nx} σ2 H2) (hd:∀σ H,Pv xs.length σ H->D.nx σ H):
  ∃W:Nat->Nat->St->Hp->Prop,(∃m,W 0 m σ H)/\∀i m σ H,W i m σ H->
   ((zp K a).stop i H/\D.nx σ H)∨((zp K a).go i H/\∃N:St->Hp->Prop,(∀σ' H',N σ' H'->∃m',m'<m/\W (i+1) m' σ' H')/\∀x H',(zp K a).t7 i H x H'->g x σ H' λσ2 H2=>tb {D with nx:=N,ct:=N,bk:=D.nx} σ2 H2):=by
 refine⟨λi m σ H=>m=xs.length-i/\i<=xs.length/\Pv i σ H,⟨xs.length,by simp,BI _,h0⟩,?_⟩
 rintro i m σ H ⟨rfl,hi,p⟩
 have q:=hl i σ H hi p
 by_cases hlt:i<xs.length
 ·refine .inr ⟨⟨xs,xs[i],q,by simp[hlt]⟩,Pv (i+1),λσ' H' p'=>⟨xs.length-(i+1),by omega,rfl,hlt,p'⟩,λx H' y=>?_⟩
  obtain⟨e,y⟩:=y
  subst e
  exact hs i x σ _ (y xs q) p
 ·have e:i=xs.length:=by omega
  subst e
  exact .inl ⟨⟨xs,q,AK _⟩,hd σ H p⟩
theorem L7{K:AD}{a:Addr}{xs:List V}{g:TG}{tb:TS}{D:Ends}{σ:St}{H:Hp}(Pv:Nat->St->Hp->Prop)(h0:Pv 0 σ H)(hl:∀i σ H,i<=xs.length->Pv i σ H->aY K H a xs)
  (hs:∀i x σ H,xs[i]? =some x->Pv i σ H->g x σ H λσ2 H2=>tb {D with nx:=Pv (i+1),ct:=Pv (i+1),bk:=D.nx} σ2 H2) (hd:∀σ H,Pv xs.length σ H->D.nx σ H):
  ∃W:Nat->Nat->St->Hp->Prop,(∃m,W 0 m σ H)/\∀i m σ H,W i m σ H->
   ((zq K a).stop i H/\D.nx σ H)∨((zq K a).go i H/\∃N:St->Hp->Prop,(∀σ' H',N σ' H'->∃m',m'<m/\W (i+1) m' σ' H')/\∀x H',(zq K a).t7 i H x H'->g x σ H' λσ2 H2=>tb {D with nx:=N,ct:=N,bk:=D.nx} σ2 H2):=by
 refine⟨λi m σ H=>m=xs.length-i/\i<=xs.length/\Pv i σ H,⟨xs.length,by simp,BI _,h0⟩,?_⟩
 rintro i m σ H ⟨rfl,hi,p⟩
 have q:=hl i σ H hi p
 by_cases hlt:i<xs.length
 ·refine .inr ⟨⟨xs,xs[i],q,by simp[hlt]⟩,Pv (i+1),λσ' H' p'=>⟨xs.length-(i+1),by omega,rfl,hlt,p'⟩,λx H' y=>?_⟩
  obtain⟨e,y⟩:=y
  subst e
  exact hs i x σ _ (y xs q) p
 ·have e:i=xs.length:=by omega
  subst e
  exact .inl ⟨⟨xs,q,AK _⟩,hd σ H p⟩
theorem jS{lo:Int}{n:Nat}{g:TG}{tb:TS}{D:Ends}{σ:St}{H:Hp}(Pv:Nat->St->Hp->Prop)(h0:Pv 0 σ H)
  (hs:∀i σ H,i<n->Pv i σ H->g (.int (lo+i)) σ H λσ2 H2=>tb {D with nx:=Pv (i+1),ct:=Pv (i+1),bk:=D.nx} σ2 H2) (hd:∀σ H,Pv n σ H->D.nx σ H):
  ∃W:Nat->Nat->St->Hp->Prop,(∃m,W 0 m σ H)/\∀i m σ H,W i m σ H->
   ((t8 lo n).stop i H/\D.nx σ H)∨((t8 lo n).go i H/\∃N:St->Hp->Prop,(∀σ' H',N σ' H'->∃m',m'<m/\W (i+1) m' σ' H')/\∀x H',(t8 lo n).t7 i H x H'->g x σ H' λσ2 H2=>tb {D with nx:=N,ct:=N,bk:=D.nx} σ2 H2):=by
 refine⟨λi m σ H=>m=n-i/\i<=n/\Pv i σ H,⟨n,by simp,BI _,h0⟩,?_⟩
 rintro i m σ H ⟨rfl,hi,p⟩
 by_cases hlt:i<n
 ·refine .inr ⟨hlt,Pv (i+1),λσ' H' p'=>⟨n-(i+1),by omega,rfl,hlt,p'⟩,λx H' y=>?_⟩
  obtain⟨e,y⟩:=y
  subst e y
  exact hs i σ _ hlt p
 ·have e:i=n:=by omega
  subst e
  exact .inl ⟨AK _,hd σ H p⟩
theorem zt{c:TT}{tb:TS}{D:Ends}{σ:St}{H:Hp}(Pv:St->Hp->Prop)(μ:St->Hp->Nat)(h0:Pv σ H)
  (hs:∀σ H,Pv σ H->c σ H λb H1=>if b=true then tb {D with nx:=λσ' H'=>Pv σ' H'/\μ σ' H'<μ σ H,ct:=λσ' H'=>Pv σ' H'/\μ σ' H'<μ σ H,bk:=D.nx} σ H1 else D.nx σ H1)
  (mono:∀σ H Q Q',(∀b H1,Q b H1->Q' b H1)->c σ H Q->c σ H Q'):pX c tb D σ H:=by
 refine⟨λm σ H=>m=μ σ H/\Pv σ H,⟨_,rfl,h0⟩,?_⟩
 rintro m σ H ⟨rfl,p⟩
 refine mono σ H _ _ (λb H1 q=>?_) (hs σ H p)
 cases b with
 | true=>exact⟨_,λσ' H' ⟨p',l⟩=>⟨_,l,rfl,p'⟩,q⟩
 | false=>exact q
abbrev R2:=V->V->Hp->VK->Prop
def cL(X:Cx)(f:Value->Value->Sem Value)(r:R2):Prop:=
 ∀(pins:List (Addr×Obj)) (s:AH) (σ:St) (H:Hp) (x y:V) (v u:Value) (Q:VK),Inv X pins σ H s->RelV x v->RelV y u->r x y H Q->
  wpAny (model X.prog X.w) X.A (f v u) (EP X pins σ Q) X.xe s
def Xu(X:Cx)(f:Value->Sem Value)(r:V->Hp->VK->Prop):Prop:=
 ∀(pins:List (Addr×Obj)) (s:AH) (σ:St) (H:Hp) (x:V) (v:Value) (Q:VK),Inv X pins σ H s->RelV x v->r x H Q->
  wpAny (model X.prog X.w) X.A (f v) (EP X pins σ Q) X.xe s
def cK(X:Cx)(f:Value)(r:List V->Hp->VK->Prop):Prop:=
 ∀(pins:List (Addr×Obj)) (s:AH) (σ:St) (H:Hp) (xs:List V) (us:List Value) (Q:VK),Inv X pins σ H s->Vals xs us->r xs H Q->
  wpAny (model X.prog X.w) X.A (call f us) (EP X pins σ Q) X.xe s
def aeZ(X:Cx)(r:V->Hp->(Bool->Hp->Prop)->Prop):Prop:=
 ∀(pins:List (Addr×Obj)) (s:AH) (σ:St) (H:Hp) (x:V) (v:Value) (Q:Bool->Hp->Prop),Inv X pins σ H s->RelV x v->r x H Q->
  wpAny (model X.prog X.w) X.A (truthy v) (TP X pins σ Q) X.xe s
def Ux(r:R2)(ta tb:TE):TE:=λσ H Q=>ta σ H λx H1=>tb σ H1 λy H2=>r x y H2 Q
def tUn(r:V->Hp->VK->Prop)(ta:TE):TE:=λσ H Q=>ta σ H λx H1=>r x H1 Q
def rI(C:Int->Int->Prop)(g:Int->Int->V):R2:=λx y H Q=>∃i j,x=.int i/\y=.int j/\C i j/\Q (g i j) H
def wX(g:Int->Int->V):R2:=λx y H Q=>∃i j,x=.int i/\y=.int j/\Q (g i j) H
def rU(g:Int->V):V->Hp->VK->Prop:=λx H Q=>∃i,x=.int i/\Q (g i) H
section
variable{X:Cx}{a b c:Expr}{ta tb tc:TE}{pos:Pos}
theorem R4(ha:PE X a ta)(hb:PE X b tb){pins:List (Addr×Obj)}{s:AH}{σ:St}{H:Hp}{R:V->V->Hp->Prop}(I:Inv X pins σ H s)
  (h:ta σ H λx H1=>tb σ H1 λy H2=>R x y H2) {Q:Value->AH->Prop} {f:Value->Value->Sem Value}
  (hf:∀v u s2 x y H2,Inv X pins σ H2 s2->RelV x v->RelV y u->R x y H2->wpAny (model X.prog X.w) X.A (f v u) Q X.xe s2):
  wpAny (model X.prog X.w) X.A (eval a X.env) (λv s₁=>wpAny (model X.prog X.w) X.A (eval b X.env) (λu s₂=>wpAny (model X.prog X.w) X.A (f v u) Q X.xe s₂) X.xe s₁) X.xe s:=by
 refine aK (ha pins s σ H _ I h) λv s1 ⟨x,H1,I1,r1,q1⟩=>?_
 refine aK (hb pins s1 σ H1 _ I1 q1) λu s2 ⟨y,H2,I2,r2,q2⟩=>?_
 exact hf v u s2 x y H2 I2 r1 r2 q2
theorem aS{op:Operator}{r:R2}(ho:cL X (DL op) r)(ha:PE X a ta)(hb:PE X b tb):PE X (.BinOp a op b pos) (Ux r ta tb):=by
 intro pins s σ H Q I h
 exact wpAny_BinOp (R4 ha hb I h λv u s2 x y H2 I2 rx ry q=>ho pins s2 σ H2 x y v u Q I2 rx ry q)
theorem Np{op:UnaryOp}{r:V->Hp->VK->Prop}(ho:Xu X (unaryOp op) r)(ha:PE X a ta):PE X (.UnaryOp op a pos) (tUn r ta):=by
 intro pins s σ H Q I h
 exact UnaryOp_ (aK (ha pins s σ H _ I h) λv s1 ⟨x,H1,I1,r1,q1⟩=>ho pins s1 σ H1 x v Q I1 r1 q1)
theorem O9{f:Value->Value->Sem Value}{C:Int->Int->Prop}{g:Int->Int->Int}
  (rule:∀(i j:Int) (t u:Tok) (s:AH) (Q:Value->AH->Prop) (E:Value->AH->Prop),C i j->Q (.int (g i j) s.toks) {s with toks:=s.toks+1}->wpAny (model X.prog X.w) X.A (f (.int i t) (.int j u)) Q E s):
  cL X f (rI C λi j=>.int (g i j)):=by
 intro pins s σ H x y v u Q I rx ry h
 obtain⟨i,j,rfl,rfl,hc,q⟩:=h
 obtain⟨t,rfl⟩:=rx
 obtain⟨t',rfl⟩:=ry
 exact rule i j t t' s _ _ hc ⟨.int (g i j),H,I.tok _,⟨_,rfl⟩,q⟩
theorem Xv{f:Value->Value->Sem Value}{g:Int->Int->Int}
  (rule:∀(i j:Int) (t u:Tok) (s:AH) (Q:Value->AH->Prop) (E:Value->AH->Prop),Q (.int (g i j) s.toks) {s with toks:=s.toks+1}->wpAny (model X.prog X.w) X.A (f (.int i t) (.int j u)) Q E s):
  cL X f (wX λi j=>.int (g i j)):=by
 intro pins s σ H x y v u Q I rx ry h
 obtain⟨i,j,rfl,rfl,q⟩:=h
 obtain⟨t,rfl⟩:=rx
 obtain⟨t',rfl⟩:=ry
 exact rule i j t t' s _ _ ⟨.int (g i j),H,I.tok _,⟨_,rfl⟩,q⟩
theorem Nq{f:Value->Value->Sem Value}{g:Int->Int->Bool}
  (rule:∀(i j:Int) (t u:Tok) (s:AH) (Q:Value->AH->Prop) (E:Value->AH->Prop),Q (.bool (g i j)) s->wpAny (model X.prog X.w) X.A (f (.int i t) (.int j u)) Q E s):
  cL X f (wX λi j=>.bl (g i j)):=by
 intro pins s σ H x y v u Q I rx ry h
 obtain⟨i,j,rfl,rfl,q⟩:=h
 obtain⟨t,rfl⟩:=rx
 obtain⟨t',rfl⟩:=ry
 exact rule i j t t' s _ _ ⟨.bl (g i j),H,I,rfl,q⟩
def ae_(i j:Int):Prop:=0<j/\j<1073741824
def Xw(i j:Int):Prop:=0<=j/\j<=1000000/\i.natAbs<2 ^ 64
def R5(i j:Int):Prop:=(-(2 ^ 64)<i/\i<2 ^ 64)∨(-(2 ^ 64)<j/\j<2 ^ 64)
theorem R5.ok{i j:Int}(h:R5 i j):IntMulOk i j:=by
 rcases h with⟨h1,h2⟩ | ⟨h1,h2⟩
 ·exact .of_left (intBits_le_64 h1 h2)
 ·exact .of_right (intBits_le_64 h1 h2)
theorem eK:cL X (DL .Add) (wX λi j=>.int (i+j)):=Xv λ_ _ _ _ _ _ _ q=>add_int q
theorem O':cL X (DL .Sub) (wX λi j=>.int (i-j)):=Xv λ_ _ _ _ _ _ _ q=>sub_int q
theorem iZ:cL X (DL .Mult) (rI R5 λi j=>.int (i*j)):=O9 λ_ _ _ _ _ _ _ hc q=>mul_int q hc.ok
theorem L8:cL X (DL .FloorDiv) (rI ae_ λi j=>.int (i / j)):=O9 λi j _ _ _ _ _ hc q=>by
 have h1:(0:Int)<j:=hc.1
 have h2:j<1073741824:=hc.2
 exact floordiv_int (by omega) (by rw[F_ i (by omega)];exact q) (.inl (PyProof.noPylong_small (by omega)))
theorem pZ:cL X (DL .Mod) (rI (λ_ j=>0<j) λi j=>.int (i % j)):=O9 λi j _ _ _ _ _ hc q=>by
 have h1:(0:Int)<j:=hc
 exact mod_int' (by omega) (by rw[Int.fmod_eq_emod_of_nonneg i (by omega)];exact q)
theorem Pa:cL X (DL .Pow) (rI Xw λi j=>.int (i ^ j.toNat)):=O9 λ_ _ _ _ _ _ _ hc q=>pow_int_small hc.1 hc.2.1 hc.2.2 q
theorem unI{f:Value->Sem Value}{g:Int->Int}
  (rule:∀(i:Int) (t:Tok) (s:AH) (Q:Value->AH->Prop) (E:Value->AH->Prop),Q (.int (g i) s.toks) {s with toks:=s.toks+1}->wpAny (model X.prog X.w) X.A (f (.int i t)) Q E s):
  Xu X f (rU λi=>.int (g i)):=by
 intro pins s σ H x v Q I rx h
 obtain⟨i,rfl,q⟩:=h
 obtain⟨t,rfl⟩:=rx
 exact rule i t s _ _ ⟨.int (g i),H,I.tok _,⟨_,rfl⟩,q⟩
theorem zu:Xu X (unaryOp .USub) (rU λi=>.int (-i)):=unI λ_ _ _ _ _ q=>neg_int q
end
def Xx:V->V->Bool
 | .non,.non=>true | .non,.int _=>true | .int _,.non=>true | .non,.bl _=>true | .bl _,.non=>true | .non,.str _=>true | .str _,.non=>true
 | .int _,.int _=>true | .bl _,.bl _=>true | .str _,.str _=>true | .kQ _,.kQ _=>true
 | .int _,.str _=>true | .str _,.int _=>true | .bl _,.str _=>true | .str _,.bl _=>true
 | _,_=>false
def rEq:R2:=λx y H Q=>Xx x y=true/\Q (.bl (decide (x=y))) H
def rNe:R2:=λx y H Q=>Xx x y=true/\Q (.bl (!decide (x=y))) H
theorem L9{i j:Int}:decide (V.int i=V.int j)=(i == j):=by
 rw[Di]
 simp
theorem Pb{i j:Bool}:decide (V.bl i=V.bl j)=(i == j):=by
 rw[Di]
 simp
theorem Ma{i j:Str}:decide (V.str i=V.str j)=(i == j):=by
 rw[Di]
 simp
theorem Mb{i j:Array UInt8}:decide (V.kQ i=V.kQ j)=(i.toList == j.toList):=by
 rw[Di]
 cases i
 cases j
 simp
section
variable{X:Cx}{a b c:Expr}{ta tb tc:TE}{pos:Pos}
theorem br{pins:List (Addr×Obj)}{σ:St}{H:Hp}{s:AH}{Q:VK}{k k':Bool}(I:Inv X pins σ H s)(q:Q (.bl k) H)(e:k=k'):EP X pins σ Q (.bool k') s:=by
 subst e
 exact⟨.bl k,H,I,rfl,q⟩
theorem kI:cL X (Bl .Eq) rEq:=by
 intro pins s σ H x y v u Q I rx ry h
 obtain⟨hs,q⟩:=h
 cases x with
 | non=>
  cases rx
  cases y with
  | non=>cases ry;exact PySem.EqNone.eq_none_none (br I q (by simp))
  | bl j=>cases ry;exact PySem.EqNone.eq_none_bool (br I q (by simp))
  | int j=>obtain⟨t',rfl⟩:=ry;exact PySem.EqNone.eq_none_int (br I q (by simp))
  | str j=>obtain⟨t',rfl⟩:=ry;exact PySem.EqNone.eq_none_str (br I q (by simp))
  | _=>exact absurd (show false=true from hs) An
 | bl i=>
  cases rx
  cases y with
  | non=>cases ry;exact PySem.EqNone.eq_bool_none (br I q (by simp))
  | bl j=>cases ry;exact eq_bool (br I q Pb)
  | str j=>obtain⟨t',rfl⟩:=ry;exact PySem.EqMixed.eq_bool_str (br I q (by simp))
  | _=>exact absurd (show false=true from hs) An
 | int i=>
  obtain⟨t,rfl⟩:=rx
  cases y with
  | non=>cases ry;exact PySem.EqNone.eq_int_none (br I q (by simp))
  | int j=>obtain⟨t',rfl⟩:=ry;exact eq_int (br I q L9)
  | str j=>obtain⟨t',rfl⟩:=ry;exact PySem.EqMixed.eq_int_str (br I q (by simp))
  | _=>exact absurd (show false=true from hs) An
 | str i=>
  obtain⟨t,rfl⟩:=rx
  cases y with
  | non=>cases ry;exact PySem.EqNone.eq_str_none (br I q (by simp))
  | bl j=>cases ry;exact PySem.EqMixed.eq_str_bool (br I q (by simp))
  | int j=>obtain⟨t',rfl⟩:=ry;exact PySem.EqMixed.eq_str_int (br I q (by simp))
  | str j=>obtain⟨t',rfl⟩:=ry;exact eq_str (br I q Ma)
  | _=>exact absurd (show false=true from hs) An
 | kQ i=>
  obtain⟨t,rfl⟩:=rx
  cases y with
  | kQ j=>obtain⟨t',rfl⟩:=ry;exact PySem.W.eq_bytes (br I q Mb)
  | _=>exact absurd (show false=true from hs) An
 | _=>cases y<;>exact absurd (show false=true from hs) An
theorem i_:cL X (Bl .NotEq) rNe:=by
 intro pins s σ H x y v u Q I rx ry h
 obtain⟨hs,q⟩:=h
 cases x with
 | non=>
  cases rx
  cases y with
  | non=>cases ry;exact PySem.EqNone.ne_none_none (br I q (by simp))
  | bl j=>cases ry;exact PySem.EqNone.ne_none_bool (br I q (by simp))
  | int j=>obtain⟨t',rfl⟩:=ry;exact PySem.EqNone.ne_none_int (br I q (by simp))
  | str j=>obtain⟨t',rfl⟩:=ry;exact PySem.EqNone.ne_none_str (br I q (by simp))
  | _=>exact absurd (show false=true from hs) An
 | bl i=>
  cases rx
  cases y with
  | non=>cases ry;exact PySem.EqNone.ne_bool_none (br I q (by simp))
  | bl j=>cases ry;exact ne_bool (br I q (congrArg not Pb))
  | str j=>obtain⟨t',rfl⟩:=ry;exact PySem.EqMixed.ne_bool_str (br I q (by simp))
  | _=>exact absurd (show false=true from hs) An
 | int i=>
  obtain⟨t,rfl⟩:=rx
  cases y with
  | non=>cases ry;exact PySem.EqNone.ne_int_none (br I q (by simp))
  | int j=>obtain⟨t',rfl⟩:=ry;exact ne_int (br I q (congrArg not L9))
  | str j=>obtain⟨t',rfl⟩:=ry;exact PySem.EqMixed.ne_int_str (br I q (by simp))
  | _=>exact absurd (show false=true from hs) An
 | str i=>
  obtain⟨t,rfl⟩:=rx
  cases y with
  | non=>cases ry;exact PySem.EqNone.ne_str_none (br I q (by simp))
  | bl j=>cases ry;exact PySem.EqMixed.ne_str_bool (br I q (by simp))
  | int j=>obtain⟨t',rfl⟩:=ry;exact PySem.EqMixed.ne_str_int (br I q (by simp))
  | str j=>obtain⟨t',rfl⟩:=ry;exact ne_str (br I q (congrArg not Ma))
  | _=>exact absurd (show false=true from hs) An
 | kQ i=>
  obtain⟨t,rfl⟩:=rx
  cases y with
  | kQ j=>obtain⟨t',rfl⟩:=ry;exact PySem.W.ne_bytes (br I q (congrArg not Mb))
  | _=>exact absurd (show false=true from hs) An
 | _=>cases y<;>exact absurd (show false=true from hs) An
theorem Nr:cL X (Bl .Lt) (wX λi j=>.bl (decide (i<j))):=Nq λ_ _ _ _ _ _ _ q=>lt_int q
theorem Uy:cL X (Bl .LtE) (wX λi j=>.bl (decide (i<=j))):=Nq λ_ _ _ _ _ _ _ q=>le_int q
theorem t9:cL X (Bl .Gt) (wX λi j=>.bl (decide (j<i))):=Nq λ_ _ _ _ _ _ _ q=>gt_int q
theorem abQ:cL X (Bl .GtE) (wX λi j=>.bl (decide (j<=i))):=Nq λ_ _ _ _ _ _ _ q=>ge_int q
theorem Xy:cL X (Bl .Is) (λx y H Q=>y=.non/\Q (.bl (decide (x=.non))) H):=by
 intro pins s σ H x y v u Q I rx ry h
 obtain⟨rfl,q⟩:=h
 cases ry
 refine is_none_gen (br I q ?_)
 cases x<;>first
  | (cases rx;rfl)
  | (obtain⟨t,rfl⟩:=rx;rfl)
theorem V9:cL X (Bl .IsNot) (λx y H Q=>y=.non/\Q (.bl (!decide (x=.non))) H):=by
 intro pins s σ H x y v u Q I rx ry h
 obtain⟨rfl,q⟩:=h
 cases ry
 refine isnot_none_gen (br I q ?_)
 cases x<;>first
  | (cases rx;rfl)
  | (obtain⟨t,rfl⟩:=rx;rfl)
theorem bt(b:Expr){op:CmpOp}(h:op≠.In:=by decide)(h2:op≠.NotIn:=by decide):behindInMarks op b=false:=by
 have e1:(op == CmpOp.In)=false:=by cases op<;>first | rfl | exact absurd rfl h
 have e2:(op == CmpOp.NotIn)=false:=by cases op<;>first | rfl | exact absurd rfl h2
 cases b<;>simp[behindInMarks,e1,e2]
theorem nq{op:CmpOp}{r:R2}(ho:cL X (Bl op) r)(ha:PE X a ta)(hb:PE X b tb)(hm:behindInMarks op b=false):PE X (.Compare a [op] [b] pos) (Ux r ta tb):=by
 intro pins s σ H Q I h
 exact wpAny_Compare1 (R4 ha hb I h λv u s2 x y H2 I2 rx ry q=>ho pins s2 σ H2 x y v u Q I2 rx ry q) hm
def Uz(t:TE):TT:=λσ H Q=>t σ H λx H'=>∃k,x=.bl k/\Q k H'
theorem bj{op:CmpOp}{r:R2}(ho:cL X (Bl op) r)(ha:PE X a ta)(hb:PE X b tb)(hm:behindInMarks op b=false):PT X (.Compare a [op] [b] pos) (Uz (Ux r ta tb)):=by
 intro pins s σ H Q I h
 refine wpAny_isTrue_Compare1 (aK (ha pins s σ H _ I h) λv s1 ⟨x,H1,I1,r1,q1⟩=>aK (hb pins s1 σ H1 _ I1 q1) λu s2 ⟨y,H2,I2,r2,q2⟩=>
  aK (ho pins s2 σ H2 x y v u _ I2 r1 r2 q2) λc s3 ⟨z,H3,I3,r3,k,e,q3⟩=>?_) hm
 subst e
 cases r3
 exact Cr ⟨H3,I3,q3⟩
def Pc(r r':R2)(ta tb tc:TE):TE:=λσ H Q=>ta σ H λx H1=>tb σ H1 λy H2=>r x y H2 λz H3=>∃k,z=.bl k/\
 (if k=true then tc σ H3 λw' H4=>r' y w' H4 Q else Q (.bl false) H3)
theorem R6{op op':CmpOp}{r r':R2}(ho:cL X (Bl op) r)(ho':cL X (Bl op') r')(ha:PE X a ta)(hb:PE X b tb)(hc:PE X c tc)
  (hm:lastMarks [op,op'] [b,c]=false:=by with_unfolding_all rfl):PE X (.Compare a [op,op'] [b,c] pos) (Pc r r' ta tb tc):=by
 intro pins s σ H Q I h
 refine Compare_chain (aK (ha pins s σ H _ I h) λv s1 ⟨x,H1,I1,r1,q1⟩=>chain_link (aK (hb pins s1 σ H1 _ I1 q1) λu s2 ⟨y,H2,I2,r2,q2⟩=>
  aK (ho pins s2 σ H2 x y v u _ I2 r1 r2 q2) λd s3 ⟨z,H3,I3,r3,k,e,q3⟩=>?_)) hm
 subst e
 cases r3
 refine Cr ?_
 cases k with
 | false=>exact ite_ff ⟨.bl false,H3,I3,rfl,q3⟩
 | true=>exact ite_tt (chain_last (aK (hc pins s3 σ H3 _ I3 q3) λw' s4 ⟨z',H4,I4,r4,q4⟩=>ho' pins s4 σ H4 y z' u w' Q I4 r2 r4 q4))
theorem R7{op op':CmpOp}{r r':R2}(ho:cL X (Bl op) r)(ho':cL X (Bl op') r')(ha:PE X a ta)(hb:PE X b tb)(hc:PE X c tc)
  (hm:lastMarks [op,op'] [b,c]=false:=by with_unfolding_all rfl):PT X (.Compare a [op,op'] [b,c] pos) (Uz (Pc r r' ta tb tc)):=by
 intro pins s σ H Q I h
 refine isTrue_chain (aK (ha pins s σ H _ I h) λv s1 ⟨x,H1,I1,r1,q1⟩=>test_link (aK (hb pins s1 σ H1 _ I1 q1) λu s2 ⟨y,H2,I2,r2,q2⟩=>
  aK (ho pins s2 σ H2 x y v u _ I2 r1 r2 q2) λd s3 ⟨z,H3,I3,r3,k,e,q3⟩=>?_)) hm
 subst e
 cases r3
 refine Cr ?_
 cases k with
 | false=>
  obtain⟨k',e',q'⟩:=q3
  cases e'
  exact ite_ff ⟨H3,I3,q'⟩
 | true=>
  refine ite_tt (test_last (aK (hc pins s3 σ H3 _ I3 q3) λw' s4 ⟨z',H4,I4,r4,q4⟩=>aK (ho' pins s4 σ H4 y z' u w' _ I4 r2 r4 q4) λd' s5 ⟨z2,H5,I5,r5,k2,e2,q5⟩=>?_))
  subst e2
  cases r5
  exact Cr ⟨H5,I5,q5⟩
def Xz(K:AD)(x:V)(H:Hp)(k:Bool):Prop:=
 match x with
 | .non=>k=false
 | .bl b=>k=b
 | .int i=>k=(i != 0)
 | .str y=>y.length<=sizeLine/\k=((y.length:Int) != 0)
 | .kQ y=>y.size<=sizeLine/\k=((y.size:Int) != 0)
 | .ref p=>(∃xs,bG K H p xs/\k= !xs.isEmpty)∨(∃xs,aY K H p xs/\k= !xs.isEmpty)∨∃kvs,H p=some (.dK kvs)/\k= !kvs.isEmpty
 | _=>False
theorem Nt{κ:Type}{kvs:List (κ×V)}{vs:List (κ×Value)}(r:KV kvs vs):(!vs.isEmpty)= !kvs.isEmpty:=by
 cases r<;>rfl
theorem ua{xs:List V}{its:List Value}(r:Vals xs its):(!its.toArray.isEmpty)= !xs.isEmpty:=by
 cases r<;>simp
theorem p_:(sizeLine:Nat)<2 ^ 63:=by rw[Cg];decide
theorem XA:aeZ X (λx H Q=>∃k,Xz X.K x H k/\Q k H):=by
 intro pins s σ H x v Q I rx h
 obtain⟨k,e,q⟩:=h
 have hl:=p_
 have hs:sizeLine=16777216:=Cg
 cases x with
 | non=>
  cases rx
  have e':k=false:=e
  subst e'
  exact truthy_none ⟨H,I,q⟩
 | bl b=>
  cases rx
  have e':k=b:=e
  subst e'
  exact Cr ⟨H,I,q⟩
 | int i=>
  obtain⟨t,rfl⟩:=rx
  have e':k=(i != 0):=e
  subst e'
  exact PySem.P.truthy_int ⟨H,I,q⟩
 | str y=>
  obtain⟨t,rfl⟩:=rx
  obtain⟨hy,e'⟩:y.length<=sizeLine/\k=((y.length:Int) != 0):=e
  subst e'
  exact PySem.P.truthy_str (by omega) ⟨H,I.tok _,q⟩
 | kQ y=>
  obtain⟨t,rfl⟩:=rx
  obtain⟨hy,e'⟩:y.size<=sizeLine/\k=((y.size:Int) != 0):=e
  subst e'
  exact PySem.W.truthy_bytes (by omega) ⟨H,I.tok _,q⟩
 | ref p=>
  cases rx
  have e':(∃xs,bG X.K H p xs/\k= !xs.isEmpty)∨(∃xs,aY X.K H p xs/\k= !xs.isEmpty)∨∃kvs,H p=some (.dK kvs)/\k= !kvs.isEmpty:=e
  rcases e' with⟨xs,hx,e'⟩ | ⟨xs,hx,e'⟩ | ⟨kvs,hx,e'⟩
  ·subst e'
   obtain⟨its,r,pl,hz⟩:=I.list hx
   have hlen:=r.length
   exact wpAny_truthy_list pl.isList (by simp only[AY];omega) ⟨H,I.tok _,by rw[ua r];exact q⟩
  ·subst e'
   obtain⟨its,r,pl,hz⟩:=I.tuple hx
   have hlen:=r.length
   exact truthy_tuple pl (by simp only[AY];omega) ⟨H,I.tok _,by rw[ua r];exact q⟩
  ·subst e'
   obtain⟨hz,hS,vs,r,m⟩:kvs.length<=sizeLine/\(p == CS)=false/\∃vs,KV kvs vs/\s.heap.DictOf (bb X.prog X.w) p vs:=I.hok p _ hx
   have hlen:kvs.length=vs.length:=Aq r
   exact wpAny_truthy_dict hS m (by omega) ⟨H,I.tok _,by rw[Nt r];exact q⟩
 | _=>exact(show False from e).elim
theorem gj(ha:PE X a ta)(he:∀whole,isTrue a X.env whole=(do let v <-whole;standAt a.pos;holding [v] (truthy v))):
  PT X a (λσ H Q=>ta σ H λx H'=>∃k,Xz X.K x H' k/\Q k H'):=by
 intro pins s σ H Q I h
 exact isTrue_plain (aK (ha pins s σ H _ I h) λv s1 ⟨x,H1,I1,r1,q1⟩=>XA pins s1 σ H1 x v Q I1 r1 q1) (he _)
theorem vals1{x:V}{us:List Value}(r:Vals [x] us):∃u,us=[u]/\RelV x u:=by
 cases r with
 | cons r1 r2=>cases r2;exact⟨_,rfl,r1⟩
theorem vals2{x y:V}{us:List Value}(r:Vals [x,y] us):∃u w',us=[u,w']/\RelV x u/\RelV y w':=by
 cases r with
 | cons r1 r2=>
  cases r2 with
  | cons r3 r4=>cases r4;exact⟨_,_,rfl,r1,r3⟩
theorem R8:cK X (.builtin "abs") (λxs H Q=>∃i,xs=[.int i]/\Q (.int (if i<0 then-i else i)) H):=by
 intro pins s σ H xs us Q I r h
 obtain⟨i,rfl,q⟩:=h
 obtain⟨u,rfl,t,rfl⟩:=vals1 r
 exact call_abs_int λu tk=>⟨.int (if i<0 then-i else i),H,I.tok _,⟨_,rfl⟩,q⟩
theorem Pd:cK X (.type "int") (λxs H Q=>(∃i,xs=[.int i]/\Q (.int i) H)∨∃k,xs=[.bl k]/\Q (.int (if k then 1 else 0)) H):=by
 intro pins s σ H xs us Q I r h
 rcases h with⟨i,rfl,q⟩ | ⟨k,rfl,q⟩
 ·obtain⟨u,rfl,t,rfl⟩:=vals1 r
  exact call_int_int ⟨.int i,H,I,⟨_,rfl⟩,q⟩
 ·obtain⟨u,rfl,r1⟩:=vals1 r
  cases r1
  exact call_int_bool ⟨.int (if k then 1 else 0),H,I.tok _,⟨_,rfl⟩,q⟩
theorem Nu:cK X (.type "bool") (λxs H Q=>(∃i,xs=[.int i]/\Q (.bl (i != 0)) H)∨∃k,xs=[.bl k]/\Q (.bl k) H):=by
 intro pins s σ H xs us Q I r h
 rcases h with⟨i,rfl,q⟩ | ⟨k,rfl,q⟩
 ·obtain⟨u,rfl,t,rfl⟩:=vals1 r
  exact call_bool_int ⟨.bl (i != 0),H,I,rfl,q⟩
 ·obtain⟨u,rfl,r1⟩:=vals1 r
  cases r1
  exact call_bool_bool ⟨.bl k,H,I,rfl,q⟩
def XB(K:AD)(x:V)(H:Hp)(n:Nat):Prop:=
 match x with
 | .str y=>y.length<=sizeLine/\n=y.length
 | .kQ y=>y.size<=sizeLine/\n=y.size
 | .ref p=>(∃xs,bG K H p xs/\n=xs.length)∨∃xs,aY K H p xs/\n=xs.length
 | _=>False
theorem R9:cK X (.builtin "len") (λxs H Q=>∃x n,xs=[x]/\XB X.K x H n/\Q (.int n) H):=by
 intro pins s σ H xs us Q I r h
 obtain⟨x,n,rfl,e,q⟩:=h
 obtain⟨u,rfl,rx⟩:=vals1 r
 have hl:=p_
 have hs:sizeLine=16777216:=Cg
 cases x with
 | str y=>
  obtain⟨t,rfl⟩:=rx
  obtain⟨hy,e'⟩:y.length<=sizeLine/\n=y.length:=e
  subst e'
  exact len_str (by omega) ⟨.int _,H,I.tok _,⟨_,rfl⟩,q⟩
 | kQ y=>
  obtain⟨t,rfl⟩:=rx
  obtain⟨hy,e'⟩:y.size<=sizeLine/\n=y.size:=e
  subst e'
  exact PySem.W.len_bytes (by omega) ⟨.int _,H,I.tok _,⟨_,rfl⟩,q⟩
 | ref p=>
  cases rx
  have e':(∃xs,bG X.K H p xs/\n=xs.length)∨∃xs,aY X.K H p xs/\n=xs.length:=e
  rcases e' with⟨xs,hx,e'⟩ | ⟨xs,hx,e'⟩
  ·subst e'
   obtain⟨its,r',pl,hz⟩:=I.list hx
   have hlen:=r'.length
   exact Calls.call_len_list pl.isList (by simp only[AY];omega) ⟨.int xs.length,H,I.tok _,⟨_,by simp only[AY];rw[hlen]⟩,q⟩
  ·subst e'
   obtain⟨its,r',pl,hz⟩:=I.tuple hx
   have hlen:=r'.length
   exact len_tuple pl (by simp only[AY];omega) ⟨.int xs.length,H,I.tok _,⟨_,by simp only[AY];rw[hlen]⟩,q⟩
 | _=>exact(show False from e).elim
end
structure Sb (h:Heap)(x dx C:Addr)(mA:Str->Option Value):Prop where
 obj:h.get? x=some (HY C dx)
 ns:h.Ns1 dx mA
 ne:dx≠x
theorem Pe{h:Heap}{dx:Addr}{mA:Str->Option Value}(n:h.Ns1 dx mA):∃od,h.get? dx=some od/\∀name,Hx name od=some (mA name):=by
 obtain⟨o,es,ep,ho,hd,hk,_,hm⟩:=n
 refine⟨o,ho,λname=>?_⟩
 have e:=hm name
 unfold nsFind findBy at e
 rw[<-Array.find?_toList] at e
 unfold Hx
 rw[hd]
 dsimp only
 split
 ·rename_i y q
  rw[q] at e
  exact congrArg some e
 ·rename_i q
  rw[q] at e
  have a:es.toList.any (·.refKey)=false:=by
   rw[List.any_eq_false]
   intro y hy
   obtain⟨z,t,hkey⟩:=hk y (Array.mem_toList_iff.mp hy)
   simp[DictEntry.refKey,hkey]
  have a':¬es.toList.any (·.refKey)=true:=by rw[a];exact An
  rw[if_neg a']
  exact congrArg some e
theorem Sb.look{h:Heap}{x dx C:Addr}{mA:Str->Option Value}(I:Sb h x dx C mA):∃od,PySem.W.InstAt h x (HY C dx) C (some od)/\∀name,Hx name od=some (mA name):=
 let ⟨od,ho,hl⟩:=Pe I.ns
 ⟨od,⟨I.obj,rfl,rfl,ho⟩,hl⟩
theorem gT.some_of{v:V}{o:Option Value}(r:gT (some v) o):∃u,o=some u/\RelV v u:=by
 cases o with
 | none=>exact(show False from r).elim
 | some u=>exact⟨u,rfl,r⟩
theorem gT.none_of{o:Option Value}(r:gT none o):o=none:=by
 cases o with
 | none=>rfl
 | some u=>exact(show False from r).elim
section
variable{P:Af}{w:World}{H H':Hp}{h h':Heap}{a C dx:Addr}{fs fs':List (Str×V)}
theorem V'(hok:df P w H h)(e:H a=some (.ins C dx fs)):∃mA,Sb h a dx C mA/\(∀f,gT (fs.lookup f) (mA f))/\PySem.Within mA (fs.map (·.1))/\fs.length<=1000/\H dx=some (.own a):=by
 obtain⟨d,z,ne,ob,mA,n,r,q⟩:=(show bA P w H h a (.ins C dx fs) from hok a _ e)
 exact⟨mA,⟨ob,n,ne⟩,r,q,z,d⟩
end
structure Cls (K:AD)(C:Addr):Prop where
 pg:JR K C Str.empty=true
 hd:PySem.W.hasDictIn K C=true
 po:PySem.W.plainOver K C=true
 sa:PySem.W.findIn K (.ref C) "__setattr__"=some (some (.builtin "object.__setattr__"))
theorem Cls.get{K:AD}{C:Addr}(c:Cls K C)(f:Str):JR K C f=true:=c.pg
section
variable{X:Cx}{pins:List (Addr×Obj)}{σ:St}{H:Hp}{s:AH}{A:A0}{E:Value->AH->Prop}{Q:Value->AH->Prop}{c:Value}{b:Bool}
inductive gk (K:AD)(H:Hp):V->Value->Prop where
 | non:gk K H .non (.type "NoneType")
 | bl (x:Bool):gk K H (.bl x) (.type "bool")
 | int (i:Int):gk K H (.int i) (.type "int")
 | str (x:Str):gk K H (.str x) (.type "str")
 | flt (x:UInt64):gk K H (.flt x) (.type "float")
 | lst {a:Addr} {xs:List V} (e:H a=some (.lst xs)):gk K H (.ref a) (.type "list")
 | jR {a:Addr} {o:Obj} {xs:List V} (e:H a=some (.jR o (.lst xs))):gk K H (.ref a) (.type "list")
 | tup {a:Addr} {xs:List V} (e:H a=some (.tup xs)):gk K H (.ref a) (.type "tuple")
 | dK {a:Addr} {kvs:List (Key×V)} (e:H a=some (.dK kvs)):gk K H (.ref a) (.type "dict")
 | dT {a:Addr} {kvs:List (List Key×V)} (e:H a=some (.dT kvs)):gk K H (.ref a) (.type "dict")
 | ins {a C dx:Addr} {fs:List (Str×V)} (e:H a=some (.ins C dx fs)) (cl:Cls K C) (ha:PySem.W.findIn K (.ref C) "__class__"=some (some (.builtin "object.__class__")))
   (hn:PySem.W.specialIn K (.builtin "object.__class__") "__get__"=some (some (.builtin "getset_descriptor.__get__"))) (htk:PySem.W.takesIn K (.builtin "object.__class__")=some true)
   (hm:PySem.W.mroIn K C (.type "object")=some true):gk K H (.ref a) (.ref C)
theorem Pf{x:V}{u t:Value}(I:Inv X pins σ H s)(rx:RelV x u)(ty:gk X.K H x t)(e:Dz X.K t c=some b)(h:∀tk,Q (.bool b) {s with toks:=tk}):
  wpAny (model X.prog X.w) A (call (.builtin "isinstance") [u,c]) Q E s:=by
 cases ty with
 | non=>cases(show u=CB from rx);exact CF PySem.W.kitx_none I.gX By e (λz=>nomatch z) h
 | bl y=>cases(show u=Fu y from rx);exact CF PySem.W.kitx_bool I.gX By e (λz=>nomatch z) h
 | int i=>obtain⟨t,q⟩:=(show ∃t,u=Ef i t from rx);cases q;exact CF PySem.W.kitx_int I.gX By e (λz=>nomatch z) h
 | str y=>obtain⟨t,q⟩:=(show ∃t,u=FF y t from rx);cases q;exact CF PySem.W.kitx_str I.gX By e (λz=>nomatch z) h
 | flt y=>obtain⟨t,q⟩:=(show ∃t,u=Value.float y t from rx);cases q;exact CF PySem.W.kitx_float I.gX By e (λz=>nomatch z) h
 | @lst a xs ea=>
  cases(show u=A5 a from rx)
  obtain⟨_,_,n,_,h1⟩:=(show bA X.prog X.w H s.heap a (.lst xs) from I.hok a _ ea)
  exact CF JE I.gX ⟨_,h1,rfl⟩ e (λz=>nomatch z) h
 | @jR a ob xs ea=>
  cases(show u=A5 a from rx)
  obtain⟨_,_,_,n,_,h1⟩:=(show bA X.prog X.w H s.heap a (.jR ob (.lst xs)) from I.hok a _ ea)
  exact CF JE I.gX ⟨_,h1,rfl⟩ e (λz=>nomatch z) h
 | @tup a xs ea=>
  cases(show u=A5 a from rx)
  obtain⟨_,_,_,p⟩:=(show bA X.prog X.w H s.heap a (.tup xs) from I.hok a _ ea)
  obtain⟨o,h1,h2,_⟩:=p
  exact CF PySem.W.kitx_tuple I.gX ⟨o,h1,h2⟩ e (λz=>nomatch z) h
 | @dK a kvs ea=>
  cases(show u=A5 a from rx)
  obtain⟨_,_,vs,_,p⟩:=(show bA X.prog X.w H s.heap a (.dK kvs) from I.hok a _ ea)
  obtain⟨o,es,ep,h1,h2,_⟩:=p
  exact CF JF I.gX ⟨o,h1,h2.1⟩ e (λz=>nomatch z) h
 | @dT a kvs ea=>
  cases(show u=A5 a from rx)
  obtain⟨_,_,xs,_,o,es,ep,h1,h2,_⟩:=(show bA X.prog X.w H s.heap a (.dT kvs) from I.hok a _ ea)
  exact CF JF I.gX ⟨o,h1,h2.1⟩ e (λz=>nomatch z) h
 | @ins a C dx fs ea cl ha hn htk hm=>
  cases(show u=A5 a from rx)
  obtain⟨mA,O,_⟩:=V' I.hok ea
  obtain⟨od,J,_⟩:=O.look
  exact CF (PySem.W.kitx_own (cl.get _) cl.hd ha hn htk hm) I.gX J e (λz=>nomatch z) h
end
structure aL (k:Nat)(A:A0):Prop where
 hd:A.handled=none
 dp:A.depth+3*k+5<recursionLimit
 un:A.units+16*k+200<cLine
 gd:A.guards=some []
theorem aL.mono{j k:Nat}{A:A0}(r:aL k A)(h:j<=k):aL j A:=⟨r.hd,by have:=r.dp;omega,by have:=r.un;omega,r.gd⟩
theorem aL.deeper{k:Nat}{A:A0}(r:aL (k+1) A)(env:Env):aL k (A.deeper env):=
 ⟨r.hd,by have:=r.dp;show A.depth+1+3*k+5<_;omega,by have:=r.un;show A.units+3+16*k+200<_;omega,r.gd⟩
theorem aL.depth{k:Nat}{A:A0}(r:aL k A):A.depth<recursionLimit:=by have:=r.dp;omega
theorem aL.units{k:Nat}{A:A0}(r:aL k A):A.units+64<cLine:=by have:=r.un;omega
def ae0:TA:=λ_ H Q=>Q [] H
def abR(ta:TE)(tr:TA):TA:=λσ H Q=>ta σ H λx H1=>tr σ H1 λxs H2=>Q (x::xs) H2
section
variable{X:Cx}{e:Expr}{es:List Expr}{te:TE}{t:TA}{pos:Pos}
theorem ag:PA X [] ae0:=λ_ _ _ _ H Q I h=>El ⟨[],H,I,.nil,h⟩
theorem ae(ha:PE X e te)(hr:PA X es t)(hs:BO (e::es) X.env=(false,eval e X.env)::BO es X.env:=by rfl):PA X (e::es) (abR te t):=by
 intro pos pins s σ H Q I h
 rw[hs]
 show wpAny _ _ (spliced ((false,eval e X.env)::EH pos (BO es X.env))) _ _ s
 refine C_ (aK (ha pins s σ H _ I h) λu s1 ⟨x,H1,I1,r1,q1⟩=>?_)
 exact aK (hr pos pins s1 σ H1 _ I1 q1) λus s2 ⟨xs,H2,I2,r2,q2⟩=>⟨x::xs,H2,I2,.cons r1 r2,q2⟩
def ae1(t:TA):TE:=λσ H Q=>t σ H λxs H1=>xs.length<=sizeLine/\∀p,H1 p=none->Q (.ref p) (upd H1 p (.tup xs))
def ae2(t:TA):TE:=λσ H Q=>t σ H λxs H1=>xs.length<=sizeLine/\∀p,H1 p=none->Q (.ref p) (upd H1 p (.lst xs))
theorem bx{x1}(h:PA X es t):PE X (.Tuple es x1 pos) (ae1 t):=by
 intro pins s σ H Q I hq
 refine wpAny_Tuple_spliced (aK (h pos pins s σ H _ I hq) λus s1 ⟨xs,H1,I1,r,z,q⟩=>⟨by rw[<-r.length];exact z,?_⟩)
 have hf:H1 s1.heap.objs.size=none:=I1.hok.fresh (AK _)
 refine⟨.ref s1.heap.objs.size,upd H1 s1.heap.objs.size (.tup xs),I1.laid (t':=s1.toks) (λb u e=>AE _ e) (AK _) ?_,rfl,q _ hf⟩
 exact⟨⟨z,_,AO _ rfl,rfl⟩,us,r,⟨_,AO _ rfl,rfl,_,rfl⟩⟩
theorem eO(h:PA X es t):PE X (.List es pos) (ae2 t):=by
 intro pins s σ H Q I hq
 refine wpAny_List_spliced (aK (h pos pins s σ H _ I hq) λus s1 ⟨xs,H1,I1,r,z,q⟩=>⟨by rw[<-r.length];exact z,?_⟩)
 have hf:H1 s1.heap.objs.size=none:=I1.hok.fresh (AK _)
 refine⟨.ref s1.heap.objs.size,upd H1 s1.heap.objs.size (.lst xs),I1.laid (t':=s1.toks) (λb u e=>AE _ e) (AK _) ?_,rfl,q _ hf⟩
 exact⟨z,us,0,r,AO _ rfl⟩
end
abbrev Sp:=List V->Hp->VK->XK->Prop
abbrev ub:=List Env->Hp->AH->XK->Value->AH->Prop
structure rS (P:Af)(w:World)(K:AD)(mg:Str->Option Value)(base:Heap)(A:A0)(outer:List Env)(s:AH)(H:Hp):Prop where
 frames:A.frames=some outer
 mod:Mod K mg base
 bs:∀b o,base.get? b=some o->s.heap.get? b=some o/\H b=none
 pT:base.objs.size<=s.heap.objs.size
 iW:s.heap.FunFrames base outer
 wQ:∀b∈frs outer,H b=none
 hok:df P w H s.heap
 bare:GY s.gens
def CE(outer:List Env)(P:Af)(w:World)(H:Hp)(s:AH)(Q:VK)(u:Value)(s':AH):Prop:=
 ∃v H',s'.os=s.os/\GY s'.gens/\Un (frs outer) [] H H' s.heap s'.heap/\df P w H' s'.heap/\RelV v u/\Q v H'
def CR(CX:ub)(outer:List Env)(P:Af)(w:World)(H:Hp)(s:AH)(Q:VK)(E:XK)(r:JS)(s':AH):Prop:=
 match r with
 | .ok (.ret u)=>CE outer P w H s Q u s'
 | .ok _=>False
 | .error e=>CX outer H s E e s'
structure aR (P:Af)(w:World)(K:AD)(mg:Str->Option Value)(base:Heap)(CX:ub)(k:Nat)(f:Addr)(fd:Ay)(ps:List Str)(sp:Sp):Prop where
 len:∀vs H Q E,sp vs H Q E->vs.length=ps.length
 run:∀(A:A0) (outer:List Env) (s:AH) (H:Hp) (args:Args) (us:List Value) (vs:List V) (Q:VK) (E:XK),aL k A->rS P w K mg base A outer s H->JG s fd args (ps.zip us)->Vals vs us->sp vs H Q E->
  Em (model P w) A (.call (.ref f) args) (CR CX outer P w H s Q E) s
section
variable{X:Cx}{pins:List (Addr×Obj)}{σ:St}{H:Hp}{s s':AH}
theorem Inv.env0(I:Inv X pins σ H s):rS X.prog X.w X.K X.mg X.base X.A X.stack s H:=
 ⟨I.ok.frames,I.ok.mod,I.bs,A1 I.ok.pT I.sz,I.stack,I.ni,I.hok,I.bare⟩
theorem Inv.after{Q:VK}{u:Value}(I:Inv X pins σ H s)(h:CE X.stack X.prog X.w H s Q u s'):EP X pins σ Q u s':=by
 obtain⟨v,H',os,bare,un,hok,r,q⟩:=h
 obtain⟨hh,g,d,t,os'⟩:=s'
 obtain rfl:os'=s.os:=os
 exact⟨v,H',I.call (h':=hh) (g':=g) (d':=d) (t':=t) (ch:=[]) un hok bare (λb z=>absurd z (by simp)),r,q⟩
end
def abS(sp:Sp)(uc:List V)(E:XK)(t:TA):TE:=λσ H Q=>t σ H λvs H1=>sp (vs++uc) H1 Q E
def Binds(K:AD)(fd:Ay)(ps:List Str)(ds:List Value):Prop:=
 ∀(s:AH) (us:List Value),K.In s.heap->(us++ds).length=ps.length->JG s fd ⟨us,[]⟩ (ps.zip (us++ds))
theorem Binds.all{K:AD}{fd:Ay}{ps:List Str}(h:∀us:List Value,us.length=ps.length->G4 fd ⟨us,[]⟩=pure (ps.zip us)):Binds K fd ps []:=λs us _ hl=>by
 rw[Bg] at hl ⊢
 exact .of_eq (h us hl)
def Passes(CX:ub)(X:Cx)(E:XK):Prop:=∀(pins:List (Addr×Obj)) (σ:St) (H:Hp) (s:AH) (e:Value) (s':AH),Inv X pins σ H s->CX X.stack H s E e s'->X.xe e s'
section
variable{X:Cx}{CX:ub}{k:Nat}{f C:Addr}{fd:Ay}{ps:List Str}{sp:Sp}{uc:List V}{ds:List Value}{E:XK}{x m:Str}{p pos apos:Pos}{e o:Expr}{es:List Expr}{ta:TE}{t:TA}
theorem Pg{pins:List (Addr×Obj)}{σ:St}{H:Hp}{s:AH}{Q:VK}{us:List Value}{vs:List V}(F:aR X.prog X.w X.K X.mg X.base CX k f fd ps sp)(hr:aL k X.A)(hb:Binds X.K fd ps ds)(hd:Vals uc ds)(hx:Passes CX X E)
  (I:Inv X pins σ H s) (r:Vals vs us) (h:sp (vs++uc) H Q E):wpAny (model X.prog X.w) X.A (call (.ref f) us) (EP X pins σ Q) X.xe s:=by
 have r2:Vals (vs++uc) (us++ds):=r.append hd
 have hl:(us++ds).length=ps.length:=by rw[<-r2.length];exact F.len _ _ _ _ h
 refine Iv (Dd (F.run X.A X.stack s H ⟨us,[]⟩ (us++ds) (vs++uc) Q E hr I.env0 (hb s us I.gX hl) r2 h) λr s' hq=>?_)
 cases r with
 | error e=>exact hx pins σ H s e s' I hq
 | ok fl=>
  cases fl with
  | ret u=>exact I.after hq
  | next=>exact B9 hq
  | brk=>exact B9 hq
  | cont=>exact B9 hq
theorem aB(F:aR X.prog X.w X.K X.mg X.base CX k f fd ps sp)(hr:aL k X.A)(hg:Gl X x)(hm:X.mg x=some (.ref f))(hk:AL X.K (.ref f)=true)(hb:Binds X.K fd ps ds)(hd:Vals uc ds)(hx:Passes CX X E)
  (ha:PA X (e::es) t) (hdb:(x == ("__debug__":Str))=false:=by decide) (he:BO (e::es) X.env=(false,eval e X.env)::BO es X.env:=by rfl) (hpl:(EH pos (BO es X.env)).any (·.1)=false:=by rfl):
  PE X (.Call (.Name x p) (e::es) [] pos) (abS sp uc E t):=by
 intro pins s σ H Q I h
 refine CT (qH I hg hm ?_ hdb)
 refine Iw (h₀:=X.base) I.ok.mod.qZ hk (aK (ha pos pins s σ H _ I h) λus s1 ⟨vs,H1,I1,r,q⟩=>⟨I1.gX,?_⟩) he hpl
 exact Pg F hr hb hd hx I1 r q
end
structure aN (N P:List Str)(sc:Scope):Prop where
 kind:sc.kind=.function
 co:sc.isCoroutine=false
 gen:sc.isGenerator=false
 nd:N.Nodup
 pre:N.take P.length=P
 par:∀x∈P,sc.names.lookup x=some .local∨sc.names.lookup x=some .cell
 XC:∀y∈sc.names,y.2≠.free
theorem wY{kindOf:Str->Option Cz}{x:Str}:∀{binds:List (Str×Value)} {m:Str->Option Value},(∀v,(x,v) ∉ binds)->bindL kindOf binds m x=m x
 | [],_,_=>rfl
 | (n,v)::r,m,h=>by
  unfold bindL
  rw[wY λw hw=>h w (AM _ hw)]
  split
  ·have:x≠n:=by rintro rfl;exact h v AQ
   simp[this]
  ·rfl
theorem wZ{kindOf:Str->Option Cz}{x:Str}:∀{binds:List (Str×Value)} {m:Str->Option Value},(∀v,(x,v) ∉ binds)->bindC kindOf binds m x=m x
 | [],_,_=>rfl
 | (n,v)::r,m,h=>by
  unfold bindC
  rw[wZ λw hw=>h w (AM _ hw)]
  split
  ·rfl
  ·have:x≠n:=by rintro rfl;exact h v AQ
   simp[this]
theorem w_{kindOf:Str->Option Cz}{x:Str}{v:Value}:∀{P:List Str} {vs:List Value} {i:Nat} {m:Str->Option Value},P.Nodup->P[i]? =some x->vs[i]? =some v->kindOf x=some .local->
  bindL kindOf (P.zip vs) m x=some v
 | [],_,_,_,_,h,_,_=>by simp at h
 | _::_,[],_,_,_,_,h,_=>by simp at h
 | p::P,w::vs,0,m,nd,h1,h2,hk=>by
  simp at h1 h2;subst h1;subst h2
  show bindL kindOf ((p,w)::P.zip vs) m p=_
  unfold bindL
  rw[wY λv hv=>(B4.mp nd).1 (Cv hv).1,if_pos hk]
  simp
 | p::P,w::vs,i+1,m,nd,h1,h2,hk=>by
  show bindL kindOf ((p,w)::P.zip vs) m x=_
  unfold bindL
  exact w_ (i:=i) (B4.mp nd).2 (by simpa using h1) (by simpa using h2) hk
theorem p6{kindOf:Str->Option Cz}{x:Str}{v:Value}:∀{P:List Str} {vs:List Value} {i:Nat} {m:Str->Option Value},P.Nodup->P[i]? =some x->vs[i]? =some v->kindOf x≠some .local->
  bindC kindOf (P.zip vs) m x=some v
 | [],_,_,_,_,h,_,_=>by simp at h
 | _::_,[],_,_,_,_,h,_=>by simp at h
 | p::P,w::vs,0,m,nd,h1,h2,hk=>by
  simp at h1 h2;subst h1;subst h2
  show bindC kindOf ((p,w)::P.zip vs) m p=_
  unfold bindC
  rw[wZ λv hv=>(B4.mp nd).1 (Cv hv).1,if_neg hk]
  simp
 | p::P,w::vs,i+1,m,nd,h1,h2,hk=>by
  show bindC kindOf ((p,w)::P.zip vs) m x=_
  unfold bindC
  exact p6 (i:=i) (B4.mp nd).2 (by simpa using h1) (by simpa using h2) hk
def start(N:List Str)(vs:List V):St:=vs.map some++C' (N.length-vs.length) none
def kZ(CX:ub)(P:Af)(w:World)(K:AD)(mg:Str->Option Value)(base:Heap)(N:List Str)(qual:Str)(scope:Scope)(f:Addr)(cd:Value)(A:A0)(outer:List Env)(s:AH)(H:Hp)(E:XK):Cx where
 prog:=P
 w:=w
 K:=K
 mg:=mg
 base:=base
 A:=A.deeper (Fe qual scope s.heap.objs.size f cd)
 N:=N
 s₀:=s
 H₀:=H
 env:=Fe qual scope s.heap.objs.size f cd
 outer:=outer
 stack:=Fe qual scope s.heap.objs.size f cd::outer
 ex:=[]
 calm:=true
 fn:=λ_=>true
 pn:=[]
 xe:=λe s'=>wpAny (model P w) (A.deeper (Fe qual scope s.heap.objs.size f cd)) (leaving (Fe qual scope s.heap.objs.size f cd) e) (λ_ s''=>CX outer H s E e s'') (λe' s''=>CX outer H s E e' s'') s'
theorem eY{sc:Scope}{n:Nat}{x:Str}(h:sc.names.lookup x=some .cell):∃c,(cellsFrom n sc.names []).lookup x=some c:=by
 have q:=Eo sc.names n [] (.inl h)
 exact EM.mp q
theorem xa{CX:ub}{P:Af}{w:World}{K:AD}{mg:Str->Option Value}{base:Heap}{N ps:List Str}{qual:Str}{scope:Scope}{f:Addr}{cd:Value}{A:A0}{outer:List Env}{s s1:AH}{H:Hp}{E:XK}{us:List Value}{vs:List V}
  (S:aN N ps scope) (hd:A.handled=none) (e0:rS P w K mg base A outer s H) (hl:vs.length=ps.length) (r:Vals vs us)
  (x:IQ s s.heap.objs.size (bindL (Fe qual scope s.heap.objs.size f cd).kindOf (ps.zip us) λ_=>none) (cellsFrom (s.heap.objs.size+1) scope.names []) (bindC (Fe qual scope s.heap.objs.size f cd).kindOf (ps.zip us) λ_=>none) s1):
  Inv (kZ CX P w K mg base N qual scope f cd A outer s H E) [] (start N vs) H s1:=by
 have hpl:ps.length<=N.length:=by have:=congrArg JV S.pre;rw[Az] at this;omega
 obtain⟨h1,tk,rfl,hk⟩:=x.done
 have mz:∀b:Addr,b ∉ (kZ CX P w K mg base N qual scope f cd A outer s H E).ex:=λb z=>absurd (show b∈([]:List Addr) from z) (by simp)
 refine⟨⟨e0.mod,S.kind,rfl,rfl,AK _,λy z c h1 h2=>?_,λy hy=>?_,λy c _ h=>?_,λ_=>hd,FW e0.frames,.inr ⟨rfl,rfl⟩,λb z=>absurd z (mz b),e0.bs,e0.pT,λb _ _=>mz b,λb z=>absurd z (mz b),e0.iW,e0.wQ⟩,
  rfl,e0.bare,Un.kept hk,⟨_,x.toInCall.ns,λi y v h1 h2 h3=>?_⟩,λy c h=>⟨_,x.cell y c h⟩,e0.hok.fresh (AK _),λy c h=>?_,λp hp=>absurd (show p∈([]:List (Addr×Obj)) from hp) (by simp),e0.hok.kept hk,?_⟩
 ·exact name_of_addr x.apart (A9 h1) (A9 h2)
 ·have hy:scope.names.lookup y=some .cell∨scope.names.lookup y=some .free:=hy
  rcases hy with hy | hy
  ·exact eY hy
  ·exact absurd rfl (S.XC _ (A9 hy))
 ·exact CZ (x.above y c (A9 h))
 ·have hi:i<vs.length:=by
   unfold start at h2
   by_cases hi:i<vs.length
   ·exact hi
   ·rw[Ag (by simpa using hi)] at h2
    rw[G5] at h2
    split at h2<;>cases h2
  have ha:vs[i]? =some v:=by
   unfold start at h2
   rw[Am (by simpa using hi),AJ] at h2
   cases e:vs[i]? with
   | none=>rw[e] at h2;cases h2
   | some a=>rw[e] at h2;cases h2;rfl
  obtain⟨u,hu,rv⟩:=r.get ha
  have hp:ps[i]? =some y:=by
   rw[<-S.pre,EN (by omega)];exact h1
  have Mc:ps.Nodup:=by rw[<-S.pre];exact S.nd.sublist (List.take_sublist _ _)
  refine⟨u,rv,?_⟩
  rcases S.par y (AI hp) with k | k
  ·exact .inl ⟨k,w_ Mc hp hu k⟩
  ·obtain⟨c,e⟩:=eY (n:=s.heap.objs.size+1) k
   refine .inr ⟨.inl k,c,e,?_⟩
   have q:=x.cell y c e
   rw[p6 Mc hp hu (by show scope.names.lookup y≠_;rw[k];decide)] at q
   exact q
 ·exact e0.hok.fresh (CZ (x.above y c (A9 h)))
 ·unfold start
  show _=N.length
  rw[AR,AB,FC]
  omega
theorem UA{CX:ub}{P:Af}{w:World}{K:AD}{mg:Str->Option Value}{base:Heap}{k:Nat}{f:Addr}{name qual:Str}{params:Dn}{body:List Stmt}{scope:Scope}{dV kV doc pm cdv ct oc:Value}{an od:Option Addr}
  {osl:Array (Option Value)} {N ps:List Str} {sp:Sp} (lk:K.lookup f=some ⟨oc,od,.func (Aa name qual params body scope dV kV doc pm an cdv ct),osl⟩) (hcd:Ab K cdv qual=true) (S:aN N ps scope)
  (len:∀vs H Q E,sp vs H Q E->vs.length=ps.length)
  (hbody:∀(A:A0) (outer:List Env) (s:AH) (H:Hp) (vs:List V) (Q:VK) (E:XK),aL k (A.deeper (Fe qual scope s.heap.objs.size f cdv))->sp vs H Q E->
   ∃t,mx (kZ CX P w K mg base N qual scope f cdv A outer s H E) body t/\t {nx:=λ_ H'=>Q .non H',rt:=Q} (start N vs) H):
  aR P w K mg base CX (k+1) f (Aa name qual params body scope dV kV doc pm an cdv ct) ps sp:=by
 refine⟨len,λA outer s H args us vs Q E hr e0 hb r hsp=>?_⟩
 have hl:=len _ _ _ _ hsp
 have KX:K.In s.heap:=e0.mod.qZ.keeps λb o e=>(e0.bs b o e).1
 have lim:s.heap.NoLimit:=e0.mod.nolimit.keeps λb o e=>(e0.bs b o e).1
 have hkind:∀y∈ps.zip us,scope.names.lookup y.1=some .local∨(scope.names.lookup y.1=some .cell/\((cellsFrom (s.heap.objs.size+1) scope.names []).lookup y.1).isSome=true):=λ⟨n,v⟩ hy=>by
  rcases S.par n (Cv hy).1 with q | q
  ·exact .inl q
  ·exact .inr ⟨q,Eo _ _ _ (.inl q)⟩
 refine codeAny_call_function hr.depth (KX _ _ lk) rfl S.co S.gen rfl (Iy KX hcd) (hb _ _ _ _ ?_)
 refine GA S.kind hkind λenv he s1 x=>?_
 subst he
 refine⟨lim.keeps x.toInCall.keep,codeAny_func ?_⟩
 obtain⟨t,ht,hq⟩:=hbody A outer s H vs Q E (hr.deeper _) hsp
 have I:Inv (kZ CX P w K mg base N qual scope f cdv A outer s H E) [] (start N vs) H s1:=xa S hr.hd e0 hl r x
 refine CC (ht [] s1 (start N vs) H _ I hq) (λfl s' hs=>?_) λe s' hs=>hs
 have fin:∀{σ':St} {H':Hp} {v:V} {u:Value},Inv (kZ CX P w K mg base N qual scope f cdv A outer s H E) [] σ' H' s'->RelV v u->Q v H'->CE outer P w H s Q u s':=
  λ{σ' H' v u} J rv q=>⟨v,H',J.os,J.bare,J.base,J.hok,rv,q⟩
 cases fl with
 | ret u=>
  obtain⟨v,σ',H',J,rv,q⟩:=hs
  exact fin J rv q
 | next=>
  obtain⟨σ',H',J,q⟩:=hs
  exact fin (v:=V.non) (u:=CB) J rfl q
 | brk=>
  obtain⟨_,_,_,q⟩:=hs
  exact B9 q
 | cont=>
  obtain⟨_,_,_,q⟩:=hs
  exact B9 q
section
variable{X:Cx}{x:Str}{p pos:Pos}{e:Expr}{es:List Expr}{t:TA}{id T:String}{r:List V->Hp->VK->Prop}
def tCB(r:List V->Hp->VK->Prop)(t:TA):TE:=λσ H Q=>t σ H λvs H1=>r vs H1 Q
theorem aQ(hc:cK X (.builtin id) r)(hg:Gl X x)(hm:X.mg x=none)(hv:Bj x=some (.builtin id))(ha:PA X (e::es) t)(hn:x≠"__name__":=by decide)(hdb:(x == ("__debug__":Str))=false:=by decide)
  (he:BO (e::es) X.env=(false,eval e X.env)::BO es X.env:=by rfl) (hpl:(EH pos (BO es X.env)).any (·.1)=false:=by rfl):PE X (.Call (.Name x p) (e::es) [] pos) (tCB r t):=by
 intro pins s σ H Q I h
 refine CT (gY I hg hm hv ?_ hn hdb)
 exact PyProof.Rows.callWith_builtin1 (aK (ha pos pins s σ H _ I h) λus s1 ⟨vs,H1,I1,r1,q1⟩=>hc pins s1 σ H1 vs us Q I1 r1 q1) he hpl
theorem bD(hc:cK X (.type T) r)(hg:Gl X x)(hm:X.mg x=none)(hv:Bj x=some (.type T))(ha:PA X (e::es) t)(hn:x≠"__name__":=by decide)(hdb:(x == ("__debug__":Str))=false:=by decide)
  (he:BO (e::es) X.env=(false,eval e X.env)::BO es X.env:=by rfl) (hpl:(EH pos (BO es X.env)).any (·.1)=false:=by rfl):PE X (.Call (.Name x p) (e::es) [] pos) (tCB r t):=by
 intro pins s σ H Q I h
 refine CT (gY I hg hm hv ?_ hn hdb)
 exact Bd (aK (ha pos pins s σ H _ I h) λus s1 ⟨vs,H1,I1,r1,q1⟩=>hc pins s1 σ H1 vs us Q I1 r1 q1) he hpl
end
end L2
namespace HT
open PySem PyProof.Rows
def lexLt:List Int->List Int->Bool
 | [],[]=>false
 | [],_::_=>true
 | _::_,[]=>false
 | x::xs,y::ys=>if x=y then lexLt xs ys else decide (x<y)
theorem Nv(x y:Int)(xs ys:List Int):lexLt (x::xs) (y::ys)=if x=y then lexLt xs ys else decide (x<y):=rfl
theorem yh:lexLt [] []=false:=rfl
theorem vg(y:Int)(ys:List Int):lexLt [] (y::ys)=true:=rfl
theorem vh(x:Int)(xs:List Int):lexLt (x::xs) []=false:=rfl
theorem zv(A:A0)(s:AH)(a:Int)(t:Tok)(c:Int)(u:Tok):∃e,CD A s (.int a t) (.int c u) e/\(e=true↔a=c):=
 ⟨(a == c),Iz a t c u,by simp⟩
theorem Sd(A:A0)(s:AH)(a:Int)(t:Tok)(c:Int)(u:Tok)(prog:Af)(w:World)(E:Value->AH->Prop)(Q:Value->AH->Prop)(h:Q (.bool (decide (a<c))) s):
  wpAny (model prog w) A (richCompare .Lt (.int a t) (.int c u)) Q E s:=
 (PyProof.Rows.lt_int h:wpAny (model prog w) A (Bl .Lt (.int a t) (.int c u)) Q E s)
section
open PySem.SeqAt
open PySem.AutoSeq1 (wpAny_loadPart')
open PySem.MeetsSeq PySem.MeetsSeq2 PySem.MeetsSeq3
theorem yi(l b:Addr)(items items2:Array Value)(n n2:Nat)(dd dd2:Option Addr)(sl sl2:Array (Option Value))(ns ms:List Int)(hi:C2 items.toList ns)(hj:C2 items2.toList ms):
  Meets (Builtin.«tuple.__lt__» ⟨[.ref l,.ref b],[]⟩)
   (λ_ R s=>s.heap.get? l=some {cls:=.type "tuple",dict:=dd,data:=.seq items n,slots:=sl}/\s.heap.get? b=some {cls:=.type "tuple",dict:=dd2,data:=.seq items2 n2,slots:=sl2}/\
    R (.ok (.ret (.bool (lexLt ns ms)))) s):=
 .of_wp λprog w A R s h=>by
  obtain⟨hp,g,d,tk,os⟩:=s;obtain⟨hl,hb,h⟩:=h
  have f2:=Gq
  have z1:items.size=ns.length:=by rw[<-hi.length];simp
  have z2:items2.size=ms.length:=by rw[<-hj.length];simp
  wp_walk using wpAny_loadPart' hl,wpAny_loadPart' hb,D_ _ (λrest b s'=>b.1=none/\s'=⟨hp,g,d,tk,os⟩/\∃(vs ws:List Value) (ns' dE:List Int),rest=vs.zip ws/\
   C2 vs ns'/\C2 ws dE/\ns'.length+items2.size=dE.length+items.size/\R (.ok (.ret (.bool (lexLt ns' dE)))) ⟨hp,g,d,tk,os⟩) _
  case turn=>
   rintro⟨y,x⟩ rest b s' ⟨hb',rfl,vs,ws,ns',dE,hz,XD,hwi,hlen,hR⟩
   cases XD with
   | nil=>rw[List.zip_nil_left] at hz;cases hz
   | cons a t ae3=>
    cases hwi with
    | nil=>rw[List.zip_nil_right] at hz;cases hz
    | cons c u ae4=>
     rw[List.zip_cons_cons] at hz
     injection hz with hyx hrest
     injection hyx with hy hx
     subst hy hx
     rw[Nv] at hR
     simp only[Aj] at hlen
     obtain⟨e,he,hiff⟩:=zv A.in1 ⟨hp,g,d,tk,os⟩ a t c u
     refine AA (he prog w _ _ ?_)
     cases e with
     | true=>
      rw[if_pos (hiff.mp rfl)] at hR
      wp_walk
      exact⟨rfl,rfl,_,_,_,_,hrest,ae3,ae4,by omega,hR⟩
     | false=>
      rw[if_neg (λq=>absurd (hiff.mpr q) An)] at hR
      have hri:=Sd A.in1 ⟨hp,g,d,tk,os⟩ a t c u prog w
      wp_walk using hri
      exact⟨_,rfl,by simpa using hR⟩
  case fin=>
   rintro⟨b1,b2⟩ s' ⟨hb',rfl,vs,ws,ns',dE,hz,XD,hwi,hlen,hR⟩
   simp only at hb'
   subst hb'
   have hv:lexLt ns' dE=decide (items.size<items2.size):=by
    cases XD with
    | nil=>
     cases hwi with
     | nil=>
      simp only[B5] at hlen
      rw[yh]
      exact(decide_eq_false (by omega)).symm
     | cons c u hw=>
      simp only[B5,Aj] at hlen
      rw[vg]
      exact(decide_eq_true (by omega)).symm
    | cons a t hv=>
     cases hwi with
     | nil=>
      simp only[B5,Aj] at hlen
      rw[vh]
      exact(decide_eq_false (by omega)).symm
     | cons c u hw=>
      rw[List.zip_cons_cons] at hz
      cases hz
   rw[hv] at hR
   wp_walk
   exact⟨_,rfl,by simpa[Builtin.Tuple.tupleCompareSizes] using hR⟩
  case h=>
   exact⟨rfl,rfl,items.toList,items2.toList,ns,ms,rfl,hi,hj,by omega,h⟩
end
section
variable{prog:Af}{w:World}{A:A0}{E:Value->AH->Prop}{s:AH}
theorem Nw{l b:Addr}{items items2:Array Value}{ns ms:List Int}{Q:Value->AH->Prop}(hl:IsTup s.heap l items)(hb:IsTup s.heap b items2)(hi:C2 items.toList ns)(hj:C2 items2.toList ms)
  (hu:A.units<cLine) (h:Q (.bool (lexLt ns ms)) s):wpAny (model prog w) A (Bl .Lt (.ref l) (.ref b)) Q E s:=by
 obtain⟨⟨cls,dd,data,sl⟩,ho,hc,n,hd⟩:=id hl
 obtain⟨⟨cls2,dd2,data2,sl2⟩,ho2,hc2,n2,hd2⟩:=id hb
 simp only at hc hd hc2 hd2
 subst hc hd hc2 hd2
 exact richCompare_meets_room (op:=.Lt) ⟨_,ho,rfl⟩ ⟨_,ho2,rfl⟩ PySem.F.slot_tuple_lt PySem.F.entry_tuple_lt (PySem.F.args_tuple_lt_2 _ _) (yi l b items items2 n n2 dd dd2 sl sl2 ns ms hi hj)
  ⟨ho,ho2,show Fu (lexLt ns ms)≠Value.notImplemented/\Q (.bool (lexLt ns ms)) s from⟨(λx=>nomatch x),h⟩⟩ hu
theorem Wa{t b:Addr}{vs ws:List Value}{Q:Value->AH->Prop}(ht:IsTup s.heap t vs.toArray)(hb:IsTup s.heap b ws.toArray)(hv:vs≠[])
  (h1:ws=[]->Q (.ref t) s) (h2:ws≠[]->Q (.ref s.heap.objs.size) {s with heap:=s.heap.push {cls:=.type "tuple",data:=.seq (vs++ws).toArray}})
  (hsz:vs.length+ws.length<=sizeLine):wpAny (model prog w) A (DL .Add (.ref t) (.ref b)) Q E s:=by
 obtain⟨⟨cls,dd,data,sl⟩,ho,hc,n,hd⟩:=id ht
 obtain⟨⟨cls2,dd2,data2,sl2⟩,ho2,hc2,n2,hd2⟩:=id hb
 simp only at hc hd hc2 hd2
 subst hc hd hc2 hd2
 have e:vs.toArray++ws.toArray=(vs++ws).toArray:=by simp
 by_cases hw:ws=[]
 ·exact concat_meets ⟨_,ho,rfl⟩ ⟨_,ho2,rfl⟩ G6 Ig Ep Eg (EO _ _)
   (tuple_addW1 t b vs.toArray ws.toArray n n2 dd dd2 sl sl2 (by simpa using hv) (by simp[hw])) ⟨ho,ho2,h1 hw⟩
 ·refine concat_meets ⟨_,ho,rfl⟩ ⟨_,ho2,rfl⟩ G6 Ig Ep Eg (EO _ _)
   (tuple_addW2 t b vs.toArray ws.toArray n n2 dd dd2 sl sl2 (by simpa using hv) (by simpa using hw) (by rw[AY,AY];exact hsz)) ⟨ho,ho2,?_⟩
  rw[e]
  exact h2 hw
def bo(n d:Nat):Option Int->Nat
 | none=>d
 | some v=>if v<0 then(v+(n:Int)).toNat else min v.toNat n
theorem vj(n d k:Nat):bo n d (some (k:Int))=min k n:=by
 show(if(k:Int)<0 then((k:Int)+(n:Int)).toNat else min (k:Int).toNat n)=min k n
 rw[if_neg (by omega),Ae]
theorem XE(n d:Nat)(hd:d<=n)(o:Option Int):bo n d o<=n:=by
 cases o with
 | none=>exact hd
 | some v=>
  show(if v<0 then(v+(n:Int)).toNat else min v.toNat n)<=n
  by_cases hv:v<0
  ·rw[if_pos hv];omega
  ·rw[if_neg hv];exact Nat.min_le_right _ _
theorem Md(v:Int)(n d:Nat):(if v<0 then max (v+(n:Int)) 0 else min v (n:Int))=((bo n d (some v):Nat):Int):=by
 show(if v<0 then max (v+(n:Int)) 0 else min v (n:Int))=(((if v<0 then(v+(n:Int)).toNat else min v.toNat n):Nat):Int)
 by_cases hv:v<0
 ·simp only[if_pos hv];omega
 ·simp only[if_neg hv];omega
theorem Nx(lo hi:Option Int)(n:Nat):CJ lo hi 1 (n:Int)=(((bo n 0 lo:Nat):Int),((bo n n hi:Nat):Int)):=by
 have h1:¬((1:Int)<0):=by omega
 unfold CJ
 simp only[h1,if_false]
 refine Prod.ext ?_ ?_
 ·cases lo with
  | none=>rfl
  | some v=>exact Md v n 0
 ·cases hi with
  | none=>rfl
  | some v=>exact Md v n n
theorem Ny(i j:Nat):Bo (i:Int) (j:Int) 1=j-i:=by
 unfold Bo
 have h1:(1:Int)>0:=by omega
 simp only[h1,if_true,Int.ediv_one]
 split<;>omega
theorem ud{v:Value}{o:Option Int}{Q:Option Int->AH->Prop}(p:HJ v o)(h:Q o s):wpAny (model prog w) A (Builtin.Slice.slicePartIndex v) Q E s:=by
 cases p with
 | none=>exact GB h
 | int i t=>exact slicePart_int h
theorem k_{sl:Addr}{vl vu:Value}{lo hi:Option Int}{n:Nat}{Q:Int×Int×Nat->AH->Prop}(hs:s.heap.IsSliceOf sl vl vu .none)(pl:HJ vl lo)(pu:HJ vu hi)
  (h:Q (((bo n 0 lo:Nat):Int),1,bo n n hi-bo n 0 lo) s):wpAny (model prog w) A (DA (.ref sl) (pure (n:Int))) Q E s:=by
 obtain⟨os,hos,hcs,hds⟩:=id hs
 unfold DA GR
 refine AA (AA (B2 hos hds (x:=vl) rfl (AA (B2 hos hds (x:=vu) rfl (AA (B2 hos hds (x:=.none) rfl (AG ?_)))))))
 refine AA (GB ?_)
 show wpAny _ _ (if((1:Int) == 0)=true then _ else _) _ _ s
 rw[if_neg (by decide)]
 refine AA (ud pl (AA (ud pu (AA (AG ?_)))))
 show wpAny _ _ (match CJ lo hi 1 (n:Int) with | (lo,hi)=>pure (lo,(1:Int),Bo lo hi 1)) _ _ s
 rw[Nx lo hi n]
 show wpAny _ _ (pure (((bo n 0 lo:Nat):Int),(1:Int),Bo ((bo n 0 lo:Nat):Int) ((bo n n hi:Nat):Int) 1)) _ _ s
 rw[Ny]
 exact AG h
theorem Se(xs:Array Value)(i k:Nat):((Ao k).filterMap λ(m:Nat)=>xs[((i:Int)+(m:Int)*1).toNat]?).toArray=((xs.toList.drop i).take k).toArray:=by
 have e:(λ(m:Nat)=>xs[((i:Int)+(m:Int)*1).toNat]?)=λm=>xs[i+m]? :=by
  funext m
  have:((i:Int)+(m:Int)*1).toNat=i+m:=by omega
  rw[this]
 rw[e]
 have:=pick_run xs i k
 rw[GC] at this
 have e2:((λx=>xs[x]?)∘λx=>i+x)=λm=>xs[i+m]? :=rfl
 rw[e2] at this
 rw[this]
theorem qT{t sl:Addr}{items:Array Value}{vl vu:Value}{lo hi:Option Int}{Q:Value->AH->Prop}(ht:IsTup s.heap t items)(hs:s.heap.IsSliceOf sl vl vu .none)(pl:HJ vl lo)(pu:HJ vu hi)
  (hw:¬(bo items.size 0 lo=0/\bo items.size items.size hi=items.size))
  (h:Q (.ref s.heap.objs.size) {s with heap:=s.heap.push {cls:=.type "tuple",data:=.seq ((items.toList.drop (bo items.size 0 lo)).take (bo items.size items.size hi-bo items.size 0 lo)).toArray}})
  (hsz:items.size<=sizeLine):wpAny (model prog w) A (EV (.ref t) (.ref sl)) Q E s:=by
 have za:sizeOk (.seq ((items.toList.drop (bo items.size 0 lo)).take (bo items.size items.size hi-bo items.size 0 lo)).toArray):=by
  show((items.toList.drop (bo items.size 0 lo)).take (bo items.size items.size hi-bo items.size 0 lo)).toArray.size<=sizeLine
  rw[AY,Az,CG,Au]
  omega
 have hj:bo items.size items.size hi<=items.size:=XE _ _ (AK _) hi
 obtain⟨os,hos,hcs,hds⟩:=id hs
 have hTs:s.TypeIs (.ref sl) "slice":=⟨os,hos,hcs⟩
 unfold EV
 try with_reducible refine BE ?_
 first | refine AA (AG ?_) | skip
 refine AA (Ga ht.typeIs (by decide) ?_)
 refine AA (BF (name:=CH "__getitem__") ht.typeIs BM
  (BK BM ht.typeIs Fl ?_ (GD _ _)))
 show wpAny _ _ (DB (.ref t) >>= _) _ _ s
 refine AA (Ih ht ?_)
 refine AA (Cm hTs ?_)
 rw[if_pos (by decide)]
 refine AA (k_ hs pl pu ?_)
 have hno:¬((((bo items.size 0 lo:Nat):Int) == 0&&(1:Int) == 1&&(bo items.size items.size hi-bo items.size 0 lo) == items.size)=true):=by
  intro q
  rw[Bz,Bz] at q
  have q1:((bo items.size 0 lo:Nat):Int)=0:=eq_of_beq q.1.1
  have q2:bo items.size items.size hi-bo items.size 0 lo=items.size:=eq_of_beq q.2
  exact hw ⟨by omega,by omega⟩
 show wpAny _ _ (if(((bo items.size 0 lo:Nat):Int) == 0&&(1:Int) == 1&&(bo items.size items.size hi-bo items.size 0 lo) == items.size)=true then _ else _) _ _ s
 rw[if_neg hno,Se]
 first
  | exact AA (m:=Bq _) (BJ (AG ⟨_,rfl,AG h⟩) za)
  | exact AA (m:=Bq _) (BJ (AA (AG (AG ⟨_,rfl,AG h⟩))) za)
  | exact AA (AA (m:=Bq _) (BJ (AG (AG ⟨_,rfl,AG h⟩)) za))
  | exact AA (AA (m:=Bq _) (BJ (AG ⟨_,rfl,AG h⟩) za))
end
end HT
namespace L2
open PySem PySem.Spec PyProof.Rows
abbrev TO:=St->Hp->(Option Int->Hp->Prop)->Prop
def PO(X:Cx)(e:Option Expr)(t:TO):Prop:=
 ∀(pins:List (Addr×Obj)) (s:AH) (σ:St) (H:Hp) (Q:Option Int->Hp->Prop),Inv X pins σ H s->t σ H Q->
  wpAny (model X.prog X.w) X.A (evalPart e X.env) (λu s'=>∃o H',Inv X pins σ H' s'/\HJ u o/\Q o H') X.xe s
def Me:TO:=λ_ H Q=>Q none H
def abT(t:TE):TO:=λσ H Q=>t σ H λx H1=>∃i,x=.int i/\Q (some i) H1
theorem intsAre_of{ns:List Int}:∀{us:List Value},Vals (ns.map V.int) us->C2 us ns:=by
 induction ns with
 | nil=>intro us r;rw[HK] at r;cases r;exact .nil
 | cons n ns ih=>
  intro us r
  rw[Aw] at r
  cases r with
  | cons r1 r2=>
   obtain⟨t,e⟩:=r1
   subst e
   exact .cons n t (ih r2)
section
variable{X:Cx}{e:Expr}{te:TE}{lo hi:Option Expr}{tl th:TO}{pos p2:Pos}
theorem fX:PO X none Me:=by
 intro pins s σ H Q I h
 rw[evalPart_none]
 exact AG ⟨none,H,I,.none,h⟩
theorem iL(h:PE X e te):PO X (some e) (abT te):=by
 intro pins s σ H Q I hw
 rw[evalPart_some]
 refine aK (h pins s σ H _ I hw) λu s1 ⟨x,H1,I1,r1,q1⟩=>?_
 obtain⟨i,rfl,q⟩:=q1
 obtain⟨t,rfl⟩:=r1
 exact⟨some i,H1,I1,.int i t,q⟩
def Ph(X:Cx)(r:V->Option Int->Option Int->Hp->VK->Prop):Prop:=
 ∀(pins:List (Addr×Obj)) (s:AH) (σ:St) (H:Hp) (x:V) (v vl vu:Value) (lo hi:Option Int) (sl:Addr) (Q:VK),Inv X pins σ H s->RelV x v->s.heap.IsSliceOf sl vl vu .none->HJ vl lo->HJ vu hi->r x lo hi H Q->
  ∃T id,HL (.type T) "__getitem__"=pure (some (.builtin id))/\s.TypeIs v T/\wpAny (model X.prog X.w) X.A (EV v (.ref sl)) (EP X pins σ Q) X.xe s
def tSl(r:V->Option Int->Option Int->Hp->VK->Prop)(te:TE)(tl th:TO):TE:=λσ H Q=>te σ H λx H1=>tl σ H1 λl H2=>th σ H2 λu H3=>r x l u H3 Q
theorem jm{r:V->Option Int->Option Int->Hp->VK->Prop}(hr:Ph X r)(he:PE X e te)(hl:PO X lo tl)(hu:PO X hi th):PE X (.Subscript e (.Slice lo hi none p2) pos) (tSl r te tl th):=by
 intro pins s σ H Q I h
 refine HM (aK (he pins s σ H _ I h) λv s1 ⟨x,H1,I1,r1,q1⟩=>?_)
 refine wpAny_Slice (aK (hl pins s1 σ H1 _ I1 q1) λvl s2 ⟨l,H2,I2,pl,q2⟩=>aK (hu pins s2 σ H2 _ I2 q2) λvu s3 ⟨u,H3,I3,pu,q3⟩=>?_)
 rw[evalPart_none]
 refine AG ?_
 have I4:Inv X pins σ H3 {s3 with heap:=s3.heap.push {cls:=.type "slice",data:=.fields #[vl,vu,.none]}}:=I3.kept (t':=s3.toks) λb ob q=>AE _ q
 obtain⟨T,id,hT,ht,hg⟩:=hr pins {s3 with heap:=s3.heap.push {cls:=.type "slice",data:=.fields #[vl,vu,.none]}} σ H3 x v vl vu l u s3.heap.objs.size Q I4 r1 (GF ..) pl pu q3
 show wpAny (model X.prog X.w) X.A (FQ e (.Slice lo hi none p2) v (.ref s3.heap.objs.size)) (EP X pins σ Q) X.xe {s3 with heap:=s3.heap.push {cls:=.type "slice",data:=.fields #[vl,vu,.none]}}
 exact tail_any (ops:=[.ref s3.heap.objs.size,v]) ht hT hg (by with_unfolding_all rfl)
def gc(xs:List V)(lo hi:Option Int):List V:=(xs.drop (HT.bo xs.length 0 lo)).take (HT.bo xs.length xs.length hi-HT.bo xs.length 0 lo)
theorem rb(xs:List V)(lo hi:Option Int):(gc xs lo hi).length<=xs.length:=by
 unfold gc
 rw[Az,CG]
 omega
def ae5(K:AD):V->Option Int->Option Int->Hp->VK->Prop:=λx lo hi H Q=>∃a xs,x=.ref a/\aY K H a xs/\
 ¬(HT.bo xs.length 0 lo=0/\HT.bo xs.length xs.length hi=xs.length)/\∀p,H p=none->Q (.ref p) (upd H p (.tup (gc xs lo hi)))
theorem XF:Ph X (ae5 X.K):=by
 intro pins s σ H x v vl vu lo hi sl Q I rx hs pl pu h
 obtain⟨a,xs,rfl,hx,hw,q⟩:=h
 cases rx
 obtain⟨its,r,ht,hz⟩:=I.tuple hx
 have hlen:its.toArray.size=xs.length:=by rw[AY];exact r.length.symm
 refine⟨"tuple",_,BM.lookup,ht.typeIs,?_⟩
 refine HT.qT ht hs pl pu (by rw[hlen];exact hw) ?_ (by rw[hlen];exact hz)
 rw[hlen]
 refine⟨.ref s.heap.objs.size,_,I.laid (t':=s.toks) (o:=.tup (gc xs lo hi)) (λb ob q=>AE _ q) (AK _) ?_,rfl,q _ (I.hok.fresh (AK _))⟩
 exact⟨⟨A1 (rb xs lo hi) hz,_,AO _ rfl,rfl⟩,_,(r.drop (HT.bo xs.length 0 lo)).take (HT.bo xs.length xs.length hi-HT.bo xs.length 0 lo),JT _ _⟩
def abU(K:AD):R2:=λx y H Q=>∃a b xs ys,x=.ref a/\y=.ref b/\aY K H a xs/\aY K H b ys/\xs≠[]/\xs.length+ys.length<=sizeLine/\
 (ys=[]->Q (.ref a) H)/\(ys≠[]->∀p,H p=none->Q (.ref p) (upd H p (.tup (xs++ys))))
theorem Vals.vm{xs:List V}{us:List Value}(r:Vals xs us):us=[]↔xs=[]:=by
 cases r with
 | nil=>simp
 | cons _ _=>simp
theorem Mf:cL X (DL .Add) (abU X.K):=by
 intro pins s σ H x y v u Q I rx ry h
 obtain⟨a,b,xs,ys,rfl,rfl,ha,hb,hx,hz,q1,q2⟩:=h
 cases rx
 cases ry
 obtain⟨its,r1,p1,_⟩:=I.tuple ha
 obtain⟨its2,r2,p2,_⟩:=I.tuple hb
 refine HT.Wa p1 p2 (λz=>hx (r1.vm.mp z)) (λz=>⟨.ref a,H,I,rfl,q1 (r2.vm.mp z)⟩) (λz=>?_) (by rw[<-r1.length,<-r2.length];exact hz)
 refine⟨.ref s.heap.objs.size,_,I.laid (t':=s.toks) (o:=.tup (xs++ys)) (λb ob q=>AE _ q) (AK _) ?_,rfl,q2 (λw=>z (r2.vm.mpr w)) _ (I.hok.fresh (AK _))⟩
 exact⟨⟨by rw[AR];exact hz,_,AO _ rfl,rfl⟩,_,r1.append r2,JT _ _⟩
end
def pF(n:Nat)(i:Int):Option Nat:=if 0<=i then(if i<n then some i.toNat else none) else if-(n:Int)<=i then some (i+n).toNat else none
def uf{α:Type}(xs:List α)(i:Int):Option α:=(pF xs.length i).bind λj=>xs[j]?
theorem vn{n:Nat}{i:Int}{j:Nat}(h:pF n i=some j):seqIndex? i n=some j/\j<n/\ -(n:Int)<=i/\i<n:=by
 unfold pF at h
 by_cases h0:0<=i
 ·rw[if_pos h0] at h
  by_cases h1:i<n
  ·rw[if_pos h1] at h
   have e:i.toNat=j:=AN h
   exact⟨by rw[seqIndex_of h0 h1,e],by omega,by omega,h1⟩
  ·rw[if_neg h1] at h;cases h
 ·rw[if_neg h0] at h
  by_cases h1: -(n:Int)<=i
  ·rw[if_pos h1] at h
   have e:(i+n).toNat=j:=AN h
   exact⟨by rw[seqIndex_neg (by omega) h1,e],by omega,h1,by omega⟩
  ·rw[if_neg h1] at h;cases h
theorem Mg{α:Type}{xs:List α}{i:Int}{v:α}(h:uf xs i=some v):∃j,seqIndex? i xs.length=some j/\xs[j]? =some v/\j<xs.length/\ -(xs.length:Int)<=i/\i<xs.length:=by
 unfold uf at h
 cases e:pF xs.length i with
 | none=>rw[e] at h;cases h
 | some j=>
  rw[e] at h
  obtain⟨h1,h2,h3,h4⟩:=vn e
  exact⟨j,h1,h,h2,h3,h4⟩
theorem ao{α:Type}{xs:List α}{j:Nat}{v:α}(h:xs[j]? =some v):uf xs (j:Int)=some v:=by
 have hj:j<xs.length:=(AF.mp h).1
 have e:pF xs.length (j:Int)=some j:=by
  unfold pF
  rw[if_pos (by omega),if_pos (by omega)];simp
 unfold uf;rw[e];exact h
def Wb(b:Expr):Prop:=∀o i,Hy b false o i=operate [o,i] (EV o i)
def Pj(X:Cx)(r:R2):Prop:=
 ∀(value slice:Expr) (pins:List (Addr×Obj)) (s:AH) (σ:St) (H:Hp) (x y:V) (v u:Value) (Q:VK),Inv X pins σ H s->RelV x v->RelV y u->r x y H Q->
  Hy slice false v u=operate [v,u] (EV v u)->wpAny (model X.prog X.w) X.A (FQ value slice v u) (EP X pins σ Q) X.xe s
def XG(X:Cx)(id:String)(r:V->List V->Hp->VK->Prop):Prop:=
 ∀(pins:List (Addr×Obj)) (s:AH) (σ:St) (H:Hp) (x:V) (xs:List V) (v:Value) (us:List Value) (Q:VK),Inv X pins σ H s->RelV x v->Vals xs us->r x xs H Q->
  wpAny (model X.prog X.w) X.A (call (.builtin id) (v::us)) (EP X pins σ Q) X.xe s
section
variable{X:Cx}{a b:Expr}{ta tb:TE}{pos:Pos}
theorem aA{r:R2}(hr:Pj X r)(ha:PE X a ta)(hb:PE X b tb)(hs:Wb b):PE X (.Subscript a b pos) (Ux r ta tb):=by
 intro pins s σ H Q I h
 exact HM (R4 ha hb I h λv u s2 x y H2 I2 rx ry q=>hr a b pins s2 σ H2 x y v u Q I2 rx ry q (hs _ _))
def XH(K:AD):R2:=λx y H Q=>∃p xs i v,x=.ref p/\y=.int i/\bG K H p xs/\uf xs i=some v/\Q v H
def XI(K:AD):R2:=λx y H Q=>∃p xs i v,x=.ref p/\y=.int i/\aY K H p xs/\uf xs i=some v/\Q v H
theorem Wc:Pj X (XH X.K):=by
 intro value slice pins s σ H x y v u Q I rx ry h hs
 obtain⟨p,xs,i,z,rfl,rfl,hq,he,q⟩:=h
 cases rx
 obtain⟨t,rfl⟩:=ry
 obtain⟨its,r,pl,hz⟩:=I.list hq
 obtain⟨j,h1,h2,h3,h4,h5⟩:=Mg he
 obtain⟨w,ew,i3⟩:=r.get h2
 have hl:=r.length
 have hn:=p_
 have fin:EP X pins σ Q w s:=⟨z,H,I,i3,q⟩
 by_cases h0:0<=i
 ·have hj:i.toNat=j:=by
   rw[seqIndex_of h0 h5] at h1
   exact AN h1
  exact item_listR pl.isList h0 (by omega) (by rw[hj];simpa using ew) fin hs
 ·have hj:(i+(its.toArray.size:Int)).toNat=j:=by
   rw[seqIndex_neg (by omega) h4] at h1
   rw[AY,<-hl]
   exact AN h1
  exact subscriptTail_builtinR (x:=w) pl.isList.typeIs slot_list_getitem.lookup
   (wpAny_getItem_list_neg (Q:=λr s'=>r=w/\EP X pins σ Q r s') pl.isList (by omega) (by rw[AY]<;>omega) (by omega) (by rw[hj];simpa using ew) ⟨rfl,fin⟩) hs
theorem XJ:Pj X (XI X.K):=by
 intro value slice pins s σ H x y v u Q I rx ry h hs
 obtain⟨p,xs,i,z,rfl,rfl,hq,he,q⟩:=h
 cases rx
 obtain⟨t,rfl⟩:=ry
 obtain⟨its,r,pl,hz⟩:=I.tuple hq
 obtain⟨j,h1,h2,h3,h4,h5⟩:=Mg he
 obtain⟨w,ew,i3⟩:=r.get h2
 have hl:=r.length
 have hn:=p_
 have fin:EP X pins σ Q w s:=⟨z,H,I,i3,q⟩
 exact subscriptTail_builtinR (x:=w) pl.typeIs slot_tuple_getitem.lookup
  (getItem_tuple (j:=j) (Q:=λr s'=>r=w/\EP X pins σ Q r s') pl (by omega) (by omega) (by rw[AY,<-hl];exact h1) (by simpa using ew) ⟨rfl,fin⟩) hs
theorem Nz(its:List Value)(n j:Nat)(u:Value):Br (·.setIfInBounds j u) {cls:=.type "list",data:=.seq its.toArray n}={cls:=.type "list",data:=.seq (its.set j u).toArray n}:=by
 simp[Br]
theorem Inv.lst{pins:List (Addr×Obj)}{σ:St}{H:Hp}{s:AH}{p:Addr}{xs:List V}(I:Inv X pins σ H s)(h:H p=some (.lst xs)):
  ∃(its:List Value) (n:Nat),Vals xs its/\s.heap.get? p=some {cls:=.type "list",data:=.seq its.toArray n}/\xs.length<=sizeLine:=by
 obtain⟨z,its,n,r,e⟩:=I.hok p _ h
 exact⟨its,n,r,e,z⟩
theorem Inv.XM{pins:List (Addr×Obj)}{σ:St}{H:Hp}{s:AH}{p:Addr}{xs ys:List V}{its its':List Value}{n n':Nat}{f:Obj->Obj}(I:Inv X pins σ H s)(h:H p=some (.lst xs))
  (ho:s.heap.get? p=some {cls:=.type "list",data:=.seq its.toArray n}) (hf:f {cls:=.type "list",data:=.seq its.toArray n}={cls:=.type "list",data:=.seq its'.toArray n'}) (r:Vals ys its') (hz:ys.length<=sizeLine) (t:Nat):
  Inv X pins σ (upd H p (.lst ys)) {s with heap:=s.heap.update p f,toks:=t}:=by
 have e:(s.heap.update p f).get? p=some {cls:=.type "list",data:=.seq its'.toArray n'}:=by
  rw[Bk f ho (by rw[hf]<;>rfl),hf]
 refine I.write (x:=p) (e:=p) (by rw[h];trivial) (.inl rfl) (λb u hb q=>(CI _ _ (C0 hb)).trans q) ⟨_,e⟩ ?_
 exact⟨hz,its',n',r,e⟩
def abV:V->V->V->Hp->(Hp->Prop)->Prop:=λo i v H Q=>∃p xs k j,o=.ref p/\i=.int k/\H p=some (.lst xs)/\pF xs.length k=some j/\Q (upd H p (.lst (xs.set j v)))
theorem set_list:Xq X abV:=by
 intro pins s σ H o i v ov iv u Q I ro ri rv h
 obtain⟨p,xs,k,j,rfl,rfl,hp,hj,q⟩:=h
 cases ro
 obtain⟨t,rfl⟩:=ri
 obtain⟨its,n,r,ho,hz⟩:=I.lst hp
 obtain⟨h1,h2,h3,h4⟩:=vn hj
 have hl:=r.length
 have hn:=p_
 have I':Inv X pins σ (upd H p (.lst (xs.set j v))) {s with heap:=s.heap.update p (Br (·.setIfInBounds j u))}:=
  I.XM hp ho (Nz its n j u) (r.set rv j) (by rw[List.length_set];exact hz) s.toks
 by_cases h0:0<=k
 ·have hk:k.toNat=j:=by
   rw[seqIndex_of h0 h4] at h1
   exact AN h1
  exact PySem.W.ki_setAt ho h0 (by omega) (by rw[AY,<-hl];exact h4) (by rw[hk];exact⟨_,I',q⟩)
 ·have hk:(k+(its.toArray.size:Int)).toNat=j:=by
   rw[seqIndex_neg (by omega) h3] at h1
   rw[AY,<-hl]
   exact AN h1
  exact PySem.W.ki_setBack ho (by omega) (by rw[AY,<-hl];exact h3) (by omega) (by rw[hk];exact⟨_,I',q⟩)
theorem zx(lo hi:Option Int)(n:Nat):(Eh lo hi none n).1=((HT.bo n 0 lo:Nat):Int)/\(Eh lo hi none n).2.1=((HT.bo n n hi:Nat):Int)/\(Eh lo hi none n).2.2=1:=by
 refine⟨?_,?_,rfl⟩
 ·cases lo with
  | none=>simp[Eh,HT.bo]
  | some i=>
   simp only[Eh,HT.bo,Option.getD_none,show(1:Int)>0 by decide,if_true]
   by_cases h:i<0
   ·simp only[h,if_true]<;>omega
   ·simp only[h,if_false]<;>omega
 ·cases hi with
  | none=>simp[Eh,HT.bo]
  | some i=>
   simp only[Eh,HT.bo,Option.getD_none,show(1:Int)>0 by decide,if_true]
   by_cases h:i<0
   ·simp only[h,if_true]<;>omega
   ·simp only[h,if_false]<;>omega
theorem yj(its:List Value)(lo hi:Option Int):slicePick its.toArray lo hi none=((its.drop (HT.bo its.length 0 lo)).take (HT.bo its.length its.length hi-HT.bo its.length 0 lo)).toArray:=by
 obtain⟨h1,h2,h3⟩:=zx lo hi its.toArray.size
 unfold slicePick
 rw[h1,h2,h3]
 simp only[sliceRange_one,pick_run,AY]<;>rfl
def XN(K:AD):V->Option Int->Option Int->Hp->VK->Prop:=λx lo hi H Q=>∃a xs,x=.ref a/\bG K H a xs/\∀p,H p=none->Q (.ref p) (upd H p (.lst (gc xs lo hi)))
theorem Wd:Ph X (XN X.K):=by
 intro pins s σ H x v vl vu lo hi sl Q I rx hs pl pu h
 obtain⟨a,xs,rfl,hx,q⟩:=h
 cases rx
 obtain⟨its,r,ht,hz⟩:=I.list hx
 have hlen:=r.length
 refine⟨"list",_,slot_list_getitem.lookup,ht.isList.typeIs,?_⟩
 refine Gr ht.isList hs pl pu .none (by simp) ?_ (by rw[AY]<;>omega)
 rw[yj,<-hlen]
 refine⟨.ref s.heap.objs.size,_,I.laid (t':=s.toks) (o:=.lst (gc xs lo hi)) (λb ob q=>AE _ q) (AK _) ?_,rfl,q _ (I.hok.fresh (AK _))⟩
 exact⟨A1 (rb xs lo hi) hz,_,0,(r.drop (HT.bo xs.length 0 lo)).take (HT.bo xs.length xs.length hi-HT.bo xs.length 0 lo),AO _ rfl⟩
def i4:V->Bool
 | .non=>true
 | .bl _=>true
 | .int _=>true
 | .str _=>true
 | _=>false
def nu:V->V->Bool
 | .non,.non=>true
 | .bl a,.bl b=>a == b
 | .bl a,.int b=>(if a then 1 else 0) == b
 | .int a,.bl b=>a == (if b then 1 else 0)
 | .int a,.int b=>a == b
 | .str a,.str b=>a == b
 | _,_=>false
theorem Pk{A:A0}{s:AH}{y x:V}{u v:Value}(ry:RelV y u)(rx:RelV x v)(fy:i4 y=true)(fx:i4 x=true):CD A s u v (nu y x):=by
 cases y with
 | non=>
  cases ry
  cases x with
  | non=>cases rx;exact Ff _
  | bl b=>cases rx;exact SeqAt.EqAt.none_bool b
  | int b=>obtain⟨t,rfl⟩:=rx;exact SeqAt.EqAt.none_int b t
  | str b=>obtain⟨t,rfl⟩:=rx;exact SeqAt.EqAt.none_str b t
  | _=>exact absurd (show false=true from fx) An
 | bl a=>
  cases ry
  cases x with
  | non=>cases rx;exact SeqAt.EqAt.bool_none a
  | bl b=>cases rx;exact SeqAt.EqAt.bool_bool a b
  | int b=>obtain⟨t,rfl⟩:=rx;exact SeqAt.EqAt.bool_int a b t
  | str b=>obtain⟨t,rfl⟩:=rx;exact SeqAt.EqAt.bool_str a b t
  | _=>exact absurd (show false=true from fx) An
 | int a=>
  obtain⟨t',rfl⟩:=ry
  cases x with
  | non=>cases rx;exact SeqAt.EqAt.int_none a t'
  | bl b=>cases rx;exact SeqAt.EqAt.int_bool a t' b
  | int b=>obtain⟨t,rfl⟩:=rx;exact Iz a t' b t
  | str b=>obtain⟨t,rfl⟩:=rx;exact Ip a t' b t
  | _=>exact absurd (show false=true from fx) An
 | str a=>
  obtain⟨t',rfl⟩:=ry
  cases x with
  | non=>cases rx;exact SeqAt.EqAt.str_none a t'
  | bl b=>cases rx;exact SeqAt.EqAt.str_bool a t' b
  | int b=>obtain⟨t,rfl⟩:=rx;exact Iq a t' b t
  | str b=>obtain⟨t,rfl⟩:=rx;exact SeqAt.EqAt.str_str a t' b t
  | _=>exact absurd (show false=true from fx) An
 | _=>exact absurd (show false=true from fy) An
def lh(x:V)(u:Value):Bool:=match u with
 | .none=>nu .non x
 | .bool b=>nu (.bl b) x
 | .int i _=>nu (.int i) x
 | .str z _=>nu (.str z) x
 | _=>false
theorem Pl{x y:V}{u:Value}(r:RelV y u)(f:i4 y=true):lh x u=nu y x:=by
 cases y with
 | non=>cases r;rfl
 | bl b=>cases r;rfl
 | int i=>obtain⟨t,rfl⟩:=r;rfl
 | str z=>obtain⟨t,rfl⟩:=r;rfl
 | _=>exact absurd (show false=true from f) An
theorem ny{x:V}:∀{xs:List V} {us:List Value},Vals xs us->xs.all i4=true->us.any (lh x)=xs.any λy=>nu y x
 | _,_,.nil,_=>rfl
 | y::xs,u::us,.cons r t,f=>by
  rw[ER,Bz] at f
  rw[ES,ES,Pl r f.1,ny t f.2]
theorem lj{A:A0}{s:AH}{x:V}{v:Value}(rx:RelV x v)(fx:i4 x=true):∀{xs:List V} {us:List Value},Vals xs us->xs.all i4=true->∀u∈us,CD A s u v (lh x u)
 | _,_,.nil,_=>λu hu=>by cases hu
 | y::xs,u::us,.cons r t,f=>λu' hu=>by
  rw[ER,Bz] at f
  rcases AV.mp hu with rfl | hu
  ·rw[Pl r f.1];exact Pk r rx f.1 fx
  ·exact lj rx fx t f.2 u' hu
def inV(x:V)(xs:List V):Bool:=xs.any λy=>nu y x
def UB(K:AD)(neg:Bool):R2:=λx y H Q=>∃p xs,y=.ref p/\(bG K H p xs∨aY K H p xs)/\i4 x=true/\xs.all i4=true/\Q (.bl (if neg then !inV x xs else inV x xs)) H
theorem Pm:cL X (Bl .In) (UB X.K false):=by
 intro pins s σ H x y v u Q I rx ry h
 obtain⟨p,xs,rfl,hq,fx,fs,q⟩:=h
 cases ry
 rcases hq with hq | hq
 ·obtain⟨its,r,pl,hz⟩:=I.list hq
  refine SeqAt.in_listAt (lh x) pl.isList (λw hw=>lj rx fx r fs w (by simpa using hw)) ⟨.bl _,H,I,rfl,?_⟩
  rw[show its.toArray.any (lh x)=its.any (lh x) by simp,ny r fs]
  exact q
 ·obtain⟨its,r,pl,hz⟩:=I.tuple hq
  refine SeqAt.in_tupleAt (lh x) pl (λw hw=>lj rx fx r fs w (by simpa using hw)) ⟨.bl _,H,I,rfl,?_⟩
  rw[show its.toArray.any (lh x)=its.any (lh x) by simp,ny r fs]
  exact q
theorem zy:cL X (Bl .NotIn) (UB X.K true):=by
 intro pins s σ H x y v u Q I rx ry h
 obtain⟨p,xs,rfl,hq,fx,fs,q⟩:=h
 cases ry
 rcases hq with hq | hq
 ·obtain⟨its,r,pl,hz⟩:=I.list hq
  refine SeqAt.notIn_listAt (lh x) pl.isList (λw hw=>lj rx fx r fs w (by simpa using hw)) ⟨.bl _,H,I,rfl,?_⟩
  rw[show its.toArray.any (lh x)=its.any (lh x) by simp,ny r fs]
  exact q
 ·obtain⟨its,r,pl,hz⟩:=I.tuple hq
  refine SeqAt.notIn_tupleAt (lh x) pl (λw hw=>lj rx fx r fs w (by simpa using hw)) ⟨.bl _,H,I,rfl,?_⟩
  rw[show its.toArray.any (lh x)=its.any (lh x) by simp,ny r fs]
  exact q
theorem zz:cK X (.type "list") (λxs H Q=>∃p ys,xs=[.ref p]/\(bG X.K H p ys∨aY X.K H p ys)/\∀l,H l=none->Q (.ref l) (upd H l (.lst ys))):=by
 intro pins s σ H xs us Q I r h
 obtain⟨p,ys,rfl,hq,q⟩:=h
 obtain⟨u,rfl,rx⟩:=vals1 r
 cases rx
 have fin:∀(its:List Value),Vals ys its->ys.length<=sizeLine->∀(h':Heap) (c':Nat),(∀b o',s.heap.get? b=some o'->h'.get? b=some o')->
   h'.get? s.heap.objs.size=some {cls:=.type "list",dict:=none,data:=.seq its.toArray c',slots:= #[]}->EP X pins σ Q (.ref s.heap.objs.size) {s with heap:=h'}:=λits r' hz h' c' kp e=>
  ⟨.ref s.heap.objs.size,_,I.laid (t':=s.toks) kp (AK _) (show bA X.prog X.w _ h' _ (.lst ys) from⟨hz,its,c',r',e⟩),rfl,q _ (I.hok.fresh (AK _))⟩
 rcases hq with hq | hq
 ·obtain⟨its,r',pl,hz⟩:=I.list hq
  have hlen:=r'.length
  obtain⟨o,ho,hc,n,hd⟩:=pl.isList
  exact call_list_seq p (.inl rfl) ho hc hd (λh' c' kp e=>fin its r' hz h' c' kp e) (by simp only[AY]<;>omega)
 ·obtain⟨its,r',pl,hz⟩:=I.tuple hq
  have hlen:=r'.length
  obtain⟨o,ho,hc,n,hd⟩:=pl
  exact call_list_seq p (.inr rfl) ho hc hd (λh' c' kp e=>fin its r' hz h' c' kp e) (by simp only[AY]<;>omega)
theorem yk:cK X (.type "tuple") (λxs H Q=>∃p ys,xs=[.ref p]/\((bG X.K H p ys/\∀l,H l=none->Q (.ref l) (upd H l (.tup ys)))∨(aY X.K H p ys/\Q (.ref p) H))):=by
 intro pins s σ H xs us Q I r h
 obtain⟨p,ys,rfl,h⟩:=h
 obtain⟨u,rfl,rx⟩:=vals1 r
 cases rx
 rcases h with⟨hq,q⟩ | ⟨hq,q⟩
 ·obtain⟨its,r',pl,hz⟩:=I.list hq
  have hlen:=r'.length
  refine call_tuple_list pl.isList (λh' kp=>?_) (by simp only[AY]<;>omega)
  have I1:Inv X pins σ H {s with heap:=h'}:=I.kept (t':=s.toks) kp
  have I2:Inv X pins σ (upd H h'.objs.size (.tup ys)) {s with heap:=h'.push {cls:=.type "tuple",data:=.seq its.toArray}}:=
   I1.laid (t':=s.toks) (λb o e=>AE _ e) (AK _) (show bA X.prog X.w _ _ _ (.tup ys) from⟨⟨hz,_,AO _ rfl,rfl⟩,its,r',JT _ _⟩)
  exact⟨.ref h'.objs.size,_,I2,rfl,q _ (I1.hok.fresh (AK _))⟩
 ·obtain⟨its,r',pl,hz⟩:=I.tuple hq
  exact call_tuple_same pl ⟨.ref p,H,I,rfl,q⟩
def XO(K:AD)(T:String)(x:V)(H:Hp):Prop:=match x with
 | .str _=>T="str"
 | .int _=>T="int"
 | .ref p=>(T="list"/\∃xs,bG K H p xs)∨(T="tuple"/\∃o,K.lookup p=some o/\o.cls=.type "tuple"/\o.dict=none)∨
   (T="dict"/\((∃kvs,H p=some (.dK kvs))∨∃kvs,H p=some (.dT kvs)))∨(T="set"/\∃S n,H p=some (.set S n))
 | _=>False
theorem Pn{pins:List (Addr×Obj)}{σ:St}{H:Hp}{s:AH}{T:String}{x:V}{v:Value}(I:Inv X pins σ H s)(r:RelV x v)(ty:XO X.K T x H):
  s.TypeIs v T/\∀a,v=.ref a->∃ob,s.heap.get? a=some ob/\ob.dict=none:=by
 cases x with
 | str z=>
  obtain⟨t,rfl⟩:=r
  cases(show T="str" from ty)
  exact⟨typeIs_str s z t,λ_ e=>nomatch e⟩
 | int i=>
  obtain⟨t,rfl⟩:=r
  cases(show T="int" from ty)
  exact⟨typeIs_int s i t,λ_ e=>nomatch e⟩
 | ref p=>
  cases r
  rcases ty with⟨rfl,xs,hq⟩ | ⟨rfl,o,hk,hc,hd⟩ | ⟨rfl,hk⟩ | ⟨rfl,S,n,hk⟩
  ·obtain⟨its,_,pl,_⟩:=I.list hq
   refine⟨pl.isList.typeIs,λa e=>?_⟩
   cases e
   obtain⟨o,n,e,c,hd,_⟩:=pl
   exact⟨o,e,hd⟩
  ·refine⟨⟨o,I.gX p o hk,hc⟩,λa e=>?_⟩
   cases e
   exact⟨o,I.gX _ o hk,hd⟩
  ·have z:∃o,s.heap.get? p=some o/\o.ExactDict:=by
    rcases hk with⟨kvs,hk⟩ | ⟨kvs,hk⟩
    ·obtain⟨_,_,_,_,o,_,_,e,ex,_⟩:=I.hok p _ hk
     exact⟨o,e,ex⟩
    ·obtain⟨_,_,_,_,o,_,_,e,ex,_⟩:=I.hok p _ hk
     exact⟨o,e,ex⟩
   obtain⟨o,e,ex⟩:=z
   refine⟨⟨o,e,ex.1⟩,λa e2=>?_⟩
   cases e2
   exact⟨o,e,ex.2.1⟩
  ·obtain⟨o,_,_,_,e,ex,_⟩:=I.hok p _ hk
   refine⟨⟨o,e,ex.1⟩,λa e2=>?_⟩
   cases e2
   exact⟨o,e,ex.2.1⟩
 | _=>exact B9 ty
def ae6(K:AD)(T:String)(r:V->List V->Hp->VK->Prop)(to:TE):TE:=λσ H Q=>to σ H λx H1=>XO K T x H1/\r x [] H1 Q
def tBM(K:AD)(T:String)(r:V->List V->Hp->VK->Prop)(to:TE)(t:TA):TE:=λσ H Q=>to σ H λx H1=>XO K T x H1/\t σ H1 λxs H2=>r x xs H2 Q
variable{o e:Expr}{es:List Expr}{to:TE}{t:TA}{name:Str}{apos cpos:Pos}{T id:String}{r:V->List V->Hp->VK->Prop}
theorem XQ(pa:PlainAttrs T)(slot:Slot T name id)(hty:typeOf (.builtin id)=pure (.type "method_descriptor"))(hm:XG X id r)(ho:PE X o to)
  (hbase:Gs o name X.env (eval o X.env)=eval o X.env:=by rfl) (hline:(apos.endLine == cpos.line)=true:=by rfl):PE X (.Call (.Attribute o name apos) [] [] cpos) (ae6 X.K T r to):=by
 intro pins s σ H Q I h
 refine wpAny_Call_method0_late hbase hline (aK (ho pins s σ H _ I h) λv s1 ⟨x,H1,I1,r1,ty,q1⟩=>?_)
 obtain⟨h1,h2⟩:=Pn I1 r1 ty
 exact⟨T,id,pa,slot,hty,h1,h2,De rfl (PySem.evalArgs_none (hm pins s1 σ H1 x [] v [] Q I1 r1 .nil q1))⟩
theorem fq(pa:PlainAttrs T)(slot:Slot T name id)(hty:typeOf (.builtin id)=pure (.type "method_descriptor"))(hm:XG X id r)(ho:PE X o to)(ha:PA X (e::es) t)
  (hbase:Gs o name X.env (eval o X.env)=eval o X.env:=by rfl)
  (hfew:((EH cpos (BO (e::es) X.env)).all (λx=> !x.1)&&(backToKw cpos (keywordEach [] X.env)).all (λx=>x.1.isSome)
   &&decide ((e::es).length+([]:List JH).length+(if([]:List JH).isEmpty then 0 else 1)<30))=true:=by rfl)
  (hline:(apos.endLine == cpos.line)=true:=by rfl) (hs:BO (e::es) X.env=(false,eval e X.env)::BO es X.env:=by rfl) (hplain:(EH cpos (BO es X.env)).any (·.1)=false:=by rfl):
  PE X (.Call (.Attribute o name apos) (e::es) [] cpos) (tBM X.K T r to t):=by
 intro pins s σ H Q I h
 refine wpAny_Call_method_late hbase hfew hline rfl (aK (ho pins s σ H _ I h) λv s1 ⟨x,H1,I1,r1,ty,q1⟩=>?_)
 obtain⟨h1,h2⟩:=Pn I1 r1 ty
 refine⟨T,id,pa,slot,hty,h1,h2,?_⟩
 have hA:=ha cpos pins s1 σ H1 _ I1 q1
 rw[hs] at hA ⊢
 refine De (by show(false||(EH cpos (BO es X.env)).any (·.1))=false;rw[hplain]<;>rfl) (D1 ?_)
 exact aK hA λus s2 ⟨vs,H2,I2,r2,q2⟩=>hm pins s2 σ H2 x vs v us Q I2 r1 r2 q2
end
def Mh(X:Cx)(id:String)(r:V->List V->Hp->VK->Prop):Prop:=
 ∀(pins:List (Addr×Obj)) (s:AH) (σ:St) (H:Hp) (x:V) (xs:List V) (v:Value) (us:List Value) (Q:VK),Inv X pins σ H s->RelV x v->Vals xs us->r x xs H Q->
  wpAny (model X.prog X.w) X.A (call (.builtin id) (v::us)) (EP X pins σ Q) X.xe s
theorem Vals.one:∀{x:V} {us:List Value},Vals [x] us->∃u,us=[u]/\RelV x u
 | _,_,.cons r .nil=>⟨_,rfl,r⟩
theorem Vals.zero:∀{us:List Value},Vals [] us->us=[]
 | _,.nil=>rfl
theorem Vals.dropLast{xs:List V}{us:List Value}(h:Vals xs us):Vals xs.dropLast us.dropLast:=by
 induction h with
 | nil=>exact .nil
 | cons r t ih=>
  cases t with
  | nil=>exact .nil
  | cons q t'=>exact .cons r ih
theorem Vals.eraseIdx:∀{xs:List V} {us:List Value} (i:Nat),Vals xs us->Vals (xs.eraseIdx i) (us.eraseIdx i)
 | _,_,_,.nil=>.nil
 | _,_,0,.cons _ t=>t
 | _,_,i+1,.cons r t=>.cons r (Vals.eraseIdx i t)
theorem NA{α:Type}(l:List α):l.eraseIdx (l.length-1)=l.dropLast:=by
 induction l with
 | nil=>rfl
 | cons a r ih=>
  cases r with
  | nil=>rfl
  | cons b r=>
   have e:(a::b::r).length-1=((b::r).length-1)+1:=by
    have h1:(a::b::r).length=r.length+2:=rfl
    have h2:(b::r).length=r.length+1:=rfl
    omega
   rw[e,List.eraseIdx_cons_succ,ih]
   all_goals rfl
theorem xb{α:Type}:∀(l:List α) (i:Nat),(l.eraseIdx i).length<=l.length
 | [],_=>AK _
 | _::_,0=>B8 _
 | _::r,i+1=>Nat.succ_le_succ (xb r i)
section
variable{X:Cx}{pins:List (Addr×Obj)}{σ:St}{H:Hp}{s:AH}{l b:Addr}{xs ys zs:List V}
theorem Inv.zA{its its':List Value}{n:Nat}{f:Array Value->Array Value}{t':Nat}(I:Inv X pins σ H s)(hH:H l=some (.lst xs))
  (e:s.heap.get? l=some {cls:=.type "list",data:=.seq its.toArray n}) (hf:f its.toArray=its'.toArray) (hv:Vals ys its') (hz:ys.length<=sizeLine):
  Inv X pins σ (upd H l (.lst ys)) {s with heap:=s.heap.update l (Br f),toks:=t'}:=by
 have q:=PySem.IsL.update e f
 rw[hf] at q
 refine I.write (x:=l) (e:=l) (by rw[hH];exact trivial) (.inl rfl) (λb' u hb hu=>(CI s.heap (Br f) (C0 hb)).trans hu) ⟨_,q⟩ ?_
 exact⟨hz,its',_,hv,q⟩
theorem Inv.ae7{its:List Value}{t':Nat}(I:Inv X pins σ H s)(hv:Vals ys its)(hz:ys.length<=sizeLine):
  Inv X pins σ (upd H s.heap.objs.size (.lst ys)) {s with heap:=s.heap.push {cls:=.type "list",data:=.seq its.toArray},toks:=t'}:=
 I.laid (λ_ _ q=>AE _ q) (AK _) ⟨hz,its,0,hv,AO _ rfl⟩
theorem Inv.fresh(I:Inv X pins σ H s):H s.heap.objs.size=none:=I.hok.fresh (AK _)
theorem Inv.vo(I:Inv X pins σ H s)(hH:H l=some (.lst xs)):xs.length<=sizeLine/\∃(its:List Value) (n:Nat),Vals xs its/\xs.length=its.length/\s.heap.get? l=some {cls:=.type "list",data:=.seq its.toArray n}:=by
 obtain⟨z,its,n,r,e⟩:=I.hok l _ hH
 exact⟨z,its,n,r,r.length,e⟩
theorem zB{n:Nat}(h:n<=sizeLine):Cn n=false:=by
 unfold Cn
 exact decide_eq_false (by omega)
end
section
variable{X:Cx}
def Wf:V->List V->Hp->VK->Prop:=λx vs H Q=>∃l xs y,x=.ref l/\vs=[y]/\H l=some (.lst xs)/\xs.length<sizeLine/\Q .non (upd H l (.lst (xs++[y])))
theorem cZ:Mh X "list.append" Wf:=by
 intro pins s σ H x vs v us Q I rx rv h
 obtain⟨l,xs,y,rfl,rfl,hH,hz,q⟩:=h
 cases rx
 obtain⟨u,rfl,ru⟩:=rv.one
 obtain⟨z,its,n,r,hl,e⟩:=I.vo hH
 refine FI F.slot_list_append ⟨_,e,rfl⟩ F.entry_list_append (F.args_list_append_2 _ _) (PySem.list_append l its.toArray n u (by rw[AY];omega)) ⟨e,?_⟩
 refine⟨.non,_,I.zA (its':=its++[u]) hH e (by simp) (r.append (.cons ru .nil)) ?_,rfl,q⟩
 rw[AR,Dq]
 omega
def Wg:V->List V->Hp->VK->Prop:=λx vs H Q=>∃l b xs zs,x=.ref l/\vs=[.ref b]/\H l=some (.lst xs)/\H b=some (.lst zs)/\xs.length+zs.length<=sizeLine/\Q .non (upd H l (.lst (xs++zs)))
theorem p7:Mh X "list.extend" Wg:=by
 intro pins s σ H x vs v us Q I rx rv h
 obtain⟨l,b,xs,zs,rfl,rfl,hH,hB,hz,q⟩:=h
 cases rx
 obtain⟨u,rfl,ru⟩:=rv.one
 cases ru
 obtain⟨z,its,n,r,hl,e⟩:=I.vo hH
 obtain⟨z2,its2,n2,r2,hl2,e2⟩:=I.vo hB
 have hsz:its.toArray.size+its2.toArray.size<=sizeLine:=by rw[AY,AY];omega
 have NB:¬(!its.toArray.isEmpty&&Cn (its.toArray.size+its2.toArray.size))=true:=by
  rw[zB hsz,DC]
  exact An
 refine FI F.slot_list_extend ⟨_,e,rfl⟩ F.entry_list_extend (F.args_list_extend_2 _ _)
  (AutoSeq1.list_extend_list_list_0 l its.toArray n b its2.toArray n2 NB (by rw[AY];omega) (by omega)) ⟨e,e2,?_⟩
 refine⟨.non,_,I.zA (its':=its++its2) hH e (by simp) (r.append r2) ?_,rfl,q⟩
 rw[AR]
 omega
def ae8:V->List V->Hp->VK->Prop:=λx vs H Q=>∃l xs y,x=.ref l/\vs=[]/\H l=some (.lst xs)/\xs[xs.length-1]? =some y/\Q y (upd H l (.lst xs.dropLast))
theorem XR:Mh X "list.pop" ae8:=by
 intro pins s σ H x vs v us Q I rx rv h
 obtain⟨l,xs,y,rfl,rfl,hH,hy,q⟩:=h
 cases rx
 have hus:=rv.zero
 subst hus
 obtain⟨z,its,n,r,hl,e⟩:=I.vo hH
 obtain⟨u,hu,ru⟩:=r.get hy
 have hy':its.toArray[its.toArray.size-1]? =some u:=by
  show its.toArray[its.length-1]? =some u
  rw[<-A_,<-hl]
  exact hu
 refine FI F.slot_list_pop ⟨_,e,rfl⟩ F.entry_list_pop (F.args_list_pop_1 _) (MeetsSeq.list_pop_last l its.toArray n u hy' (by rw[AY];omega)) ⟨e,?_⟩
 refine⟨y,_,I.zA (its':=its.dropLast) hH e ?_ r.dropLast ?_,ru,q⟩
 ·show its.toArray.eraseIdxIfInBounds (its.toArray.size-1)=its.dropLast.toArray
  rw[AY,E_,NA]
 ·rw[List.length_dropLast]
  omega
def XS:V->List V->Hp->VK->Prop:=λx vs H Q=>∃l xs i k y,x=.ref l/\vs=[.int i]/\H l=some (.lst xs)/\ -(2 ^ 63)<=i/\i<2 ^ 63/\seqIndex? i xs.length=some k/\xs[k]? =some y/\Q y (upd H l (.lst (xs.eraseIdx k)))
theorem Sf:Mh X "list.pop" XS:=by
 intro pins s σ H x vs v us Q I rx rv h
 obtain⟨l,xs,i,k,y,rfl,rfl,hH,h1,h2,hk,hy,q⟩:=h
 cases rx
 obtain⟨u,rfl,ru⟩:=rv.one
 obtain⟨t,rfl⟩:=ru
 obtain⟨z,its,n,r,hl,e⟩:=I.vo hH
 obtain⟨w,hw,i3⟩:=r.get hy
 refine FI F.slot_list_pop ⟨_,e,rfl⟩ F.entry_list_pop (F.args_list_pop_2 _ _)
  (MeetsSeq.list_pop_at l its.toArray n i t k w (fitsIndex_both h1 h2) (by rw[AY,<-hl];exact hk) (by rw[<-A_];exact hw) (by rw[AY];omega)) ⟨e,?_⟩
 refine⟨y,_,I.zA (its':=its.eraseIdx k) hH e ?_ (r.eraseIdx k) ?_,i3,q⟩
 ·show its.toArray.eraseIdxIfInBounds k=(its.eraseIdx k).toArray
  rw[E_]
 ·have:=xb xs k
  omega
end
end L2
namespace Att
open PySem PySem.W PySem.Calls PyProof.Rows
theorem ug{P:Hz}{h:Heap}:∀(ns:List Int) (vs:List Value),WellAll P h vs (ns.map WData.int)->C2 vs ns:=by
 intro ns
 induction ns with
 | nil=>
  intro vs w
  rw[HK] at w
  cases w
  exact .nil
 | cons n ns ih=>
  intro vs w
  rw[Aw] at w
  cases w with
  | cons a b=>
   cases a
   exact .cons _ _ (ih _ b)
theorem Po{l:OpenLaw}{n:Nat}(hn:l.most=some n){P:Hz}{h:Heap}{args:List WData}{vals:List Value}
  (hpre:l.row.toRowW.claim.pre args=true) (hwl:WellAll P h vals args):
  ∃a vs ns,vals=[A5 a]/\args=[WData.list (ns.map WData.int)]/\h.get? a=some {cls:=.type "list",data:=.seq vs.toArray}/\C2 vs ns/\ns.length<=n:=by
 have hsh:WShape.hasAll [] args [.list .int]=true:=(pre_splitW hpre).1
 have hc:l.pre.holds [] {args:=args}=true:=(pre_splitW hpre).2
 obtain⟨d,r,rfl,h1,h2⟩:=hasAllW_cons hsh
 obtain rfl:=hasAllW_nil h2
 obtain⟨xs,rfl,h3⟩:=hasW_list h1
 obtain⟨ns,rfl⟩:=items_int h3
 have hlen:ns.length<=n:=by
  unfold OpenLaw.pre at hc
  have h4:(WTm.not (.lt (.lit (.int (n:Int))) (.len (.arg 0)))).holds [] {args:=[.list (ns.map .int)]}=true:=by
   have h4:=(holds_andW hc).1
   rw[hn] at h4
   exact h4
  have h5:=condW_of h4 (w_not (w_lt w_lit (w_len_list (w_arg rfl))))
  rw[AB] at h5
  refine Nat.le_of_not_lt λq=>?_
  have q':(n:Int)<((ns.length:Nat):Int):=by omega
  first
   | (rw[decide_eq_true q'] at h5;exact absurd h5 (by decide))
   | (simp at h5;omega)
 cases hwl with
 | cons w1 w2=>
  cases w2
  cases w1 with
  | list ho hall=>exact⟨_,_,ns,rfl,rfl,ho,ug ns _ hall,hlen⟩
theorem Pp(l:OpenLaw)(args:List WData):l.row.toRowW.claim.post args (.bool true) args=true:=
 postW_of (r:=l.row.toRowW) (X:=(true == true))
  (show WShape.has [] (.bool true) .bool=true by first | rfl | decide | simp[WShape.has,WShape.arms,WShape.armsAll])
  (show(WTm.eq .res (.lit (.bool true))).value [] {args:=args,res:=some (.bool true),after:=args}=some (.bool (true == true)) from w_eq_bool (w_res rfl) w_lit) rfl
theorem Lr{l:OpenLaw}{n:Nat}{q:Af}{loose:List Str}{XP:(Str->Option Value)->Heap->Prop}{YP:World->Heap->Prop}{d:DefRec}
  (hn:l.most=some n) (hdf:d.params.defaults=[])
  (call:∀(w:World) (s₀ s₁:AH) (mg mb:Str->Option Value) (fa:Addr) (o:Obj) (pm cd doc:Value) (a:Addr) (vs:List Value) (ns:List Int),
   Ground q loose [] XP w s₀ mg mb s₁.heap->YP w s₁.heap->
   s₁.heap.get? fa=some o->o.data=.func (docDef d.name d.params d.body d.scope pm cd doc)->s₁.heap.CodeRec cd d.name->mg d.name=some (.ref fa)->
   s₁.heap.get? a=some {cls:=.type "list",data:=.seq vs.toArray}->C2 vs ns->ns.length<=n->s₁.gens= #[]->
   Em (model l.prog w) IS (.call (.ref fa) ⟨[.ref a],[]⟩) (λr s'=>r=.ok (.ret (.bool true))/\OldK s₁.heap s'.heap/\s'.os=s₁.os/\GY s'.gens) s₁):
  WalkO q loose XP YP l.row.toRowW d [] (λf vs=>Jd f vs):=by
 intro w s₀ s₁ mg mb G Y fa o pm cd doc dV kV ho hd hcd hD hmg hg args vals as hpre hlay hrd hwl hlo
 obtain rfl:dV=.none:=Dflts.none hD hdf
 obtain rfl:kV=.none:=Dflts.noKw hD
 obtain⟨a,vs,ns,rfl,rfl,hobj,hints,hlen⟩:=Po hn hpre hwl
 refine enter_call (Dd (call w s₀ s₁ mg mb fa o pm cd doc a vs ns G Y ho (fd_plain hd) hcd hmg hobj hints hlen hg) λr s' hq=>?_)
 obtain⟨rfl,h2,h3,h4⟩:=hq
 exact⟨.inl ⟨.bool true,.bool true,[],rfl,λ_=>rfl,.bool true,Pp l _,λ_=>⟨JI,λ_ hm=>(nomatch hm)⟩⟩,h2,h3,h4⟩
end Att
namespace L2
open PySem PySem.Spec PyProof.Rows
theorem xc:∀{vs:List Value} {ns:List Int},C2 vs ns->Vals (ns.map V.int) vs
 | _,_,.nil=>.nil
 | _,_,.cons n t h=>.cons ⟨t,rfl⟩ (xc h)
def aF(s:Stmt):Dn:=match s with
 | .FunctionDef _ a _ _ _ _ _ _ _ _=>a
 | _=>{posonlyargs:=[],args:=[],vararg:=none,kwonlyargs:=[],kw_defaults:=[],kwarg:=none,defaults:=[]}
def aE(s:Stmt):List Stmt:=match s with
 | .FunctionDef _ _ b _ _ _ _ _ _ _=>b
 | _=>[]
def ah(s:Stmt):Scope:=match s with
 | .FunctionDef _ _ _ _ _ _ sc _ _ _=>sc
 | _=>{kind:=.function,names:=[],isGenerator:=false,isCoroutine:=false}
abbrev bh:ub:=λ_ _ _ _ _ _=>False
abbrev E0:XK:=λ_ _ _=>False
theorem aJ{X:Cx}:Passes bh X E0:=λ_ _ _ _ _ _ _ h=>h.elim
structure cD (K:AD)(x qual:Str)(st:Stmt)(f:Addr)(fd:Ay):Prop where
 ex:∃(oc:Value) (od:Option Addr) (kV doc pm:Value) (an:Option Addr) (cdv ct:Value) (osl:Array (Option Value)),
  fd=Aa x qual (aF st) (aE st) (ah st) .none kV doc pm an cdv ct/\K.lookup f=some ⟨oc,od,.func fd,osl⟩/\Ab K cdv qual=true
 kp:AL K (.ref f)=true
section
variable{P:Af}{w:World}{K:AD}{mg:Str->Option Value}{base:Heap}
theorem cD.ok{x qual:Str}{st:Stmt}{f:Addr}{fd:Ay}{N ps:List Str}{k:Nat}{sp:Sp}(F:cD K x qual st f fd)(S:aN N ps (ah st))(len:∀vs H Q E,sp vs H Q E->vs.length=ps.length)
  (hbody:∀(cdv:Value) (A:A0) (outer:List Env) (s:AH) (H:Hp) (vs:List V) (Q:VK) (E:XK),aL k (A.deeper (Fe qual (ah st) s.heap.objs.size f cdv))->sp vs H Q E->
   ∃t,mx (kZ bh P w K mg base N qual (ah st) f cdv A outer s H E).q_ (aE st) t/\t {nx:=λ_ H'=>Q .non H',rt:=Q} (start N vs) H):aR P w K mg base bh (k+1) f fd ps sp:=by
 obtain⟨oc,od,kV,doc,pm,an,cdv,ct,osl,rfl,lk,hcd⟩:=F.ex
 refine UA lk hcd S len λA outer s H vs Q E hr hsp=>?_
 obtain⟨t,h,q⟩:=hbody cdv A outer s H vs Q E hr hsp
 exact⟨t,h.q_,q⟩
theorem cD.binds{x qual:Str}{st:Stmt}{f:Addr}{fd:Ay}{ps:List Str}(F:cD K x qual st f fd)
  (h:∀(kV doc pm:Value) (an:Option Addr) (cdv ct:Value) (us:List Value),us.length=ps.length->G4 (Aa x qual (aF st) (aE st) (ah st) .none kV doc pm an cdv ct) ⟨us,[]⟩=pure (ps.zip us)):Binds K fd ps []:=by
 obtain⟨oc,od,kV,doc,pm,an,cdv,ct,osl,rfl,lk,hcd⟩:=F.ex
 exact .all (h kV doc pm an cdv ct)
theorem bp{x qual:Str}{st:Stmt}{f:Addr}{oc:Value}{od an:Option Addr}{osl:Array (Option Value)}{kV doc pm cdv ct:Value}(l:K.lookup f=some ⟨oc,od,.func (Aa x qual (aF st) (aE st) (ah st) .none kV doc pm an cdv ct),osl⟩)
  (c:Ab K cdv qual=true) (k:AL K (.ref f)=true):cD K x qual st f (Aa x qual (aF st) (aE st) (ah st) .none kV doc pm an cdv ct):=⟨⟨oc,od,kV,doc,pm,an,cdv,ct,osl,rfl,l,c⟩,k⟩
end
theorem gg{A:A0}{k:Nat}(hr:aL k A):A.units+1<cLine:=BX (Nat.add_le_add_left (by decide:1<=64) _) hr.units
section
variable{X:Cx}
theorem pv(i:Nat){x:Str}{pos:Pos}(hN:X.N[i]? =some x:=by rfl)(hv:L5 X.env.scope x:=by first | exact Ai rfl | exact DD (Ai rfl) | exact DD (DD rfl))(hd:(x == ("__debug__":Str))=false:=by decide)
  (hcd:(x == ("__classdict__":Str))=false:=by decide):PE X (.Name x pos) (Ni i):=Xm hN hv hd hcd
end
theorem cN{A B:Prop}(h:B):if false=true then A else B:=by
 rw[if_neg An]
 exact h
theorem p8{A B:Prop}(h:A):if true=true then A else B:=by
 rw[if_pos rfl]
 exact h
theorem iB{c A B:Prop}[Decidable c](h1:c->A)(h2:¬c->B):if c then A else B:=by
 by_cases h:c
 ·rw[if_pos h]
  exact h1 h
 ·rw[if_neg h]
  exact h2 h
def Same(H H':Hp):Prop:=∀b o,H b=some o->H' b=some o
theorem Same.refl(H:Hp):Same H H:=λ_ _ h=>h
theorem Same.trans{H H1 H2:Hp}(a:Same H H1)(b:Same H1 H2):Same H H2:=λc o h=>b c o (a c o h)
theorem Same.free{H H':Hp}(e:Same H H'){l:Addr}(h:H' l=H_):H l=H_:=by
 cases q:H l with
 | none=>rfl
 | some o=>
  rw[e l o q] at h
  cases h
theorem Same.seq{K:AD}{H H':Hp}{a:Addr}{xs:List V}(e:Same H H')(h:bG K H a xs):bG K H' a xs:=by
 rcases h with(h | ⟨o,h⟩) | h
 ·exact .inl (.inl (e _ _ h))
 ·exact .inl (.inr ⟨o,e _ _ h⟩)
 ·exact .inr h
section
variable{κ:Type}[DecidableEq κ]
def bC(kvs:List (κ×V))(k:κ):Option V:=(kvs.find? λkv=>decide (kv.1=k)).map (·.2)
def putK(kvs:List (κ×V))(k:κ)(v:V):List (κ×V):=
 if(kvs.any λkv=>decide (kv.1=k))=true then kvs.map (λkv=>if kv.1=k then(kv.1,v) else kv) else kvs++[(k,v)]
theorem cy{p:κ×V}{r:List (κ×V)}{k:κ}(e:p.1=k):bC (p::r) k=some p.2:=by simp[bC,Dj,e]
theorem b_{p:κ×V}{r:List (κ×V)}{k:κ}(e:¬p.1=k):bC (p::r) k=bC r k:=by simp[bC,Dj,e]
theorem lq(k:κ):∀kvs:List (κ×V),(kvs.any λkv=>decide (kv.1=k))=(bC kvs k).isSome
 | []=>rfl
 | p::r=>by
  rw[ES]
  by_cases e:p.1=k
  ·simp only[cy e,decide_eq_true e,Bool.true_or,Option.isSome_some]
  ·rw[b_ e,decide_eq_false e,Bool.false_or];exact lq k r
theorem zC(k j:κ)(y:V):∀kvs:List (κ×V),bC (kvs.map λkv=>if kv.1=k then(kv.1,y) else kv) j=(bC kvs j).map λx=>if j=k then y else x
 | []=>rfl
 | p::r=>by
  have ih:=zC k j y r
  rw[Aw]
  by_cases h:p.1=k
  ·rw[if_pos h]
   by_cases e:p.1=j
   ·rw[cy (p:=(p.1,y)) e,cy e,Fg,if_pos (e.symm.trans h)]
   ·rw[b_ (p:=(p.1,y)) e,b_ e,ih]
  ·rw[if_neg h]
   by_cases e:p.1=j
   ·rw[cy (p:=p) e,cy e,Fg,if_neg (λz=>h (e.trans z))]
   ·rw[b_ (p:=p) e,b_ e,ih]
theorem xf(k j:κ)(y:V):∀kvs:List (κ×V),bC kvs k=none->bC (kvs++[(k,y)]) j=if j=k then some y else bC kvs j
 | [],_=>by
  by_cases e:k=j
  ·rw[if_pos e.symm];exact cy (p:=(k,y)) e
  ·rw[if_neg (λz=>e z.symm)];exact b_ (p:=(k,y)) e
 | p::r,hn=>by
  rw[List.cons_append]
  have hk:¬p.1=k:=λz=>by rw[cy z] at hn;cases hn
  rw[b_ hk] at hn
  have ih:=xf k j y r hn
  by_cases e:p.1=j
  ·rw[cy e,cy e,if_neg (λz=>hk (e.trans z))]
  ·rw[b_ e,b_ e,ih]
theorem rV(kvs:List (κ×V))(k j:κ)(y:V):bC (putK kvs k y) j=if j=k then some y else bC kvs j:=by
 unfold putK
 by_cases a:(kvs.any λkv=>decide (kv.1=k))=true
 ·rw[if_pos a,zC]
  rw[lq] at a
  by_cases e:j=k
  ·obtain⟨x,hx⟩:=EM.mp a
   rw[if_pos e,e,hx,Fg,if_pos rfl]
  ·rw[if_neg e]
   cases bC kvs j with
   | none=>rfl
   | some x=>rw[Fg,if_neg e]
 ·rw[if_neg a]
  refine xf k j y kvs ?_
  rw[lq] at a
  cases q:bC kvs k with
  | none=>rfl
  | some x=>rw[q] at a;exact(a rfl).elim
theorem jI(kvs:List (κ×V))(k:κ)(v:V):(putK kvs k v).length<=kvs.length+1:=by
 unfold putK
 split
 ·rw[AB];omega
 ·rw[AR,Aj,B5];omega
theorem zD{kvs:List (κ×V)}{k:κ}(v:V)(h:bC kvs k=none):putK kvs k v=kvs++[(k,v)]:=by
 unfold putK
 rw[lq,h]
 exact if_neg (by decide)
theorem gT.jT{o:Option V}{u:Option Value}(r:gT o u):o.isSome=u.isSome:=by
 cases o with
 | none=>cases u with
  | none=>rfl
  | some _=>exact(show False from r).elim
 | some _=>cases u with
  | none=>exact(show False from r).elim
  | some _=>rfl
theorem gT.getD{o:Option V}{u:Option Value}{d:V}{d':Value}(r:gT o u)(rd:RelV d d'):RelV (o.getD d) (u.getD d'):=by
 cases o with
 | none=>cases u with
  | none=>exact rd
  | some _=>exact(show False from r).elim
 | some _=>cases u with
  | none=>exact(show False from r).elim
  | some _=>exact r
theorem KV.val{kvs:List (κ×V)}{vs:List (κ×Value)}(r:KV kvs vs)(k:κ):gT (bC kvs k) (IT vs k):=by
 unfold KV at r
 induction r with
 | nil=>exact By
 | @cons p q ps qs h t ih=>
  obtain⟨h1,h2⟩:=h
  by_cases e:p.1=k
  ·have e':q.1=k:=h1.symm.trans e
   have b:IT (q::qs) k=some q.2:=by simp[IT,Dj,e']
   rw[cy e,b];exact h2
  ·have e':¬q.1=k:=λz=>e (h1.trans z)
   have b:IT (q::qs) k=IT qs k:=by simp[IT,Dj,e']
   rw[b_ e,b];exact ih
theorem KV.any{kvs:List (κ×V)}{vs:List (κ×Value)}(r:KV kvs vs)(k:κ):(kvs.any λkv=>decide (kv.1=k))=vs.any λkv=>decide (kv.1=k):=by
 unfold KV at r
 induction r with
 | nil=>rfl
 | cons h t ih=>rw[ES,ES,ih,h.1]
theorem KV.repl{kvs:List (κ×V)}{vs:List (κ×Value)}(r:KV kvs vs)(k:κ){y:V}{u:Value}(ry:RelV y u):
  KV (kvs.map λkv=>if kv.1=k then(kv.1,y) else kv) (vs.map λkv=>if kv.1=k then(kv.1,u) else kv):=by
 unfold KV at r ⊢
 induction r with
 | nil=>exact .nil
 | @cons p q ps qs h t ih=>
  rw[Aw,Aw]
  refine .cons ?_ ih
  obtain⟨h1,h2⟩:=h
  by_cases e:p.1=k
  ·rw[if_pos e,if_pos (h1.symm.trans e)];exact⟨h1,ry⟩
  ·rw[if_neg e,if_neg (λz=>e (h1.trans z))];exact⟨h1,h2⟩
theorem KV.put{kvs:List (κ×V)}{vs:List (κ×Value)}(r:KV kvs vs)(k:κ){y:V}{u:Value}(ry:RelV y u):KV (putK kvs k y) (stored vs k u):=by
 unfold putK stored
 rw[r.any k]
 by_cases e:(vs.any λkv=>decide (kv.1=k))=true
 ·rw[if_pos e,if_pos e];exact r.repl k ry
 ·rw[if_neg e,if_neg e];exact Paired.snoc r ⟨rfl,ry⟩
theorem KV.length{kvs:List (κ×V)}{vs:List (κ×Value)}(r:KV kvs vs):kvs.length=vs.length:=Aq r
end
theorem mB{P:Af}{w:World}{k:Key}{u:Value}(r:RelV (kV k) u):(bb P w).is k u=true:=by
 cases k with
 | inl i=>obtain⟨t,e⟩:=(show ∃t,u=Ef i t from r);subst e;exact Lp P w i t
 | inr x=>obtain⟨t,e⟩:=(show ∃t,u=FF x t from r);subst e;exact Lq P w x t
theorem xg{P:Af}{w:World}:∀{ks:List Key} {us:List Value},Vals (ks.map kV) us->ItemsAre (bb P w) ks us
 | [],_,r=>by rw[HK] at r;cases r;exact .nil
 | k::ks,_,r=>by
  rw[Aw] at r
  cases r with
  | cons h t=>exact .cons (mB h) (xg t)
abbrev KT (H:Hp):List (List Key×V)->List (List Key×Addr×Value)->Prop:=BV λp q=>p.1=q.1/\H q.2.1=some (.tup (p.1.map kV))/\RelV p.2 q.2.2
theorem KT.val{H:Hp}{kvs:List (List Key×V)}{xs:List (List Key×Addr×Value)}(r:KT H kvs xs)(k:List Key):gT (bC kvs k) ((atKey xs k).map (·.2)):=by
 induction r with
 | nil=>exact By
 | @cons p q ps qs h t ih=>
  obtain⟨h1,_,h2⟩:=h
  by_cases e:p.1=k
  ·have e':q.1=k:=h1.symm.trans e
   have b:atKey (q::qs) k=some q.2:=by simp[atKey,Dj,e']
   rw[cy e,b];exact h2
  ·have e':¬q.1=k:=λz=>e (h1.trans z)
   have b:atKey (q::qs) k=atKey qs k:=by simp[atKey,Dj,e']
   rw[b_ e,b];exact ih
theorem KT.repl{H:Hp}{kvs:List (List Key×V)}{xs:List (List Key×Addr×Value)}(r:KT H kvs xs)(k:List Key){y:V}{u:Value}(ry:RelV y u):
  KT H (kvs.map λkv=>if kv.1=k then(kv.1,y) else kv) (xs.map (putAt k u)):=by
 induction r with
 | nil=>exact .nil
 | @cons p q ps qs h t ih=>
  rw[Aw,Aw]
  refine .cons ?_ ih
  obtain⟨h1,h2,h3⟩:=h
  unfold putAt
  by_cases e:p.1=k
  ·rw[if_pos e,if_pos (h1.symm.trans e)];exact⟨h1,h2,ry⟩
  ·rw[if_neg e,if_neg (λz=>e (h1.trans z))];exact⟨h1,h2,h3⟩
theorem KT.put{H:Hp}{kvs:List (List Key×V)}{xs:List (List Key×Addr×Value)}(r:KT H kvs xs)(k:List Key){b:Addr}{y:V}{u:Value}(hb:H b=some (.tup (k.map kV)))(ry:RelV y u):
  KT H (putK kvs k y) (storedH xs k b u):=by
 have e:(kvs.any λkv=>decide (kv.1=k))=(atKey xs k).isSome:=by
  rw[lq,(r.val k).jT,Gb]
 unfold putK storedH
 rw[e]
 by_cases q:(atKey xs k).isSome=true
 ·rw[if_pos q,if_pos q];exact r.repl k ry
 ·rw[if_neg q,if_neg q];exact Paired.snoc r ⟨rfl,hb,ry⟩
theorem KT.keeps{H H':Hp}{kvs:List (List Key×V)}{xs:List (List Key×Addr×Value)}(r:KT H kvs xs)(ht:∀b ys,H b=some (.tup ys)->H' b=some (.tup ys)):KT H' kvs xs:=
 Paired.og r λ_ _ z=>⟨z.1,ht _ _ z.2.1,z.2.2⟩
section
variable{P:Af}{w:World}{H:Hp}{h:Heap}{a:Addr}
theorem UC{u:HO}(ok:df P w H h)(e:Rd H a u):bA P w H h a u:=e.ok ok
theorem oq{kvs:List (Key×V)}(ok:df P w H h)(e:Rd H a (.dK kvs)):kvs.length<=sizeLine/\(a == CS)=false/\∃vs,KV kvs vs/\h.DictOf (bb P w) a vs:=
 show bA P w H h a (.dK kvs) from UC ok e
theorem NC{kvs:List (Key×V)}(ok:df P w H h)(e:H a=some (.dK kvs)):kvs.length<=sizeLine/\(a == CS)=false/\∃vs,KV kvs vs/\h.DictOf (bb P w) a vs:=oq ok (.inl e)
theorem lu{ks:List Key}(ok:df P w H h)(e:H a=some (.tup (ks.map kV))):(FG (bb P w)).is h ks a:=by
 obtain⟨_,its,r,o,h1,h2,n,h3⟩:=(show bA P w H h a (.tup (ks.map kV)) from ok a _ e)
 exact⟨o,its.toArray,n,h1,h2,h3,by simpa using xg r⟩
theorem ou{kvs:List (List Key×V)}(ok:df P w H h)(e:Rd H a (.dT kvs)):kvs.length<=sizeLine/\(a == CS)=false/\
  ∃xs,KT H kvs xs/\h.DictOfH (FG (bb P w)) a xs:=by
 obtain⟨z,y,xs,r,o,es,ep,h1,h2,h3,h4,h5⟩:=(show bA P w H h a (.dT kvs) from UC ok e)
 refine⟨z,y,xs,r,o,es,ep,h1,h2,h3,h4,λx hx=>?_,h5⟩
 have all:∀{l:List (List Key×V)} {m:List (List Key×Addr×Value)},KT H l m->∀x∈m,(FG (bb P w)).is h x.1 x.2.1:=by
  intro l m q
  induction q with
  | nil=>intro x hx;exact nomatch hx
  | @cons p q ps qs hq t ih=>
   intro x hx
   rcases AV.mp hx with e | hx
   ·subst e
    exact lu ok (by rw[<-hq.1];exact hq.2.1)
   ·exact ih x hx
 exact all r x hx
theorem UD{kvs:List (List Key×V)}(ok:df P w H h)(e:H a=some (.dT kvs)):kvs.length<=sizeLine/\(a == CS)=false/\
  ∃xs,KT H kvs xs/\h.DictOfH (FG (bb P w)) a xs:=ou ok (.inl e)
end
def gU(H:Hp)(a:Addr)(y:V)(r:Option V):Prop:=
 (∃kvs k,Rd H a (.dK kvs)/\y=kV k/\r=bC kvs k)∨∃kvs k b,Rd H a (.dT kvs)/\y=.ref b/\H b=some (.tup (k.map kV))/\r=bC kvs k
def j_(H:Hp)(a:Addr)(y v:V)(H':Hp):Prop:=
 (∃kvs k,H a=some (.dK kvs)/\y=kV k/\kvs.length<sizeLine/\H'=upd H a (.dK (putK kvs k v)))∨
 ∃kvs k b,H a=some (.dT kvs)/\y=.ref b/\H b=some (.tup (k.map kV))/\kvs.length<sizeLine/\H'=upd H a (.dT (putK kvs k v))
theorem gU.k{H:Hp}{a:Addr}{kvs:List (Key×V)}{k:Key}(e:H a=some (.dK kvs)):gU H a (kV k) (bC kvs k):=.inl ⟨kvs,k,.inl e,rfl,rfl⟩
theorem j_.k{H:Hp}{a:Addr}{kvs:List (Key×V)}{k:Key}{v:V}(e:H a=some (.dK kvs))(hl:kvs.length<sizeLine):j_ H a (kV k) v (upd H a (.dK (putK kvs k v))):=.inl ⟨kvs,k,e,rfl,hl,rfl⟩
theorem j_.t{H:Hp}{a b:Addr}{kvs:List (List Key×V)}{k:List Key}{v:V}(e:H a=some (.dT kvs))(eb:H b=some (.tup (k.map kV)))(hl:kvs.length<sizeLine):
  j_ H a (.ref b) v (upd H a (.dT (putK kvs k v))):=.inr ⟨kvs,k,b,e,rfl,eb,hl,rfl⟩
section
variable{X:Cx}{pins:List (Addr×Obj)}{σ:St}{H:Hp}{s:AH}{a:Addr}{y v:V}{u r:Value}{o:Option V}{A:A0}{E:Value->AH->Prop}
theorem Inv.big(I:Inv X pins σ H s):CS<s.heap.objs.size:=by
 have h:AX<s.heap.objs.size:=(I.mod.glob.keeps I.bk).lt
 exact Es (by decide) h
theorem xh{Q:Value->AH->Prop}(hu:A.units+1<cLine)(I:Inv X pins σ H s)(g:gU H a y (some v))(ry:RelV y u)(h:∀w' s',Inv X pins σ H s'->RelV v w'->Q w' s'):
  wpAny (model X.prog X.w) A (EV (.ref a) u) Q E s:=by
 rcases g with⟨kvs,k,e,ey,l⟩ | ⟨kvs,k,b,e,ey,eb,l⟩
 ·subst ey
  obtain⟨z,hd,vs,rel,dd⟩:=oq I.hok e
  obtain⟨w',hw,i3⟩:=gT.some_of (v:=v) (o:=IT vs k) (by rw[l];exact rel.val k)
  exact wpAny_getItem_of (mB ry) dd.mapOf hw (h w' _ (I.tok _) i3)
 ·subst ey
  cases(show u=A5 b from ry)
  obtain⟨z,hd,xs,rel,dd⟩:=ou I.hok e
  obtain⟨w',hw,i3⟩:=gT.some_of (v:=v) (o:=(atKey xs k).map (·.2)) (by rw[l];exact rel.val k)
  obtain⟨p,hp,hp2⟩:=Ca.mp hw
  refine wpAny_getItem_heap (Df hu) (lu I.hok eb) dd hp ?_
  rw[hp2]
  exact h w' _ (I.tok _) i3
theorem ae9{Q:Value->AH->Prop}(hu:A.units+1<cLine)(I:Inv X pins σ H s)(g:gU H a y o)(ry:RelV y u)(h:∀s',Inv X pins σ H s'->Q (.bool o.isSome) s'):
  wpAny (model X.prog X.w) A (Bl .In u (.ref a)) Q E s:=by
 rcases g with⟨kvs,k,e,ey,l⟩ | ⟨kvs,k,b,e,ey,eb,l⟩
 ·subst ey
  obtain⟨z,hd,vs,rel,dd⟩:=oq I.hok e
  refine wpAny_in_of (mB ry) hd dd.mapOf ?_
  rw[<-(rel.val k).jT,<-l]
  exact h _ (I.tok _)
 ·subst ey
  cases(show u=A5 b from ry)
  obtain⟨z,hd,xs,rel,dd⟩:=ou I.hok e
  refine wpAny_in_heap (Df hu) (lu I.hok eb) hd dd ?_
  have q:=(rel.val k).jT
  rw[Gb] at q
  rw[<-q,<-l]
  exact h _ (I.tok _)
theorem Wh{Q:Value->AH->Prop}(hu:A.units+1<cLine)(I:Inv X pins σ H s)(g:gU H a y o)(ry:RelV y u)(h:∀s',Inv X pins σ H s'->Q (.bool (!o.isSome)) s'):
  wpAny (model X.prog X.w) A (Bl .NotIn u (.ref a)) Q E s:=by
 rcases g with⟨kvs,k,e,ey,l⟩ | ⟨kvs,k,b,e,ey,eb,l⟩
 ·subst ey
  obtain⟨z,hd,vs,rel,dd⟩:=oq I.hok e
  refine wpAny_notIn_of (mB ry) hd dd.mapOf ?_
  rw[<-(rel.val k).jT,<-l]
  exact h _ (I.tok _)
 ·subst ey
  cases(show u=A5 b from ry)
  obtain⟨z,hd,xs,rel,dd⟩:=ou I.hok e
  refine wpAny_notIn_heap (Df hu) (lu I.hok eb) hd dd ?_
  have q:=(rel.val k).jT
  rw[Gb] at q
  rw[<-q,<-l]
  exact h _ (I.tok _)
theorem qI{h':Heap}{t':Nat}{ob:HO}(I:Inv X pins σ H s)(mu:O_ (H a))(hs:Ck a s.heap h')(he:∃q,h'.get? a=some q)(new:bA X.prog X.w (upd H a ob) h' a ob):
  Inv X pins σ (upd H a ob) {s with heap:=h',toks:=t'}:=
 I.write (x:=a) (e:=a) mu (.inl rfl) (λb q hb z=>(hs.2 b hb).trans z) he new
theorem Pq{P:Af}{w:World}{H':Hp}{h':Heap}{kvs:List (Key×V)}{vs:List (Key×Value)}(z:kvs.length<=sizeLine)(hd:(a == CS)=false)(rel:KV kvs vs)(dd:h'.DictOf (bb P w) a vs):
  bA P w H' h' a (.dK kvs):=⟨z,hd,vs,rel,dd⟩
theorem xi{H':Hp}{Q:Unit->AH->Prop}(hu:A.units+1<cLine)(I:Inv X pins σ H s)(g:j_ H a y v H')(ry:RelV y u)(rv:RelV v r)(h:∀s',Inv X pins σ H' s'->Q () s'):
  wpAny (model X.prog X.w) A (setItem (.ref a) u r) Q E s:=by
 rcases g with⟨kvs,k,e,ey,l,eH⟩ | ⟨kvs,k,b,e,ey,eb,l,eH⟩
 ·subst ey eH
  obtain⟨z,hd,vs,rel,dd⟩:=NC I.hok e
  have hz:vs.length<=sizeLine:=by rw[<-rel.length];exact z
  have hl:(putK kvs k v).length<=sizeLine:=by have:=jI kvs k v;omega
  refine wpAny_setItem_pairs (hsz:=hz) (mB ry) dd λh' uh hs=>h _ ?_
  have he:∃q,h'.get? a=some q:=let ⟨q,_,_,hq,_⟩:=uh;⟨q,hq⟩
  exact qI I (by rw[e];exact By) hs he (Pq hl hd (rel.put k rv) uh)
 ·subst ey eH
  cases(show u=A5 b from ry)
  obtain⟨z,hd,xs,rel,dd⟩:=UD I.hok e
  have hz:xs.length<=sizeLine:=by rw[<-Aq rel];exact z
  have hl:(putK kvs k v).length<=sizeLine:=by have:=jI kvs k v;omega
  refine wpAny_setItem_heap (hsz:=hz) (Df hu) (lu I.hok eb) dd λh' uh hs=>h _ ?_
  obtain⟨q,es,ep,hq,h2,h3,h4,_,h5⟩:=uh
  refine qI I (by rw[e];exact By) hs ⟨q,hq⟩ ⟨hl,hd,_,(rel.put k eb rv).keeps λc ys ec=>?_,q,es,ep,hq,h2,h3,h4,h5⟩
  rw[aD (iV ec e (λz=>nomatch z))]
  exact ec
end
def Sg(i:Expr):Prop:=∀ov iv,Hy i false ov iv=operate [ov,iv] (EV ov iv)
theorem Mi{prog:Af}{w:World}{A:A0}{E:Value->AH->Prop}{s:AH}{env:Env}{value slice:Expr}{pos:Pos}{T id:String}{Q:Value->AH->Prop}
  (hl:HL (.type T) "__getitem__"=pure (some (.builtin id))) (hs:Sg slice)
  (h:wpAny (model prog w) A (eval value env) (λo s₁=>wpAny (model prog w) A (eval slice env) (λi s₂=>s₂.TypeIs o T/\wpAny (model prog w) A (EV o i) Q E s₂) E s₁) E s):
  wpAny (model prog w) A (eval (.Subscript value slice pos) env) Q E s:=by
 refine HM (CC h (λo s₁ h₁=>CC h₁ (λi s₂ h₂=>?_) λ_ _ x=>x) λ_ _ x=>x)
 obtain⟨hT,h₂⟩:=h₂
 unfold FQ
 refine AA ?_
 rw[getitemInPython_of_ne hT.not_modules]
 refine AA (Dk hT hl ?_)
 have fin:wpAny (model prog w) A (Hy slice false o i) (λr s₃=>wpAny (model prog w) A (letTemporaryGo value o r >>= λ_=>pure r) Q E s₃) E s₂:=by
  rw[hs o i]
  exact wpAny_operating (CC h₂ (λr s₃ h₃=>AA (wpAny_letTemporaryGo (AG h₃))) λ_ _ x=>x)
 first
  | exact AG (AA fin)
  | exact AA (AG (AA fin))
  | exact AA fin
theorem rf{X:Cx}{pins:List (Addr×Obj)}{σ:St}{H:Hp}{s:AH}{a:Addr}{y:V}{o:Option V}(I:Inv X pins σ H s)(g:gU H a y o):s.TypeIs (.ref a) "dict":=by
 rcases g with⟨kvs,k,e,_,_⟩ | ⟨kvs,k,b,e,_,_,_⟩
 ·obtain⟨_,_,vs,_,dd⟩:=oq I.hok e
  exact dd.typeIs
 ·obtain⟨_,_,xs,_,dd⟩:=ou I.hok e
  exact dd.typeIs
def abW(td ty:TE):TE:=λσ H Q=>td σ H λx H1=>ty σ H1 λy H2=>∃a v,x=.ref a/\gU H2 a y (some v)/\Q v H2
def abX(td ty tv:TE):TS:=λD σ H=>tv σ H λv H1=>td σ H1 λx H2=>ty σ H2 λy H3=>∃a H4,x=.ref a/\j_ H3 a y v H4/\D.nx σ H4
section
variable{X:Cx}{o i e value:Expr}{pos pos' tpos:Pos}{td ty tv:TE}
theorem iM(hu:X.A.units+1<cLine)(ho:PE X o td)(hi:PE X i ty)(hs:Sg i):PE X (.Subscript o i pos) (abW td ty):=by
 intro pins s σ H Q I h
 refine Mi GS.lookup hs (aK (ho pins s σ H _ I h) λu s1 ⟨x,H1,I1,rx,q1⟩=>aK (hi pins s1 σ H1 _ I1 q1) λiv s2 ⟨y,H2,I2,ry,a,v,ex,g,q2⟩=>?_)
 subst ex
 obtain rfl:u=A5 a:=rx
 exact⟨rf I2 g,xh hu I2 g ry λw' s3 I3 i3=>⟨v,H2,I3,i3,q2⟩⟩
theorem Wi(hu:X.A.units+1<cLine)(ho:PE X o td)(hi:PE X i ty)(hv:PE X value tv)(hs:IP value (some (.Subscript o i pos')) pos.line X.env=pure false):
  PS X (.Assign [.Subscript o i pos'] value pos) (abX td ty tv):=by
 intro pins s σ H D I h
 refine wpAny_Assign_Subscript (aK (hv pins s σ H _ I h) λr s1 ⟨v,H1,I1,rv,q1⟩=>aK (ho pins s1 σ H1 _ I1 q1) λu s2 ⟨x,H2,I2,rx,q2⟩=>aK (hi pins s2 σ H2 _ I2 q2) λiv s3 ⟨y,H3,I3,ry,a,H4,ex,g,q3⟩=>?_) hs
 subst ex
 obtain rfl:u=A5 a:=rx
 exact xi hu I3 g ry rv λs4 I4=>⟨σ,H4,I4,q3⟩
end
theorem Sh{P:Af}{w:World}{H:Hp}(h:Heap)(hb:CS<h.objs.size):bA P w H (h.push {cls:=.type "dict",data:=.dict #[]}) h.objs.size (.dK []):=
 ⟨BI _,beq_eq_false_iff_ne.mpr (C0 (Ac hb)),[],.nil,Ja h⟩
theorem zE{P:Af}{w:World}{H:Hp}(h:Heap)(hb:CS<h.objs.size):bA P w H (h.push {cls:=.type "dict",data:=.dict #[]}) h.objs.size (.dT []):=
 ⟨BI _,beq_eq_false_iff_ne.mpr (C0 (Ac hb)),[],.nil,_, #[],0,AO _ rfl,⟨rfl,rfl,rfl⟩,rfl,rfl,List.nodup_nil⟩
def XT:TE:=λ_ H Q=>∀p,H p=none->Q (.ref p) (upd H p (.dT []))
section
variable{X:Cx}{pos:Pos}
theorem Si:PE X (.Dict [] [] pos) XT:=λpins s σ H Q I h=>
 wpAny_Dict_empty ⟨.ref s.heap.objs.size,_,I.laid (a:=s.heap.objs.size) (o:=.dT []) (t':=s.toks) (λ_ _ q=>AE _ q) (AK _) (zE s.heap I.big),rfl,h _ (I.hok.fresh (AK _))⟩
end
def zF:List (TE×TE)->St->Hp->(List (V×V)->Hp->Prop)->Prop
 | [],_,H,Q=>Q [] H
 | (tk,tv)::r,σ,H,Q=>tk σ H λx H1=>tv σ H1 λy H2=>zF r σ H2 λps H3=>Q ((x,y)::ps) H3
abbrev VV:List (V×V)->List (Value×Value)->Prop:=BV λp q=>RelV p.1 q.1/\RelV p.2 q.2
def Pt(X:Cx)(pos:Pos)(keys:List (Option Expr))(values:List Expr)(ui:List (TE×TE)):Prop:=
 ∀(pins:List (Addr×Obj)) (s:AH) (σ:St) (H:Hp) (Q:List (V×V)->Hp->Prop),Inv X pins σ H s->zF ui σ H Q->
  wpAny (model X.prog X.w) X.A (evalPairs (pairTrees keys values X.env pos)) (λvs s'=>∃ps H',Inv X pins σ H' s'/\VV ps vs/\Q ps H') X.xe s
theorem vp{X:Cx}{pos:Pos}:Pt X pos [] [] []:=λpins s σ H Q I h=>pairTrees_nil_walk ⟨[],H,I,.nil,h⟩
theorem rW{X:Cx}{pos:Pos}{k v:Expr}{ks:List (Option Expr)}{vs:List Expr}{tk tv:TE}{ui:List (TE×TE)}(hk:PE X k tk)(hv:PE X v tv)(hr:Pt X pos ks vs ui):
  Pt X pos (some k::ks) (v::vs) ((tk,tv)::ui):=λpins s σ H Q I h=>
 pairTrees_cons_walk (aK (hk pins s σ H _ I h) λu s1 ⟨x,H1,I1,rx,q1⟩=>aK (hv pins s1 σ H1 _ I1 q1) λw2 s2 ⟨y,H2,I2,ry,q2⟩=>
  aK (hr pins s2 σ H2 _ I2 q2) λws s3 ⟨ps,H3,I3,rel,q3⟩=>⟨(x,y)::ps,H3,I3,.cons ⟨rx,ry⟩ rel,q3⟩)
def c_(kvs more:List (Key×V)):List (Key×V):=more.foldl (λacc kv=>putK acc kv.1 kv.2) kvs
theorem KV.merge:∀{more:List (Key×V)} {rs:List (Key×Value)} {kvs:List (Key×V)} {vs:List (Key×Value)},KV more rs->KV kvs vs->KV (c_ kvs more) (I0 vs rs):=by
 intro more rs kvs vs r
 unfold KV at r
 induction r generalizing kvs vs with
 | nil=>intro q;exact q
 | @cons p q ps qs h t ih=>
  intro r0
  have e:KV (putK kvs p.1 p.2) (stored vs q.1 q.2):=by
   have:=r0.put p.1 h.2
   rw[<-h.1];exact this
  exact ih e
theorem j1:∀(more kvs:List (Key×V)),(c_ kvs more).length<=kvs.length+more.length
 | [],kvs=>by show kvs.length<=kvs.length+0;omega
 | p::r,kvs=>by
  have h1:=j1 r (putK kvs p.1 p.2)
  have h2:=jI kvs p.1 p.2
  show(c_ (putK kvs p.1 p.2) r).length<=_
  rw[Aj];omega
theorem uj{P:Af}{w:World}:∀{kvs:List (Key×V)} {ws:List (Value×Value)},VV (kvs.map λkv=>(kV kv.1,kv.2)) ws->∃rs,Carries (bb P w) ws rs/\KV kvs rs
 | [],_,r=>by rw[HK] at r;cases r;exact⟨[],By,.nil⟩
 | p::kvs,_,r=>by
  rw[Aw] at r
  cases r with
  | @cons a b as bs h t=>
   obtain⟨rs,c,q⟩:=uj (P:=P) (w:=w) t
   obtain⟨b1,b2⟩:=b
   exact⟨(p.1,b2)::rs,⟨mB h.1,rfl,c⟩,.cons ⟨rfl,h.2⟩ q⟩
def abY(ui:List (TE×TE)):TE:=λσ H Q=>∀p,H p=none->zF ui σ (upd H p (.dK [])) λps H2=>H2 p=some (.dK [])/\∃kvs:List (Key×V),ps=kvs.map (λkv=>(kV kv.1,kv.2))/\kvs.length<=15/\Q (.ref p) (upd H2 p (.dK (c_ [] kvs)))
theorem Mj{X:Cx}{pos:Pos}{keys:List (Option Expr)}{values:List Expr}{ui:List (TE×TE)}(h:Pt X pos keys values ui)(hall:keys.all (·.isSome)=true)(hl:keys.length=values.length)(h0:keys≠[])
  (h15:keys.length<=15):PE X (.Dict keys values pos) (abY ui):=by
 intro pins s σ H Q I q
 have hn:=I.hok.fresh (AK s.heap.objs.size)
 have I1:=I.laid (a:=s.heap.objs.size) (o:=.dK []) (h':=s.heap.push {cls:=.type "dict",data:=.dict #[]}) (t':=s.toks) (λ_ _ q=>AE _ q) (AK _) (Sh s.heap I.big)
 refine wpAny_Dict_walk (knd:=bb X.prog X.w) hall hl h0 h15 (aK (h pins _ σ _ _ I1 (q _ hn)) λws s2 ⟨ps,H2,I2,rel,e,kvs,ep,lk,q2⟩=>?_)
 subst ep
 obtain⟨rs,c,rk⟩:=uj (P:=X.prog) (w:=X.w) rel
 obtain⟨z,hd,vs0,r0,dd⟩:=NC I2.hok e
 cases r0
 refine⟨rs,c,dd,λh' uh hs=>⟨.ref s.heap.objs.size,_,?_,rfl,q2⟩⟩
 have hz:(c_ [] kvs).length<=sizeLine:=by
  have h1:=j1 kvs []
  rw[B5] at h1
  rw[Cg];omega
 have he:∃q,h'.get? s.heap.objs.size=some q:=let ⟨q,_,_,hq,_⟩:=uh;⟨q,hq⟩
 exact qI I2 (by rw[e];exact By) hs he (Pq hz hd (rk.merge .nil) uh)
structure M2 (X:Cx)(o:Expr)(m:Str)(apos:Pos)(e f:Expr)(cpos:Pos):Prop where
 base:Gs o m X.env (eval o X.env)=eval o X.env
 few:((EH cpos (BO [e,f] X.env)).all (λx=> !x.1)&&(backToKw cpos (keywordEach [] X.env)).all (λx=>x.1.isSome)
  &&decide (([e,f]:List Expr).length+([]:List JH).length+(if([]:List JH).isEmpty then 0 else 1)<30))=true
 line:(apos.endLine == cpos.line)=true
 trees:EH cpos (BO [e,f] X.env)=[(false,eval e X.env),(false,eval f X.env)]
def IsD(H:Hp)(a:Addr):Prop:=(∃kvs,Rd H a (.dK kvs))∨∃kvs,Rd H a (.dT kvs)
theorem XU{X:Cx}{pins:List (Addr×Obj)}{σ:St}{H:Hp}{s:AH}{a:Addr}(I:Inv X pins σ H s)(d:IsD H a):
  s.TypeIs (.ref a) "dict"/\(∀b,A5 a=.ref b->∃ob,s.heap.get? b=some ob/\ob.dict=none)/\(a == CS)=false:=by
 rcases d with⟨kvs,e⟩ | ⟨kvs,e⟩
 ·obtain⟨_,hd,vs,_,dd⟩:=oq I.hok e
  refine⟨dd.typeIs,λb q=>?_,hd⟩
  cases q
  obtain⟨ob,_,_,h1,h2,_⟩:=dd
  exact⟨ob,h1,h2.2.1⟩
 ·obtain⟨_,hd,xs,_,dd⟩:=ou I.hok e
  refine⟨dd.typeIs,λb q=>?_,hd⟩
  cases q
  obtain⟨ob,_,_,h1,h2,_⟩:=dd
  exact⟨ob,h1,h2.2.1⟩
section
variable{X:Cx}{pins:List (Addr×Obj)}{σ:St}{H:Hp}{s:AH}{a:Addr}{y d:V}{u r:Value}{o:Option V}{A:A0}{E:Value->AH->Prop}
theorem XW{Q:Value->AH->Prop}(hu:A.units+1<cLine)(I:Inv X pins σ H s)(g:gU H a y o)(ry:RelV y u)(rd:RelV d r)(h:∀w' s',Inv X pins σ H s'->RelV (o.getD d) w'->Q w' s'):
  wpAny (model X.prog X.w) A (call (.builtin "dict.get") [.ref a,u,r]) Q E s:=by
 rcases g with⟨kvs,k,e,ey,l⟩ | ⟨kvs,k,b,e,ey,eb,l⟩
 ·subst ey
  obtain⟨z,hd,vs,rel,dd⟩:=oq I.hok e
  refine call_meetsIn DG dd.typeIs Et (Ei _ _ _) (meets_dict_get_default (bb X.prog X.w) a (mB ry) hd r) ⟨_,dd.mapOf,h _ _ (I.tok _) ?_⟩
  rw[l]
  exact(rel.val k).getD rd
 ·subst ey
  cases(show u=A5 b from ry)
  obtain⟨z,hd,xs,rel,dd⟩:=ou I.hok e
  refine call_meetsIn DG dd.typeIs Et (Ei _ _ _) (meetsH_dict_get_default (FG (bb X.prog X.w)) a b hd r) ⟨Df hu,k,xs,lu I.hok eb,dd,h _ _ (I.tok _) ?_⟩
  rw[l]
  exact(rel.val k).getD rd
end
def XX(td ty tx:TE):TE:=λσ H Q=>td σ H λx H1=>∃a,x=.ref a/\IsD H1 a/\ty σ H1 λy H2=>tx σ H2 λz H3=>∃o,gU H3 a y o/\Q (o.getD z) H3
section
variable{X:Cx}{o e f:Expr}{apos cpos:Pos}{td ty tx:TE}
theorem Sj(hu:X.A.units+1<cLine)(ho:PE X o td)(he:PE X e ty)(hf:PE X f tx)(m:M2 X o "get" apos e f cpos):PE X (.Call (.Attribute o "get" apos) [e,f] [] cpos) (XX td ty tx):=by
 intro pins s σ H Q I h
 refine wpAny_Call_method m.base m.few m.line G7 DG Hn (aK (ho pins s σ H _ I h) λu s1 ⟨x,H1,I1,rx,a,ex,d,q1⟩=>?_)
 subst ex
 obtain rfl:u=A5 a:=rx
 obtain⟨t1,t2,_⟩:=XU I1 d
 refine⟨t1,t2,?_⟩
 rw[m.trees]
 refine De rfl (D1 (C_ (aK (he pins s1 σ H1 _ I1 q1) λiv s2 ⟨y,H2,I2,ry,q2⟩=>
  C_ (aK (hf pins s2 σ H2 _ I2 q2) λfv s3 ⟨z,H3,I3,rz,ov,g,q3⟩=>El ?_))))
 exact XW hu I3 g ry rz λw' s4 I4 i3=>⟨_,H3,I4,i3,q3⟩
end
section
variable{X:Cx}{pins:List (Addr×Obj)}{σ:List (Option V)}{H H':Hp}{s:AH}{h':Heap}
theorem Inv.rX{t':Nat}{ch:List Addr}{p:Addr}{o:HO}(I:Inv X pins σ H s)(hf:∀b∈ch,iY X pins H b)
  (k:∀b u,b ∉ ch->s.heap.get? b=some u->h'.get? b=some u) (hp:s.heap.objs.size<=p) (new:bA X.prog X.w (upd H p o) h' p o):
  Inv X pins σ (upd H p o) {s with heap:=h',toks:=t'}:=by
 have hn:H p=none:=I.hok.fresh hp
 have pV:∀b u,H b=some u->b ∉ ch:=λb u e z=>by have q:=(hf b z).1;rw[e] at q;cases q
 have old:∀b u,s.heap.get? b=some u->b≠p:=λb u e=>Ac (AZ (AU e) hp)
 have uk:∀b u,H b=some u->upd H p o b=some u:=λb u e=>by rw[aD (aC e hn)];exact e
 refine I.step (g':=s.gens) (d':=s.drawn) (ch:=ch) (λb hb=>?_) (λb o _ _ hc e _=>k b o hc e) (λb o _ _ hc e _=>⟨o.slots,k b o hc e⟩) (λb o _ e n=>by rw[aD (old b o e)];exact n)
  (λb o hc e=>⟨o,k b o hc e⟩) (λb xs e=>uk b _ e) (λb _ _ e=>uk b _ e) (λb ps e=>⟨#[],by rw[uk b _ e];simp⟩) (λm hm=>?_) (λb u e=>?_) I.bare
 ·obtain⟨f0,f1,f2,f3,f4,f5⟩:=hf b hb
  exact⟨f3,f1,f4,f5⟩
 ·obtain⟨ob,es,ep,ho,r⟩:=hm
  exact⟨ob,es,ep,k _ ob (λz=>(hf _ z).2.1 rfl) ho,r⟩
 ·by_cases hb:b=p
  ·subst hb;rw[af] at e;cases e;exact new
  ·rw[aD hb] at e
   refine(I.hok b u e).stay (λc v hc q=>k c v ?_ q) (λc q=>uk c _ q) λc xs q=>uk c _ q
   rcases hc with z | z
   ·rw[z];exact pV b u e
   ·exact pV c _ z
end
def Pu(K:AD)(a:Addr):It:=
 ⟨λi H=>∃xs x,bG K H a xs/\xs[i]? =some x,
  λi H x H'=>∃y p,(∀xs,bG K H a xs->xs[i]? =some y)/\H p=none/\x=.ref p/\H'=upd H p (.tup [.int i,y]),
  λi H=>∃xs,bG K H a xs/\xs.length<=i⟩
theorem Pw{P:Af}{w:World}{K:AD}{elts:List Expr}{x1}{tpos:Pos}(a e it:Addr)(hne:e≠it):
  Turn P w K (.Tuple elts x1 tpos) (Pu K a) [e,it] e (λi h=>(∃old,IsEnum h e it i old)/\h.IsListIter it a i) where
 mem:=by simp
 obj:=λi h st b hb=>by
  obtain⟨⟨old,st1⟩,st2⟩:=st
  rcases AV.mp hb with z | z
  ·subst z;exact⟨_,st1,λv z=>by cases z⟩
  ·have z':b=it:=by simpa using z
   subst z'
   obtain⟨o,e,c,d⟩:=st2
   exact⟨o,e,λv z=>by rw[d] at z;cases z⟩
 keep:=λi h h' st k=>by
  obtain⟨⟨old,st1⟩,st2⟩:=st
  exact⟨⟨old,k e (by simp) _ st1⟩,st2.at λo q=>k it (by simp) o q⟩
 item:=by
  intro X hP hw hK hc i pins s σ H E I hf st hg
  subst hP hw hK
  obtain⟨⟨old,st1⟩,st2⟩:=st
  obtain⟨xs,x,hq,hx⟩:=hg
  obtain⟨its,rv,p,hz⟩:=I.list hq
  obtain⟨u,hu,ru⟩:=rv.get hx
  refine wpAny_pyNext_enum_item st1 st2 p.isList (x:=u) (by simpa using hu) hne λh1 eo XY ht hsz kk=>?_
  have nn:H s.heap.objs.size=none:=I.hok.fresh (AK _)
  have I1:Inv X pins σ (upd H s.heap.objs.size (.tup [.int i,x])) {s with heap:=h1,toks:=s.toks+1}:=
   I.rX (ch:=[e,it]) hf (λb o hb q=>kk b o (λz=>hb (by simp[z])) (λz=>hb (by simp[z])) q) (AK _)
    ⟨⟨by show 2<=sizeLine;decide,_,ht,rfl⟩,[.int i s.toks,u],.cons ⟨_,rfl⟩ (.cons ru .nil),⟨_,ht,rfl,_,rfl⟩⟩
  have le:e<s.heap.objs.size:=AU st1
  have li:it<s.heap.objs.size:=by obtain⟨o,q,_⟩:=id st2;exact AU q
  refine⟨_,rfl,GG eo λh2 e2 sb=>?_⟩
  obtain⟨f0,f1,f2,f3,f4,f5⟩:=hf e (by simp)
  have I2:=I1.turned (h':=h2) (t':=s.toks+1) (it:=e) (λb o hb q=>(sb.2 b hb).trans q) (by rw[aD (Ac le)];exact f0) f1 f3 f4 f5
  refine⟨.ref s.heap.objs.size,_,I2,rfl,⟨x,s.heap.objs.size,λys hy=>by rw[I.oi hy hq];exact hx,nn,rfl,rfl⟩,⟨⟨u,by simpa using e2⟩,XY.at λo q=>(sb.2 it (C0 hne)).trans q⟩,λb hb=>?_⟩
  rcases AV.mp hb with z | z
  ·subst z;rw[aD (Ac le)];exact f0
  ·have z':b=it:=by simpa using z
   subst z';rw[aD (Ac li)];exact(hf b (by simp)).1
 done:=by
  intro X hP hw hK hc i pins s σ H E I hf st hg
  subst hP hw hK
  obtain⟨⟨old,st1⟩,st2⟩:=st
  obtain⟨xs,hq,hx⟩:=hg
  obtain⟨its,rv,p,hz⟩:=I.list hq
  obtain⟨f0,f1,f2,f3,f4,f5⟩:=hf it (by simp)
  have hl:=rv.length
  exact wpAny_pyNext_enum_end (I.ok.hd hc) st1 st2 p.isList (by simp;omega) λh' eb=>⟨rfl,I.turned (t':=s.toks) (λb o hb e=>eb b o hb e) f0 f1 f3 f4 f5⟩
 self:=λ_ _ _ _ _ st h=>by
  obtain⟨⟨old,st1⟩,st2⟩:=st
  exact Eu st1 h
def abZ(K:AD)(ta:TA):TI:=λσ H R=>ta σ H λvs H1=>∃a,vs=[.ref a]/\(∃xs,bG K H1 a xs)/\R (Pu K a) H1
theorem Ml{X:Cx}{elts:List Expr}{x1}{tpos:Pos}{a:Expr}{ta:TA}{p pos:Pos}(hg:Gl X "enumerate")(hm:X.mg "enumerate"=none)(ha:PA X [a] ta)(hs:BO [a] X.env=[(false,eval a X.env)]:=by rfl):
  PI X (.Tuple elts x1 tpos) (.Call (.Name "enumerate" p) [a] [] pos) (abZ X.K ta):=by
 intro pins s σ H R I h
 refine Call_ (gY I hg hm boot_enumerate (Bd (aK (ha pos pins s σ H _ I h) λus s1 ⟨vs,H1,I1,r1,q1⟩=>?_) hs rfl))
 obtain⟨l,e,⟨xs,hq⟩,q⟩:=q1
 subst e
 cases r1 with
 | cons r rr=>
  cases rr
  cases r
  obtain⟨its,rv,pl,hz⟩:=I1.list hq
  refine call_enumerate_list pl.isList λh' he hit hsz kk=>?_
  have I2:Inv X pins σ H1 {s1 with heap:=h'}:=I1.kept (t':=s1.toks) kk
  refine Eu he ?_
  refine⟨s1.heap.objs.size+1,[s1.heap.objs.size+1,s1.heap.objs.size],_,_,H1,rfl,I2,Pw l _ _ (Nat.succ_ne_self _),⟨⟨_,by simpa using he⟩,hit⟩,λb hb=>?_,q⟩
  rcases AV.mp hb with z | z
  ·subst z;exact I1.mS (B8 _) (I1.hok.fresh (B8 _))
  ·have z':b=s1.heap.objs.size:=by simpa using z
   subst z';exact I1.mS (AK _) (I1.hok.fresh (AK _))
theorem zG{K:AD}{a:Addr}{xs:List V}{g:TG}{tb:TS}{D:Ends}{σ:St}{H:Hp}(Pv:Nat->St->Hp->Prop)(h0:Pv 0 σ H)(hl:∀i σ H,i<=xs.length->Pv i σ H->bG K H a xs)
  (hs:∀i x p σ H,xs[i]? =some x->Pv i σ H->H p=none->g (.ref p) σ (upd H p (.tup [.int i,x])) λσ2 H2=>tb {D with nx:=Pv (i+1),ct:=Pv (i+1),bk:=D.nx} σ2 H2) (hd:∀σ H,Pv xs.length σ H->D.nx σ H):
  ∃W:Nat->Nat->St->Hp->Prop,(∃m,W 0 m σ H)/\∀i m σ H,W i m σ H->
   ((Pu K a).stop i H/\D.nx σ H)∨((Pu K a).go i H/\∃N:St->Hp->Prop,(∀σ' H',N σ' H'->∃m',m'<m/\W (i+1) m' σ' H')/\∀x H',(Pu K a).t7 i H x H'->g x σ H' λσ2 H2=>tb {D with nx:=N,ct:=N,bk:=D.nx} σ2 H2):=by
 refine⟨λi m σ H=>m=xs.length-i/\i<=xs.length/\Pv i σ H,⟨xs.length,by simp,BI _,h0⟩,?_⟩
 rintro i m σ H ⟨rfl,hi,p⟩
 have q:=hl i σ H hi p
 by_cases hlt:i<xs.length
 ·refine .inr ⟨⟨xs,xs[i],q,by simp[hlt]⟩,Pv (i+1),λσ' H' p'=>⟨xs.length-(i+1),by omega,rfl,hlt,p'⟩,λx H' y=>?_⟩
  obtain⟨z,pa,hz,hn,e1,e2⟩:=y
  subst e1 e2
  exact hs i z pa σ H (hz xs q) p hn
 ·have e:i=xs.length:=by omega
  subst e
  exact .inl ⟨⟨xs,q,AK _⟩,hd σ H p⟩
def gV(env:Env):List (Str×Cz)->List (Str×Addr)->List (Str×Addr)
 | [],cs=>cs
 | (n,k)::r,cs=>gV env r (if k == .free then(n,(env.cells.lookup n).getD 0)::cs else cs)
theorem um{env:Env}:∀(names:List (Str×Cz)) (cs:List (Str×Addr)),(∀y∈names,y.2=.free->∃c,env.cells.lookup y.1=some c)->
  (forIn names cs λ(x:Str×Cz) (r:List (Str×Addr))=>(match x with
   | (name,kind)=>if(kind == BZ)=true then(cellOf env name >>= λa=>pure (B6 ((name,a)::r)):Sem (ForInStep (List (Str×Addr)))) else pure (B6 r)))=pure (gV env names cs)
 | [],cs,_=>rfl
 | (n,k)::r,cs,h=>by
  have ih:=λcs'=>um r cs' λy hy=>h y (AM _ hy)
  rw[Dl]
  by_cases hk:k=.free
  ·subst hk
   obtain⟨c,hc⟩:=h (n,.free) AQ rfl
   have e:cellOf env n=pure c:=by unfold cellOf;rw[hc]
   simp only[beq_self_eq_true,if_true,e,pure_bind]
   rw[ih]
   show _=pure (gV env r (if(BZ == BZ)=true then _ else _))
   rw[hc];rfl
  ·have hb:(k == BZ)=false:=by simpa using hk
   simp only[hb,A',if_false,pure_bind]
   rw[ih]
   show _=pure (gV env r (if(k == BZ)=true then _ else _))
   rw[hb];rfl
theorem mC{env:Env}{scope:Scope}(h:∀y∈scope.names,y.2=.free->∃c,env.cells.lookup y.1=some c):I_ scope env=pure (gV env scope.names []):=by
 unfold I_
 have e:=um (env:=env) scope.names [] h
 show((forIn scope.names [] _:Sem (List (Str×Addr))) >>= λcs=>pure cs)=_
 rw[bind_pure]
 refine Eq.trans ?_ e
 first
  | rfl
  | (congr 1;funext x r;obtain⟨n,k⟩:=x;dsimp only;split<;>simp)
theorem zH{env:Env}{x:Str}{c:Addr}:∀(names:List (Str×Cz)) (cs:List (Str×Addr)),(x,c)∈gV env names cs->(x,c)∈cs∨((x,BZ)∈names/\c=(env.cells.lookup x).getD 0)
 | [],cs,h=>.inl h
 | (n,k)::r,cs,h=>by
  have h':(x,c)∈gV env r (if(k == BZ)=true then(n,(env.cells.lookup n).getD 0)::cs else cs):=h
  rcases zH r _ h' with z | ⟨z1,z2⟩
  ·by_cases hk:k=.free
   ·subst hk
    simp only[beq_self_eq_true,if_true,AV] at z
    rcases z with z | z
    ·cases z;exact .inr ⟨AQ,rfl⟩
    ·exact .inl z
   ·have hb:(k == BZ)=false:=by simpa using hk
    rw[hb] at z
    exact .inl z
  ·exact .inr ⟨AM _ z1,z2⟩
theorem xj{env:Env}{p:Str×Addr}:∀(names:List (Str×Cz)) (cs:List (Str×Addr)),p∈cs->p∈gV env names cs
 | [],cs,h=>h
 | (n,k)::r,cs,h=>by
  show p∈gV env r (if(k == BZ)=true then(n,(env.cells.lookup n).getD 0)::cs else cs)
  refine xj r _ ?_
  split
  ·exact AM _ h
  ·exact h
theorem zI{env:Env}{x:Str}:∀(names:List (Str×Cz)) (cs:List (Str×Addr)),(x,BZ)∈names->(x,(env.cells.lookup x).getD 0)∈gV env names cs
 | [],_,h=>by cases h
 | (n,k)::r,cs,h=>by
  show _∈gV env r (if(k == BZ)=true then(n,(env.cells.lookup n).getD 0)::cs else cs)
  rcases AV.mp h with z | z
  ·cases z
   exact xj r _ (by simp)
  ·exact zI r _ z
theorem nz{α β:Type}[BEq α][LawfulBEq α]{x:α}{c:β}:∀{l:List (α×β)},l.lookup x=some c->(x,c)∈l
 | [],h=>by simp at h
 | (n,k)::r,h=>by
  rw[DW] at h
  by_cases e:x=n
  ·subst e;simp at h;subst h;exact AQ
  ·have:(x == n)=false:=by simpa using e
   rw[this] at h
   exact AM _ (nz h)
theorem nA{α β:Type}[BEq α][LawfulBEq α]{x:α}{c:β}:∀{l:List (α×β)},(x,c)∈l->∃c',l.lookup x=some c'
 | [],h=>by cases h
 | (n,k)::r,h=>by
  rw[DW]
  by_cases e:x=n
  ·subst e;simp
  ·have q:(x == n)=false:=by simpa using e
   rw[q]
   rcases AV.mp h with z | z
   ·cases z;exact absurd rfl e
   ·exact nA z
theorem eP{env:Env}{x:Str}{k':Cz}:∀{names:List (Str×Cz)},
  (names.map λ(n,k)=>if(k == BZ&&env.scope.kind == .function&&env.kindOf n == some .cell) then(n,FR) else(n,k)).lookup x=some k'->
  (x,k')∈names∨(k'=.cell/\(x,BZ)∈names)
 | [],h=>by simp at h
 | (n,k)::r,h=>by
  rw[Aw,DW] at h
  dsimp only at h
  by_cases e:x=n
  ·subst e
   by_cases hc:(k == BZ&&env.scope.kind == .function&&env.kindOf x == some .cell)=true
   ·rw[if_pos hc] at h
    simp at h
    have hk:k=.free:=by
     simp only[Bz,beq_iff_eq] at hc
     exact hc.1.1
    subst hk
    exact .inr ⟨h.symm,AQ⟩
   ·rw[if_neg hc] at h
    simp at h
    subst h
    exact .inl AQ
  ·have q:(x == (if(k == BZ&&env.scope.kind == .function&&env.kindOf n == some .cell)=true then(n,FR) else(n,k)).1)=false:=by
    split<;>simpa using e
   rw[q] at h
   rcases eP h with z | ⟨z1,z2⟩
   ·exact .inl (AM _ z)
   ·exact .inr ⟨z1,AM _ z2⟩
structure aP (X:Cx)(scope:Scope)(own aI:List Str)(bN:List Nat):Prop where
 cell:∀y∈scope.names,y.2≠.cell
 kind:scope.kind=.function
 names:∀y∈scope.names,y.2=.local->scope.names.lookup y.1=some .local
 free:∀y∈scope.names,y.2=.free->X.env.scope.names.lookup y.1=some .cell∨X.env.scope.names.lookup y.1=some .free
 frl:bN.length=aI.length
 frN:∀(i j:Nat),bN[i]? =some j->X.N[j]? =aI[i]?
 frF:∀x∈aI,(x,BZ)∈scope.names/\scope.names.lookup x=some .free
def gm(X:Cx)(own aI:List Str)(scope:Scope)(C:Addr)(s₃:AH)(H₃:Hp)(fp:List Addr):Cx:=
 {X with N:=own++aI,s₀:=s₃,H₀:=H₃,env:=compEnvC scope (gV X.env scope.names []) C X.env,outer:=X.stack,stack:=X.stack,ex:=fp,fn:=λ_=>false,pn:=[],xe:=λ_ _=>False}
def zJ(own:List Str)(bN:List Nat)(σ:St):St:=C' own.length none++bN.map λj=>(σ[j]?).join
section
variable{X:Cx}{pins:List (Addr×Obj)}{σ:List (Option V)}{H:Hp}{s:AH}{scope:Scope}{own aI:List Str}{bN:List Nat}
theorem aP.cells(sc:aP X scope own aI bN)(ok:X.Ok):∀y∈scope.names,y.2=.free->∃c,X.env.cells.lookup y.1=some c:=λy hy hf=>by
 rcases sc.free y hy hf with z | z
 ·exact ok.has y.1 (.inl z)
 ·exact ok.has y.1 (.inr z)
theorem aP.look(sc:aP X scope own aI bN)(ok:X.Ok){x:Str}{c:Addr}(h:(gV X.env scope.names []).lookup x=some c):X.env.cells.lookup x=some c/\(x,BZ)∈scope.names:=by
 rcases zH _ _ (nz h) with z | ⟨z1,z2⟩
 ·cases z
 ·obtain⟨c',hc⟩:=sc.cells ok (x,.free) z1 rfl
  have hc':X.env.cells.lookup x=some c':=hc
  rw[hc'] at z2
  have z3:c=c':=z2
  subst z3
  exact⟨hc',z1⟩
theorem aP.UE(sc:aP X scope own aI bN)(ok:X.Ok){x:Str}(h:(x,BZ)∈scope.names):∃c,(gV X.env scope.names []).lookup x=some c/\X.env.cells.lookup x=some c:=by
 obtain⟨c,hc⟩:=nA (zI (env:=X.env) scope.names [] h)
 exact⟨c,hc,(sc.look ok hc).1⟩
theorem Inv.block{fp:List Addr}{h₄:Heap}{tk:Nat}(I:Inv X pins σ H s)(sc:aP X scope own aI bN)(hfp:∀b∈fp,iY X pins H b)(hfl:∀b∈fp,b<s.heap.objs.size)
  (k:∀b o,s.heap.get? b=some o->h₄.get? b=some o) (hn:h₄.Ns s.heap.objs.size λ_=>none):
  Inv (gm X own aI scope s.heap.objs.size s H fp) [] (zJ own bN σ) H {s with heap:=h₄,toks:=tk}:=by
 have ok:=I.ok
 refine⟨⟨ok.mod,by show(relabel scope X.env).kind=_;exact sc.kind,ok.glob,ok.blt,AK _,?_,?_,λx c h=>(nomatch h),ok.hd,ok.frames,.inl rfl,?_,λb o e=>I.bs b o e,A1 ok.pT I.sz,?_,?_,I.stack,I.ni⟩,rfl,I.bare,Un.kept k,?_,?_,I.fresh,?_,λp hp=>(nomatch hp),I.hok.kept k,?_⟩
 ·intro x y c e1 e2
  exact ok.inj x y c (sc.look ok e1).1 (sc.look ok e2).1
 ·intro x h
  have mem:(x,BZ)∈scope.names:=by
   rcases h with h | h
   ·rcases eP h with z | ⟨_,z⟩
    ·exact absurd rfl (sc.cell _ z)
    ·exact z
   ·rcases eP h with z | ⟨z,_⟩
    ·exact z
    ·cases z
  obtain⟨c,hc,_⟩:=sc.UE ok mem
  exact⟨c,hc⟩
 ·intro b hb
  obtain⟨f0,f1,f2,f3,f4,f5⟩:=hfp b hb
  exact⟨Ac (hfl b hb),λx c e=>f4 x c (sc.look ok e).1⟩
 ·intro b o e hb
  rcases(hfp b hb).2.2.2.1 with z | z
  ·exact ok.zj b o e z
  ·exact absurd (AZ (AU e) (A1 ok.pT z)) (Bm _)
 ·intro b hb hfs
  obtain⟨f0,f1,f2,_⟩:=hfp b hb
  rcases AV.mp (I.pU b hfs) with z | z
  ·exact f1 z
  ·exact f2 z
 ·refine⟨_,hn,λi x v e1 e2 e3=>?_⟩
  have e1':(own++aI)[i]? =some x:=e1
  have e2':(C' own.length none++bN.map λj=>(σ[j]?).join)[i]? =some (some v):=e2
  by_cases hi:i<own.length
  ·rw[Am (by simpa using hi)] at e2'
   rw[G5] at e2'
   split at e2'<;>cases e2'
  ·rw[Ag (by simp;omega),FC] at e2'
   rw[Ag (by omega)] at e1'
   rw[AJ] at e2'
   cases ej:bN[i-own.length]? with
   | none=>rw[ej] at e2';cases e2'
   | some j=>
    rw[ej] at e2'
    have ND:(σ[j]?).join=some v:=by simpa using e2'
    have e4:σ[j]? =some (some v):=by
     cases q:σ[j]? with
     | none=>rw[q] at ND;cases ND
     | some o=>rw[q] at ND;simpa using ND
    have e5:=(sc.frN _ j ej).trans e1'
    obtain⟨hm,hlk⟩:=sc.frF x (AI e1')
    obtain⟨m,hnL,hl⟩:=I.loc
    have hv:L5 X.env.scope x:=by
     rcases sc.free (x,.free) hm rfl with z | z
     ·exact .inr (.inl z)
     ·exact .inr (.inr z)
    obtain⟨u,r,lk⟩:=hl j x v e5 e4 hv
    refine⟨u,r,.inr ?_⟩
    obtain⟨c,hc,hc'⟩:=sc.UE ok hm
    have XZ:h₄.IsCell c (some u):=by
     rcases lk with⟨z,_⟩ | ⟨_,c',hx,⟨o,ho,hd⟩⟩
     ·exfalso
      have z':X.env.scope.names.lookup x=some .local:=z
      rcases sc.free (x,.free) hm rfl with q | q
      ·rw[show X.env.scope.names.lookup x=some .cell from q] at z';cases z'
      ·rw[show X.env.scope.names.lookup x=some .free from q] at z';cases z'
     ·rw[hc'] at hx;cases hx
      exact⟨o,k _ o ho,hd⟩
    refine⟨?_,c,hc,XZ⟩
    have e3':L5 (relabel scope X.env) x:=e3
    rcases e3' with z | z | z
    ·exfalso
     rcases eP z with q | ⟨q,_⟩
     ·have:=sc.names _ q rfl
      rw[show scope.names.lookup x=some .local from this] at hlk
      cases hlk
     ·cases q
    ·exact .inl z
    ·exact .inr z
 ·intro x c e
  obtain⟨v,o,ho,hd⟩:=I.cell x c (sc.look ok e).1
  exact⟨v,o,k _ o ho,hd⟩
 ·intro x c e
  exact I.gG x c (sc.look ok e).1
 ·show(C' own.length none++bN.map λj=>(σ[j]?).join).length=(own++aI).length
  simp[sc.frl]
end
theorem ox{prog:Af}{w:World}{A:A0}{R:JS->AH->Prop}{s:AH}{elt target iter:Expr}{ifs:List Expr}{scope:Scope}{pos:Pos}{it acc:Value}{env:Env}(I:Nat->AH->Prop)
  (turn:∀n s,I n s->wpAny (model prog w) A (C1 it) (λr s₁=>match r with
   | none=>R (.ok .next) s₁
   | some v=>wpAny (model prog w) A (Fd target it v) (λ_ s₁'=>wpAny (model prog w) A (assign target env v) (λ_ s₂=>
     wpAny (model prog w) A (forIn ifs true λc r=>if r=true then do let ok <-isTrue c env (eval c env);pure (B6 ok) else pure (B6 r)) (λok s₃=>
      if ok=true then wpAny (model prog w) A (eval elt env) (λx s₄=>
       wpAny (model prog w) A (call (.builtin "list.append") [acc,x]) (λ_ s₅=>∃m,m<n/\I m s₅) (λ_ _=>False) s₄) (λ_ _=>False) s₃
      else ∃m,m<n/\I m s₃) (λ_ _=>False) s₂) (λ_ _=>False) s₁') (λ_ _=>False) s₁) (λ_ _=>False) s)
  (n:Nat) (h:I n s):
  Em (model prog w) A (.compLoop (.ListComp elt [⟨target,iter,ifs,0⟩] scope pos) 0 it acc env) R s:=by
 refine codeAny_loop rfl I (λn s hI=>?_) n h
 show wpAny _ A ((compTurn (.ListComp elt [⟨target,iter,ifs,0⟩] scope pos) 0 it acc env).onRaise (λx=>do noteFrame x env;theTreesLotGoes x)) _ _ s
 refine wpAny_noted ?_
 rw[compTurn_list]
 refine AA (Gp (AA (CC (turn n s hI) (λr s₁ h₁=>?_) λ_ _ h'=>h'.elim)))
 cases r with
 | none=>exact AG h₁
 | some v=>
  refine AA (CC h₁ (λ_ s₁' h₁'=>?_) λ_ _ h'=>h'.elim)
  refine AA (CC h₁' (λ_ s₂ h₂=>AA (CC h₂ (λok s₃ h₃=>?_) λ_ _ h'=>h'.elim)) λ_ _ h'=>h'.elim)
  cases ok with
  | false=>exact AG ⟨rfl,h₃⟩
  | true=>
   exact AA (AA (CC h₃ (λx s₄ h₄=>AA (CC h₄ (λ_ s₅ h₅=>AG (AG ⟨rfl,h₅⟩)) λ_ _ h'=>h'.elim)) λ_ _ h'=>h'.elim))
def vq(X:Cx)(ifs:List Expr)(t:TT):Prop:=
 ∀(pins:List (Addr×Obj)) (s:AH) (σ:St) (H:Hp) (Q:Bool->Hp->Prop),Inv X pins σ H s->t σ H Q->
  wpAny (model X.prog X.w) X.A (forIn ifs true λc r=>if r=true then do let ok <-isTrue c X.env (eval c X.env);pure (B6 ok) else pure (B6 r)) (TP X pins σ Q) X.xe s
def ab_:TT:=λ_ H Q=>Q true H
theorem bK{X:Cx}:vq X [] ab_:=λ_ _ _ H _ I h=>wpAny_tests_nil ⟨H,I,h⟩
theorem Sk{X:Cx}{c:Expr}{t:TT}(h:PT X c t):vq X [c] t:=λpins s σ H Q I hq=>wpAny_tests_one (h pins s σ H Q I hq)
def oy(J:It)(g:TG)(tt:TT)(te:TE)(D:Addr)(σ:St)(H:Hp)(R:Hp->Prop):Prop:=
 ∃W:Nat->Nat->St->Hp->Prop,(∃m,W 0 m σ H)/\∀i m σ H,W i m σ H->(J.stop i H/\R H)∨(J.go i H/\∃N:St->Hp->Prop,(∀σ' H',N σ' H'->∃m',m'<m/\W (i+1) m' σ' H')/\
  ∀x H',J.t7 i H x H'->g x σ H' λσ2 H2=>tt σ2 H2 λb H3=>if b=true then te σ2 H3 λy H4=>∃ys,H4 D=some (.lst ys)/\ys.length<sizeLine/\N σ2 (upd H4 D (.lst (ys++[y]))) else N σ2 H3)
section
variable{X:Cx}{scope:Scope}{own aI:List Str}{bN:List Nat}{elt tg iter:Expr}{ifs:List Expr}{pos:Pos}{g:TG}{tt:TT}{te:TE}
theorem uo{pins:List (Addr×Obj)}{σ:St}{H:Hp}{s:AH}{J:It}{fp:List Addr}{it:Addr}{tn:Nat->Heap->Prop}{R:Addr->Hp->Prop}{RR:Value->Addr->JS->AH->Prop}{E:Value->AH->Prop}
  (sc:aP X scope own aI bN) (hc:X.calm=true)
  (hg:∀C s₃ H₃ fp,PG (gm X own aI scope C s₃ H₃ fp) tg g) (ht:∀C s₃ H₃ fp,vq (gm X own aI scope C s₃ H₃ fp) ifs tt) (he:∀C s₃ H₃ fp,PE (gm X own aI scope C s₃ H₃ fp) elt te)
  (I:Inv X pins σ H s) (T:Turn X.prog X.w X.K tg J fp it tn) (st:tn 0 s.heap) (hfp:∀b∈fp,iY X pins H b)
  (h:∀D,H D=none->oy J g tt te D (zJ own bN σ) (upd H D (.lst [])) (R D))
  (hRR:∀D C H' s' m,Inv X pins σ H' s'->s.heap.objs.size<=C->s'.heap.Ns C m->H' C=none->R D H'->RR (.ref D) C (.ok .next) s'):
  wpAny (model X.prog X.w) X.A (newList []) (λacc s₃=>wpAny (model X.prog X.w) X.A (IA scope X.env.globals (gV X.env scope.names []) [] X.env.qual none .none (some X.env)) (λcenv s₄=>
   Em (model X.prog X.w) X.A (.compStart (.ListComp elt [⟨tg,iter,ifs,0⟩] scope pos) 0 (.ref it) acc {cenv with scope:=relabel scope X.env}) (RR acc cenv.locals) s₄) E s₃) E s:=by
 refine BJ (wpAny_newFunctionEnv sc.cell (by intro y hy;simp at hy) (λh₁ hns₁ hsb₁=>?_) sc.kind)
 dsimp only at hns₁ hsb₁ ⊢
 have hD:=I.fresh
 have I3:Inv X pins σ (upd H s.heap.objs.size (.lst [])) {s with heap:=s.heap.push {cls:=.type "list",dict:=none,data:=.seq ([]:List Value).toArray}}:=I.ae7 (its:=[]) (t':=s.toks) .nil (BI _)
 have hsz:(s.heap.push {cls:=.type "list",dict:=none,data:=.seq ([]:List Value).toArray}).objs.size=s.heap.objs.size+1:=Ax ..
 generalize hs3:({s with heap:=s.heap.push {cls:=.type "list",dict:=none,data:=.seq ([]:List Value).toArray}}:AH)=s₃ at I3
 have hh3:s.heap.push {cls:=.type "list",dict:=none,data:=.seq ([]:List Value).toArray}=s₃.heap:=by rw[<-hs3]
 rw[hh3] at hns₁ hsb₁ hsz ⊢
 have hfl:∀b∈fp,b<s.heap.objs.size:=λb hb=>by
  obtain⟨o,e,_⟩:=T.obj 0 _ st b hb
  exact AU e
 have Sl:∀b∈fp,iY X pins (upd H s.heap.objs.size (.lst [])) b:=λb hb=>by
  obtain⟨f0,f⟩:=hfp b hb
  exact⟨by rw[aD (Ac (hfl b hb))];exact f0,f⟩
 have ae':∀b∈fp,b<s₃.heap.objs.size:=λb hb=>by rw[hsz];exact Bp (hfl b hb)
 have k4:∀b o,s₃.heap.get? b=some o->h₁.get? b=some o:=λb o e=>(hsb₁.2 b (Ac (AU e))).trans (AE _ e)
 have k3:∀b o,s.heap.get? b=some o->s₃.heap.get? b=some o:=λb o e=>by rw[<-hh3];exact AE _ e
 have hnone:(λx:Str=>List.lookup x ([]:List (Str×Value)).reverse)=λ_=>none:=by funext x;rfl
 have ab0:h₁.Ns s₃.heap.objs.size λ_=>none:=by
  have q:=hns₁
  first
   | exact q
   | (rw[hnone] at q;exact q)
 have I4:=I3.block (own:=own) (tk:=s.toks+([]:List (Str×Value)).length) sc Sl ae' k4 ab0
 have Mm:tn 0 h₁:=T.keep _ _ _ st λb hb o e=>k4 b o (k3 b o e)
 generalize hX:gm X own aI scope s₃.heap.objs.size s₃ (upd H s.heap.objs.size (.lst [])) fp=X' at I4
 have hXp:X'.prog=X.prog:=by rw[<-hX];rfl
 have hXw:X'.w=X.w:=by rw[<-hX];rfl
 have hXK:X'.K=X.K:=by rw[<-hX];rfl
 have hXA:X'.A=X.A:=by rw[<-hX];rfl
 have hXc:X'.calm=true:=by rw[<-hX];exact hc
 have hXx:X'.xe=λ_ _=>False:=by rw[<-hX];rfl
 have hXe:X'.env=compEnvC scope (gV X.env scope.names []) s₃.heap.objs.size X.env:=by rw[<-hX];rfl
 have hg':PG X' tg g:=by rw[<-hX];exact hg _ _ _ _
 have ht':vq X' ifs tt:=by rw[<-hX];exact ht _ _ _ _
 have he':PE X' elt te:=by rw[<-hX];exact he _ _ _ _
 have ofX:∀{H':Hp} {s':AH} {σ':St},Inv X' [] σ' H' s'->Inv X pins σ H' s'/\(∃m,s'.heap.Ns s₃.heap.objs.size m)/\H' s₃.heap.objs.size=none:=by
  intro H' s' σ' I'
  subst hX
  refine⟨I3.call' (ch:=fp) I'.os I'.base I'.hok I'.bare λb hb=>?_,let ⟨m,hn,_⟩:=I'.loc;⟨m,hn⟩,I'.free⟩
  obtain⟨f0,f1,f2,f3,f4,f5⟩:=Sl b hb
  exact⟨f3,f1,f4,f5⟩
 have stat:∀{H':Hp},(∀b∈fp,H' b=none)->∀b∈fp,iY X' [] H' b:=by
  intro H' hn b hb
  subst hX
  obtain⟨a1,a2⟩:=I4.ok.Xk b hb
  exact⟨hn b hb,a1,I4.ok.zk b hb,.inl hb,a2,λp hp=>by cases hp⟩
 obtain⟨W,⟨m0,w0⟩,turn⟩:=h s.heap.objs.size hD
 have loop:Em (model X.prog X.w) X.A (.compLoop (.ListComp elt [⟨tg,iter,ifs,0⟩] scope pos) 0 (.ref it) (.ref s.heap.objs.size) X'.env) (RR (.ref s.heap.objs.size) s₃.heap.objs.size)
   {s₃ with heap:=h₁,toks:=s.toks+([]:List (Str×Value)).length}:=by
  refine ox (λn s'=>∃i σ' H',Inv X' [] σ' H' s'/\tn i s'.heap/\(∀b∈fp,H' b=none)/\W i n σ' H') ?_ m0 ⟨0,_,_,I4,Mm,λb hb=>(Sl b hb).1,w0⟩
  rintro n s5 ⟨i,σ5,H5,I5,wW,Uw,w5⟩
  rw[<-hXp,<-hXw,<-hXA]
  have UG:∀{α:Type} {t:Sem α} {Q:α->AH->Prop} {s:AH},wpAny (model X'.prog X'.w) X'.A t Q X'.xe s->wpAny (model X'.prog X'.w) X'.A t Q (λ_ _=>False) s:=λh=>by rw[hXx] at h;exact h
  have T':Turn X'.prog X'.w X'.K tg J fp it tn:=by rw[hXp,hXw,hXK];exact T
  rcases turn i n σ5 H5 w5 with⟨stop,q⟩ | ⟨go,N,hN,step⟩
  ·refine aK (T'.done X' rfl rfl rfl hXc i [] s5 σ5 H5 _ I5 (stat Uw) wW stop) λr s6 ⟨hr,I6⟩=>?_
   subst hr
   obtain⟨J1,⟨m,J2⟩,J3⟩:=ofX I6
   exact hRR _ _ H5 s6 m J1 (by rw[hsz];exact B8 _) J2 J3 q
  ·refine aK (T'.item X' rfl rfl rfl hXc i [] s5 σ5 H5 _ I5 (stat Uw) wW go) λr s6 ⟨u,hr,h6⟩=>?_
   subst hr
   refine aK h6 λ_ s7 ⟨x,H7,I7,r7,y7,X_,fr7⟩=>?_
   have I7':=I7.pinned (stat fr7) (T'.obj _ _ X_)
   have again:∀{s9:AH} {σ9:St} {H9:Hp},Inv X' ([]++pY fp s7.heap) σ9 H9 s9->N σ9 H9->∃m,m<n/\∃i σ' H',Inv X' [] σ' H' s9/\tn i s9.heap/\(∀b∈fp,H' b=none)/\W i m σ' H':=λ{s9 σ9 H9} I9 n9=>by
    obtain⟨m',hm,w9⟩:=hN σ9 H9 n9
    refine⟨m',hm,i+1,σ9,H9,I9.om,T'.keep _ _ _ X_ λb hb o e=>(I9.pin (b,o) (BR _ (BR _ (kH hb e)))).1,λb hb=>?_,w9⟩
    obtain⟨o,e,d⟩:=T'.obj _ _ X_ b hb
    exact(I9.pin (b,o) (BR _ (BR _ (kH hb e)))).2.1
   refine aK (UG (hg' _ s7 σ5 H7 x u _ I7' r7 (step x H7 y7))) λ_ s8 ⟨σ8,H8,I8,q8⟩=>?_
   refine aK (UG (ht' _ s8 σ8 H8 _ I8 q8)) λb s9 ⟨H9,I9,q9⟩=>?_
   cases b with
   | false=>exact again I9 (by simpa using q9)
   | true=>
    rw[if_pos rfl] at q9
    refine aK (UG (he' _ s9 σ8 H9 _ I9 q9)) λy zK ⟨v,rg,I10,r10,q10⟩=>?_
    obtain⟨ys,e10,z10,n10⟩:=q10
    refine aK (UG (cZ _ zK σ8 rg (.ref s.heap.objs.size) [v] (.ref s.heap.objs.size) [y] (λ_ H'=>H'=upd rg s.heap.objs.size (.lst (ys++[v]))) I10 rfl (.cons r10 .nil) ⟨_,ys,v,rfl,rfl,e10,z10,rfl⟩)) λu rh ⟨v',zL,I11,_,X0⟩=>?_
    subst X0
    exact again I11 n10
 rw[hXe] at loop
 have e4:({s with heap:=h₁,toks:=s.toks+([]:List (Str×Value)).length}:AH)={s₃ with heap:=h₁,toks:=s.toks+([]:List (Str×Value)).length}:=by rw[<-hs3]
 rw[e4]
 exact codeAny_compStart_list loop (T.self _ 0 _ _ _ Mm loop)
end
def UH(own:List Str)(bN:List Nat)(wi:TI)(g:TG)(tt:TT)(te:TE):TE:=λσ H Q=>wi σ H λJ H1=>∀D,H1 D=none->oy J g tt te D (zJ own bN σ) (upd H1 D (.lst [])) λH'=>Q (.ref D) H'
section
variable{X:Cx}{scope:Scope}{own aI:List Str}{bN:List Nat}{elt tg iter:Expr}{ifs:List Expr}{pos:Pos}{wi:TI}{g:TG}{tt:TT}{te:TE}
theorem cz(sc:aP X scope own aI bN)(hc:X.calm=true)(hi:PI X tg iter wi)
  (hg:∀C s₃ H₃ fp,PG (gm X own aI scope C s₃ H₃ fp) tg g) (ht:∀C s₃ H₃ fp,vq (gm X own aI scope C s₃ H₃ fp) ifs tt) (he:∀C s₃ H₃ fp,PE (gm X own aI scope C s₃ H₃ fp) elt te)
  (hs:∀x,GZ iter X.env x=pure x:=by intro _;rfl):PE X (.ListComp elt [⟨tg,iter,ifs,0⟩] scope pos) (UH own bN wi g tt te):=by
 intro pins s σ H Q I h
 rw[eval_ListComp]
 refine Gu (use:=none) rfl hs (mC (sc.cells I.ok)) sc.kind sc.names (aK (hi pins s σ H _ I h) λv s1 h1=>aK h1 λitv s2 h2=>?_)
 obtain⟨it,fp,tn,J,H2,e,I2,T,st2,f2,q⟩:=h2
 subst e
 refine uo (RR:=λacc C=>compPost (model X.prog X.w) X.A X.xe none (EP X pins σ Q) acc C) (R:=λD H'=>Q (.ref D) H') sc hc hg ht he I2 T st2 f2 q ?_
 intro D C H' s' m I' hC hn hf hq
 refine⟨m,hn,λh' sb=>?_⟩
 obtain⟨f0,f1,f2,f3,f4,f5⟩:=I2.mS (H':=H') hC hf
 exact⟨.ref D,H',I'.turned (t':=s'.toks) (it:=C) (λb o hb e=>(sb.2 b hb).trans e) f0 f1 f3 f4 f5,rfl,hq⟩
theorem oz{i:Nat}{y:Str}{py spos:Pos}(sc:aP X scope own aI bN)(hc:X.calm=true)(hi:PI X tg iter wi)
  (hg:∀C s₃ H₃ fp,PG (gm X own aI scope C s₃ H₃ fp) tg g) (ht:∀C s₃ H₃ fp,vq (gm X own aI scope C s₃ H₃ fp) ifs tt) (he:∀C s₃ H₃ fp,PE (gm X own aI scope C s₃ H₃ fp) elt te)
  (hN:X.N.Nodup) (hi':X.N[i]? =some y) (hx:X.env.scope.names.lookup y=some .local)
  (hsw:IP (.ListComp elt [⟨tg,iter,ifs,0⟩] scope pos) (some (.Name y py)) spos.line X.env=pure true:=by rfl)
  (hs:∀x,GZ iter X.env x=pure x:=by intro _;rfl):PS X (.Assign [.Name y py] (.ListComp elt [⟨tg,iter,ifs,0⟩] scope pos) spos) (Nk (UH own bN wi g tt te) (aO i)):=by
 intro pins s σ H D I h
 rw[exec_Assign_Name_used _ _ _ _ hsw]
 refine AA (Gp (AA ?_))
 show wpAny _ X.A (do let _ <-comprehension (.ListComp elt [⟨tg,iter,ifs,0⟩] scope pos) scope X.env _ (newList []) false (eval iter X.env) (some (assign (.Name y py) X.env))) _ _ s
 refine AA (CC (Gu (use:=some (assign (.Name y py) X.env)) (Q:=λ_ s'=>SP X pins D .next s') rfl hs (mC (sc.cells I.ok)) sc.kind sc.names
  (aK (hi pins s σ H _ I h) λv s1 h1=>aK h1 λitv s2 h2=>?_)) (λ_ s' hq=>AG (AG hq)) λ_ _ e=>e)
 obtain⟨it,fp,tn,J,H2,e,I2,T,st2,f2,q⟩:=h2
 subst e
 refine uo (RR:=λacc C=>compPost (model X.prog X.w) X.A X.xe (some (assign (.Name y py) X.env)) (λ_ s'=>SP X pins D .next s') acc C) (R:=λE H'=>D.nx (σ.set i (some (.ref E))) H') sc hc hg ht he I2 T st2 f2 q ?_
 intro E C H' s' m I' hC hn hf hq
 show wpAny _ X.A (assign (.Name y py) X.env (.ref E)) _ _ _
 obtain⟨f0,f1,f2,f3,f4,f5⟩:=I2.mS (H':=H') hC hf
 refine wpAny_assign_Name (wU I' hN hi' (.inl hx) (v:=.ref E) (u:=.ref E) rfl (λs3 I3 ⟨a,sb,ha⟩=>?_) (.inr hx))
 have hCa:C≠a:=by
  rcases ha with z | z
  ·rw[z];exact f1
  ·exact(f4 y a z).symm
 refine⟨m,hn.sameBut sb hCa,λh' sb'=>?_⟩
 exact⟨_,H',I3.turned (t':=s3.toks) (it:=C) (λb o hb e=>(sb'.2 b hb).trans e) f0 f1 f3 f4 f5,hq⟩
end
theorem gH{lo:Int}{n:Nat}{g:TG}{tt:TT}{te:TE}{D:Addr}{σ:St}{H:Hp}{R:Hp->Prop}(Pv:Nat->St->Hp->Prop)(h0:Pv 0 σ H)
  (hs:∀i σ H,i<n->Pv i σ H->g (.int (lo+i)) σ H λσ2 H2=>tt σ2 H2 λb H3=>if b=true then te σ2 H3 λy H4=>∃ys,H4 D=some (.lst ys)/\ys.length<sizeLine/\Pv (i+1) σ2 (upd H4 D (.lst (ys++[y]))) else Pv (i+1) σ2 H3)
  (hd:∀σ H,Pv n σ H->R H):oy (t8 lo n) g tt te D σ H R:=by
 refine⟨λi m σ H=>m=n-i/\i<=n/\Pv i σ H,⟨n,by simp,BI _,h0⟩,?_⟩
 rintro i m σ H ⟨rfl,hi,p⟩
 by_cases hlt:i<n
 ·refine .inr ⟨hlt,Pv (i+1),λσ' H' p'=>⟨n-(i+1),by omega,rfl,hlt,p'⟩,λx H' y=>?_⟩
  obtain⟨e,y⟩:=y
  subst e y
  exact hs i σ _ hlt p
 ·have e:i=n:=by omega
  subst e
  exact .inl ⟨AK _,hd σ H p⟩
theorem iN{K:AD}{a:Addr}{xs:List V}{g:TG}{tt:TT}{te:TE}{D:Addr}{σ:St}{H:Hp}{R:Hp->Prop}(Pv:Nat->St->Hp->Prop)(h0:Pv 0 σ H)(hl:∀i σ H,i<=xs.length->Pv i σ H->bG K H a xs)
  (hs:∀i x σ H,xs[i]? =some x->Pv i σ H->g x σ H λσ2 H2=>tt σ2 H2 λb H3=>if b=true then te σ2 H3 λy H4=>∃ys,H4 D=some (.lst ys)/\ys.length<sizeLine/\Pv (i+1) σ2 (upd H4 D (.lst (ys++[y]))) else Pv (i+1) σ2 H3)
  (hd:∀σ H,Pv xs.length σ H->R H):oy (zp K a) g tt te D σ H R:=by
 refine⟨λi m σ H=>m=xs.length-i/\i<=xs.length/\Pv i σ H,⟨xs.length,by simp,BI _,h0⟩,?_⟩
 rintro i m σ H ⟨rfl,hi,p⟩
 have q:=hl i σ H hi p
 by_cases hlt:i<xs.length
 ·refine .inr ⟨⟨xs,xs[i],q,by simp[hlt]⟩,Pv (i+1),λσ' H' p'=>⟨xs.length-(i+1),by omega,rfl,hlt,p'⟩,λx H' y=>?_⟩
  obtain⟨e,y⟩:=y
  subst e
  exact hs i x σ _ (y xs q) p
 ·have e:i=xs.length:=by omega
  subst e
  exact .inl ⟨⟨xs,q,AK _⟩,hd σ H p⟩
theorem jn{K:AD}{a:Addr}{xs:List V}{g:TG}{tt:TT}{te:TE}{D:Addr}{σ:St}{H:Hp}{R:Hp->Prop}(Pv:Nat->St->Hp->Prop)(h0:Pv 0 σ H)(hl:∀i σ H,i<=xs.length->Pv i σ H->aY K H a xs)
  (hs:∀i x σ H,xs[i]? =some x->Pv i σ H->g x σ H λσ2 H2=>tt σ2 H2 λb H3=>if b=true then te σ2 H3 λy H4=>∃ys,H4 D=some (.lst ys)/\ys.length<sizeLine/\Pv (i+1) σ2 (upd H4 D (.lst (ys++[y]))) else Pv (i+1) σ2 H3)
  (hd:∀σ H,Pv xs.length σ H->R H):oy (zq K a) g tt te D σ H R:=by
 refine⟨λi m σ H=>m=xs.length-i/\i<=xs.length/\Pv i σ H,⟨xs.length,by simp,BI _,h0⟩,?_⟩
 rintro i m σ H ⟨rfl,hi,p⟩
 have q:=hl i σ H hi p
 by_cases hlt:i<xs.length
 ·refine .inr ⟨⟨xs,xs[i],q,by simp[hlt]⟩,Pv (i+1),λσ' H' p'=>⟨xs.length-(i+1),by omega,rfl,hlt,p'⟩,λx H' y=>?_⟩
  obtain⟨e,y⟩:=y
  subst e
  exact hs i x σ _ (y xs q) p
 ·have e:i=xs.length:=by omega
  subst e
  exact .inl ⟨⟨xs,q,AK _⟩,hd σ H p⟩
section
variable{X:Cx}
def ab1(i j:Int):Prop:=0<j/\j.natAbs.log2<9000
theorem oA:cL X (DL .FloorDiv) (rI ab1 λi j=>.int (i / j)):=O9 λi j _ _ _ _ _ hc q=>by
 obtain⟨h0,h1⟩:=hc
 refine floordiv_int (by omega) ?_ (.inl (PyProof.noPylong_of_log2 h1))
 rw[F_ _ (by omega)]
 exact q
theorem Px(hc:X.calm=true):cK X (.builtin "sum") (λxs H Q=>∃(a:Addr) (ns:List Int),xs=[.ref a]/\bG X.K H a (ns.map V.int)/\Q (.int ns.sum) H):=by
 intro pins s σ H xs us Q I r h
 obtain⟨a,ns,rfl,hq,q⟩:=h
 obtain⟨u,rfl,ru⟩:=vals1 r
 cases ru
 obtain⟨its,rv,p,_⟩:=I.list hq
 have hi:C2 its ns:=intsAre_of rv
 have all:=hi.allInts
 obtain⟨ys,hy⟩:=all.items
 have e:(numsOf its.toArray.toList).sum=ns.sum:=by rw[show its.toArray.toList=its from rfl,hi.numsOf]
 have hl:=p.isList
 rw[hy] at hl e
 rw[nums_intItems] at e
 refine sum_intListG (I.ok.hd hc) hl λh' tk t' k=>⟨.int (preSum (numAt ys) ys.size),H,I.kept k,⟨t',rfl⟩,?_⟩
 rw[preSum_eq,BD (by simp)]
 first
  | (rw[e];exact q)
  | (simp only[e];exact q)
theorem Ls:cK X (.builtin "isinstance") (λxs H Q=>∃(x:V) (t:Value) (T:String) (b:Bool),xs=[x,.ty T]/\gk X.K H x t/\Dz X.K t (.type T)=some b/\Q (.bl b) H):=by
 intro pins s σ H xs us Q I r h
 obtain⟨x,t,T,b,rfl,ty,e,q⟩:=h
 obtain⟨u,w',rfl,rx,rT⟩:=vals2 r
 cases(show w'=DO T from rT)
 exact Pf I rx ty e λtk=>⟨.bl b,H,I.tok tk,rfl,q⟩
theorem Mn:cL X (DL .Add) (λx y H Q=>∃(a b:Addr) (ys:List V),x=.ref a/\y=.ref b/\aY X.K H a []/\aY X.K H b ys/\Q (.ref b) H):=by
 intro pins s σ H x y v u Q I rx ry h
 obtain⟨a,b,ys,rfl,rfl,ha,hb,q⟩:=h
 cases rx
 cases ry
 obtain⟨its,r1,p1,_⟩:=I.tuple ha
 obtain⟨its2,r2,p2,_⟩:=I.tuple hb
 cases r1
 obtain⟨⟨cls,dd,data,sl⟩,ho,hc,n,hd⟩:=id p1
 obtain⟨⟨cls2,dd2,data2,sl2⟩,ho2,hc2,n2,hd2⟩:=id p2
 simp only at hc hd hc2 hd2
 subst hc hd hc2 hd2
 exact concat_meets ⟨_,ho,rfl⟩ ⟨_,ho2,rfl⟩ G6 Ig Ep Eg (EO _ _)
  (tuple_addW0 a b #[] its2.toArray n n2 dd dd2 sl sl2 rfl) ⟨ho,ho2,⟨.ref b,H,I,rfl,q⟩⟩
def UI(K:AD):R2:=λx y H Q=>∃(a b:Addr) (xs ys:List V),x=.ref a/\y=.ref b/\aY K H a xs/\aY K H b ys/\ys≠[]/\xs.length+ys.length<=sizeLine/\
 (xs=[]->Q (.ref b) H)/\(xs≠[]->∀p,H p=none->Q (.ref p) (upd H p (.tup (xs++ys))))
theorem Wj:cL X (DL .Add) (UI X.K):=by
 intro pins s σ H x y v u Q I rx ry h
 obtain⟨a,b,xs,ys,rfl,rfl,ha,hb,hy,hz,q1,q2⟩:=h
 by_cases hx:xs=[]
 ·subst hx
  exact Mn pins s σ H _ _ v u Q I rx ry ⟨a,b,ys,rfl,rfl,ha,hb,q1 rfl⟩
 ·exact Mf pins s σ H _ _ v u Q I rx ry ⟨a,b,xs,ys,rfl,rfl,ha,hb,hx,hz,λz=>absurd z hy,λ_=>q2 hx⟩
end
def xk(scope esc:Scope)(N own aI:List Str)(bN:List Nat):Bool:=
 scope.names.all (λy=>y.2 != .cell)&&scope.kind == .function&&scope.names.all (λy=>y.2 != .local||scope.names.lookup y.1 == some .local)
 &&scope.names.all (λy=>y.2 != .free||(esc.names.lookup y.1 == some .cell||esc.names.lookup y.1 == some .free))
 &&bN.length == aI.length&&(Ao bN.length).all (λi=>(bN[i]?).bind (λj=>N[j]?) == aI[i]?)
 &&aI.all (λx=>scope.names.contains (x,BZ)&&scope.names.lookup x == some .free)
theorem aP.mk'{X:Cx}{scope esc:Scope}{N own aI:List Str}{bN:List Nat}(hs:X.env.scope=esc)(hN:X.N=N)(h:xk scope esc N own aI bN=true):aP X scope own aI bN:=by
 unfold xk at h
 simp only[Bz,FJ,bne_iff_ne,beq_iff_eq,Bool.or_eq_true,List.contains_iff_mem] at h
 obtain⟨⟨⟨⟨⟨⟨h1,h2⟩,h3⟩,h4⟩,h5⟩,h6⟩,h7⟩:=h
 refine⟨h1,h2,λy hy hl=>?_,λy hy hf=>?_,h5,λi j e=>?_,λx hx=>h7 x hx⟩
 ·rcases h3 y hy with z | z
  ·exact absurd hl z
  ·exact z
 ·rw[hs]
  rcases h4 y hy with z | z
  ·exact absurd hf z
  ·exact z
 ·have hi:i<bN.length:=(AF.mp e).1
  have q:=h6 i (A4.mpr hi)
  rw[e] at q
  rw[hN]
  exact q
def KB(d:Addr)(H H':Hp):Prop:=∀b o,H b=some o->b≠d->H' b=some o
theorem KB.refl(d:Addr)(H:Hp):KB d H H:=λ_ _ h _=>h
theorem KB.trans{d:Addr}{H H1 H2:Hp}(a:KB d H H1)(b:KB d H1 H2):KB d H H2:=λc o h n=>b c o (a c o h n) n
theorem KB.write{d:Addr}{H:Hp}{o:HO}:KB d H (upd H d o):=λb o h n=>by rw[aD n];exact h
theorem Same.kb{d:Addr}{H H':Hp}(s:Same H H'):KB d H H':=λb o h _=>s b o h
theorem Same.new{H:Hp}{p:Addr}{o:HO}(h:H p=none):Same H (upd H p o):=λb u e=>by rw[aD (aC e h)];exact e
theorem Same.kbn{d:Addr}{H H1 H2:Hp}(s:Same H H1)(h:H d=none)(k:KB d H1 H2):Same H H2:=λb o e=>k b o (s b o e) (aC e h)
theorem Same.rY{K:AD}{H H':Hp}{a:Addr}{xs:List V}(e:Same H H')(h:aY K H a xs):aY K H' a xs:=by
 rcases h with(h | ⟨o,h⟩) | h
 ·exact .inl (.inl (e _ _ h))
 ·exact .inl (.inr ⟨o,e _ _ h⟩)
 ·exact .inr h
def bq(H H':Hp):Prop:=∀b xs,H b=some (.tup xs)->H' b=some (.tup xs)
theorem bq.trans{H H1 H2:Hp}(a:bq H H1)(b:bq H1 H2):bq H H2:=λc o h=>b c o (a c o h)
theorem Same.kt{H H':Hp}(s:Same H H'):bq H H':=λb xs h=>s b _ h
theorem bq.lst{H:Hp}{d:Addr}{xs:List V}{o:HO}(h:H d=some (.lst xs)):bq H (upd H d o):=λb ys e=>by
 rw[aD (iV e h (λz=>nomatch z))];exact e
theorem bq.kb{d:Addr}{xs:List V}{H H':Hp}(h:H d=some (.lst xs))(k:KB d H H'):bq H H':=λb ys e=>k b _ e (iV e h (λz=>nomatch z))
def cO(H:Hp)(ps:List Addr)(ls:List (List Int)):Prop:=BV (λp (l:List Int)=>H p=some (.tup (l.map V.int))) ps ls
theorem cO.keep{H H':Hp}{ps:List Addr}{ls:List (List Int)}(t:cO H ps ls)(k:bq H H'):cO H' ps ls:=Paired.og t λ_ _ h=>k _ _ h
theorem cO.get{H:Hp}:∀{ps:List Addr} {ls:List (List Int)} {i:Nat} {p:Addr},cO H ps ls->ps[i]? =some p->∃l,ls[i]? =some l/\H p=some (.tup (l.map V.int))
 | _,_,_,_,.nil,e=>by simp at e
 | _,_,0,_,.cons r _,e=>by simp at e;subst e;exact⟨_,rfl,r⟩
 | _,_,i+1,p,.cons _ t,e=>by
  obtain⟨u,h1,h2⟩:=cO.get (i:=i) (p:=p) t (by simpa using e)
  exact⟨u,by simpa using h1,h2⟩
theorem dj{α β:Type}{F:α->β->Prop}:∀{xs ys:List α} {us ws:List β},BV F xs us->BV F ys ws->BV F (xs++ys) (us++ws)
 | _,_,_,_,.nil,s=>s
 | _,_,_,_,.cons r t,s=>.cons r (dj t s)
end L2
namespace L2
open PySem
theorem bR:Bj "len"=some (.builtin "len"):=by decide+kernel
theorem X1:Bj "abs"=some (.builtin "abs"):=by decide+kernel
theorem Py:Bj "sum"=some (.builtin "sum"):=by decide+kernel
theorem j3:Bj "isinstance"=some (.builtin "isinstance"):=by decide+kernel
theorem p9:Bj "sorted"=some (.builtin "sorted"):=by decide+kernel
theorem X2:Bj "all"=some (.builtin "all"):=by decide+kernel
theorem Mp:Bj "list"=some (.type "list"):=by decide+kernel
theorem cE:Bj "tuple"=some (.type "tuple"):=by decide+kernel
theorem Pz:Bj "int"=some (.type "int"):=by decide+kernel
theorem Mq:Bj "bool"=some (.type "bool"):=by decide+kernel
theorem Wk:Bj "dict"=some (.type "dict"):=by decide+kernel
theorem PB:Bj "set"=some (.type "set"):=by decide+kernel
theorem Lu:Bj "reversed"=some (.type "reversed"):=by decide+kernel
end L2
namespace L2
open PySem PySem.Spec PyProof.Rows
def afa(K:AD):List V->Hp->VK->Prop:=λxs H Q=>∃x n,xs=[x]/\XB K x H n/\Q (.int n) H
def afb(K:AD):List V->Hp->VK->Prop:=λxs H Q=>∃(a:Addr) (ns:List Int),xs=[.ref a]/\bG K H a (ns.map V.int)/\Q (.int ns.sum) H
def afc(K:AD):List V->Hp->VK->Prop:=λxs H Q=>∃(x:V) (t:Value) (T:String) (b:Bool),xs=[x,.ty T]/\gk K H x t/\Dz K t (.type T)=some b/\Q (.bl b) H
section
variable{X:Cx}
theorem aZ(K:AD)(hK:X.K=K:=by rfl):cK X (.builtin "len") (afa K):=by subst hK;exact R9
theorem xl(K:AD)(hc:X.calm=true:=by rfl)(hK:X.K=K:=by rfl):cK X (.builtin "sum") (afb K):=by subst hK;exact Px hc
theorem qb(K:AD)(hK:X.K=K:=by rfl):cK X (.builtin "isinstance") (afc K):=by subst hK;exact Ls
theorem fb(K:AD)(hK:X.K=K:=by rfl):Pj X (XH K):=by subst hK;exact Wc
theorem av(K:AD)(hK:X.K=K:=by rfl):Pj X (XI K):=by subst hK;exact XJ
theorem oB(K:AD)(hK:X.K=K:=by rfl):Ph X (XN K):=by subst hK;exact Wd
theorem rZ(K:AD)(hK:X.K=K:=by rfl):cL X (DL .Add) (UI K):=by subst hK;exact Wj
theorem X3(K:AD)(hK:X.K=K:=by rfl):cL X (Bl .In) (UB K false):=by subst hK;exact Pm
theorem PD(K:AD)(hK:X.K=K:=by rfl):cL X (Bl .NotIn) (UB K true):=by subst hK;exact zy
def X4(_ j:Int):Prop:=0<j
theorem cpos{i j:Int}(h:0<j):X4 i j:=h
theorem jo:cL X (DL .Mod) (rI X4 λi j=>.int (i % j)):=pZ
end
end L2
namespace L2
theorem zM{t u:TS}{D:Ends}{σ:St}{H:Hp}(Pv:St->Hp->Prop)(h1:∀σ H,Pv σ H->u D σ H)(h2:(∀σ H,Pv σ H->u D σ H)->t {D with nx:=u D} σ H):zo t u D σ H:=h2 h1
end L2
namespace L2
open PySem PySem.Spec PyProof.Rows
inductive Dt where
 | non | bl (b:Bool) | int (i:Int) | str (x:Str) | tup (xs:List Dt) | lst (xs:List Dt)
mutual
def Dt.beq:Dt->Dt->Bool
 | .non,.non=>true
 | .bl a,.bl b=>a == b
 | .bl a,.int b=>(if a then 1 else 0) == b
 | .int a,.bl b=>a == (if b then 1 else 0)
 | .int a,.int b=>a == b
 | .str a,.str b=>a == b
 | .tup xs,.tup ys=>Dt.gn xs ys
 | .lst xs,.lst ys=>Dt.gn xs ys
 | _,_=>false
def Dt.gn:List Dt->List Dt->Bool
 | [],[]=>true
 | x::xs,y::ys=>x.beq y&&Dt.gn xs ys
 | _,_=>false
end
mutual
def Dt.dep:Dt->Nat
 | .tup xs=>Dt.deps xs+1
 | .lst xs=>Dt.deps xs+1
 | _=>0
def Dt.deps:List Dt->Nat
 | []=>0
 | x::xs=>max x.dep (Dt.deps xs)
end
mutual
def au(K:AD)(H:Hp):V->Dt->Prop
 | x,.non=>x=.non
 | x,.bl b=>x=.bl b
 | x,.int i=>x=.int i
 | x,.str z=>x=.str z
 | x,.tup ds=>∃a xs,x=.ref a/\aY K H a xs/\aG K H xs ds
 | x,.lst ds=>∃a xs,x=.ref a/\bG K H a xs/\aG K H xs ds
def aG(K:AD)(H:Hp):List V->List Dt->Prop
 | [],[]=>True
 | x::xs,d::ds=>au K H x d/\aG K H xs ds
 | _,_=>False
end
theorem Dt.beq_refl(d:Dt):d.beq d=true:=by
 induction d using Dt.rec (motive_2:=λxs=>Dt.gn xs xs=true) with
 | non=>simp[Dt.beq]
 | bl b=>simp[Dt.beq]
 | int b=>simp[Dt.beq]
 | str b=>simp[Dt.beq]
 | tup xs ih=>simp[Dt.beq,ih]
 | lst xs ih=>simp[Dt.beq,ih]
 | nil=>simp[Dt.gn]
 | cons x xs h1 h2=>simp[Dt.gn,h1,h2]
theorem aG.length{K:AD}{H:Hp}:∀{xs:List V} {ds:List Dt},aG K H xs ds->xs.length=ds.length
 | [],[],_=>rfl
 | [],_::_,h=>by simp[aG] at h
 | _::_,[],h=>by simp[aG] at h
 | x::xs,d::ds,h=>by
  rw[aG] at h
  rw[Aj,Aj,aG.length h.2]
theorem aG.get{K:AD}{H:Hp}:∀{xs:List V} {ds:List Dt} {i:Nat} {x:V},aG K H xs ds->xs[i]? =some x->∃d,ds[i]? =some d/\au K H x d
 | [],_,_,_,_,e=>by simp at e
 | _::_,[],_,_,h,_=>by simp[aG] at h
 | x::xs,d::ds,0,y,h,e=>by
  rw[aG] at h
  simp at e;subst e
  exact⟨d,rfl,h.1⟩
 | x::xs,d::ds,i+1,y,h,e=>by
  rw[aG] at h
  obtain⟨d',h1,h2⟩:=aG.get (i:=i) (x:=y) h.2 (by simpa using e)
  exact⟨d',by simpa using h1,h2⟩
theorem Dt.iC{d:Dt}:∀{ds:List Dt},d∈ds->d.dep<=Dt.deps ds
 | [],h=>by cases h
 | x::xs,h=>by
  rw[Dt.deps]
  rcases AV.mp h with rfl | h
  ·exact Nat.le_max_left ..
  ·exact A1 (Dt.iC h) (Nat.le_max_right ..)
def zb(xs ys:List Dt)(j:Nat):Bool:=match xs[j]?,ys[j]? with
 | some x,some y=>x.beq y
 | _,_=>false
theorem vt(n:Nat)(e:Nat->Bool):(Ao (n+1)).all e=(e 0&&(Ao n).all λj=>e (j+1)):=by
 rw[HN,ER,List.all_map];rfl
theorem lA:∀(xs ys:List Dt),xs.length=ys.length->(Ao xs.length).all (zb xs ys)=Dt.gn xs ys
 | [],[],_=>by simp[Dt.gn]
 | x::xs,y::ys,h=>by
  have h':xs.length=ys.length:=by simpa using h
  rw[Aj,vt,Dt.gn,<-lA xs ys h']
  rfl
theorem lB:∀(xs ys:List Dt),xs.length≠ys.length->Dt.gn xs ys=false
 | [],[],h=>absurd rfl h
 | [],_::_,_=>by simp[Dt.gn]
 | _::_,[],_=>by simp[Dt.gn]
 | x::xs,y::ys,h=>by
  have h':xs.length≠ys.length:=λz=>h (by simp[z])
  rw[Dt.gn,lB xs ys h',DC]
section
variable{X:Cx}{pins:List (Addr×Obj)}{σ:St}{H:Hp}{s:AH}
theorem nB{a:Addr}{xs ys:List V}(I:Inv X pins σ H s)(h1:bG X.K H a xs)(h2:aY X.K H a ys):False:=by
 obtain⟨its,_,p,_⟩:=I.list h1
 obtain⟨its2,_,q,_⟩:=I.tuple h2
 exact SeqAt.ne_of_list_tuple p.isList (show s.heap.IsTuple a its2.toArray from q) rfl
theorem vw(I:Inv X pins σ H s)(d:Dt):∀(x:V) (d':Dt),au X.K H x d->au X.K H x d'->d=d':=by
 induction d using Dt.rec (motive_2:=λds=>∀(xs:List V) (ds':List Dt),aG X.K H xs ds->aG X.K H xs ds'->ds=ds') with
 | non=>intro x d' h h';cases d'<;>simp_all [au]
 | bl b=>intro x d' h h';cases d'<;>simp_all [au]
 | int b=>intro x d' h h';cases d'<;>simp_all [au]
 | str b=>intro x d' h h';cases d'<;>simp_all [au]
 | tup ds ih=>
  intro x d' h h'
  rw[au] at h
  obtain⟨a,xs,rfl,hq,hd⟩:=h
  cases d' with
  | tup ds'=>
   rw[au] at h'
   obtain⟨a',xs',e,hq',hd'⟩:=h'
   cases e
   rw[I.my hq' hq] at hd'
   rw[ih xs ds' hd hd']
  | lst ds'=>
   rw[au] at h'
   obtain⟨a',xs',e,hq',hd'⟩:=h'
   cases e
   exact(nB I hq' hq).elim
  | _=>simp[au] at h'
 | lst ds ih=>
  intro x d' h h'
  rw[au] at h
  obtain⟨a,xs,rfl,hq,hd⟩:=h
  cases d' with
  | lst ds'=>
   rw[au] at h'
   obtain⟨a',xs',e,hq',hd'⟩:=h'
   cases e
   rw[I.oi hq' hq] at hd'
   rw[ih xs ds' hd hd']
  | tup ds'=>
   rw[au] at h'
   obtain⟨a',xs',e,hq',hd'⟩:=h'
   cases e
   exact(nB I hq hq').elim
  | _=>simp[au] at h'
 | nil=>
  rename_i xs ds' h h'
  cases xs with
  | nil=>cases ds' with
   | nil=>rfl
   | cons _ _=>simp[aG] at h'
  | cons _ _=>simp[aG] at h
 | cons d ds h1 h2=>
  rename_i xs ds' h h'
  cases xs with
  | nil=>simp[aG] at h
  | cons x xs=>cases ds' with
   | nil=>simp[aG] at h'
   | cons d' ds'=>
    rw[aG] at h h'
    rw[h1 x d' h.1 h'.1,h2 xs ds' h.2 h'.2]
theorem oC{A:A0}{xs ys:List V}{ds ds':List Dt}{its its2:List Value}(r1:Vals xs its)(r2:Vals ys its2)(h1:aG X.K H xs ds)(h2:aG X.K H ys ds')
  (ih:∀d∈ds,∀(d':Dt) (x y:V) (u v:Value),au X.K H x d->au X.K H y d'->RelV x u->RelV y v->CD A s u v (d.beq d')):
  ∀j (a:j<its.toArray.size) (b:j<its2.toArray.size),CD A s its.toArray[j] its2.toArray[j] (zb ds ds' j):=λj a b=>by
 have a':j<its.length:=by simpa using a
 have b':j<its2.length:=by simpa using b
 have la:=r1.length
 have lb:=r2.length
 have ex:xs[j]? =some (xs[j]'(by omega)):=Al (by omega)
 have ey:ys[j]? =some (ys[j]'(by omega)):=Al (by omega)
 obtain⟨u,eu,ru⟩:=r1.get ex
 obtain⟨v,ev,rv⟩:=r2.get ey
 obtain⟨d,ed,hd⟩:=h1.get ex
 obtain⟨d',ed',hd'⟩:=h2.get ey
 have e1:its.toArray[j]=u:=by
  rw[Al a'] at eu
  simpa using AN eu
 have e2:its2.toArray[j]=v:=by
  rw[Al b'] at ev
  simpa using AN ev
 rw[e1,e2]
 have e3:zb ds ds' j=d.beq d':=by unfold zb;rw[ed,ed']
 rw[e3]
 exact ih d (AI ed) d' _ _ u v hd hd' ru rv
theorem zN{A:A0}{a b:Addr}{xs ys:List V}{ds ds':List Dt}(I:Inv X pins σ H s)(q1:bG X.K H a xs)(q2:bG X.K H b ys)(h1:aG X.K H xs ds)(h2:aG X.K H ys ds')(hu:A.units<cLine)
  (ih:∀d∈ds,∀(d':Dt) (x y:V) (u v:Value),au X.K H x d->au X.K H y d'->RelV x u->RelV y v->CD A.in1 s u v (d.beq d')):Je A s (.ref a) (.ref b) (Dt.gn ds ds'):=by
 obtain⟨its,r1,p1,_⟩:=I.list q1
 obtain⟨its2,r2,p2,_⟩:=I.list q2
 have l1:=r1.length
 have l2:=r2.length
 have l3:=h1.length
 have l4:=h2.length
 by_cases hl:ds.length=ds'.length
 ·have:=SeqAt.RcAt.lists p1.isList p2.isList (by simp;omega) hu (oC r1 r2 h1 h2 ih)
  rw[show its.toArray.size=ds.length by simp;omega,lA ds ds' hl] at this
  exact this
 ·rw[lB ds ds' hl]
  exact SeqAt.RcAt.lists_lengths p1.isList p2.isList (by simp;omega) hu
theorem xn{A:A0}{a b:Addr}{xs ys:List V}{ds ds':List Dt}(I:Inv X pins σ H s)(q1:aY X.K H a xs)(q2:aY X.K H b ys)(h1:aG X.K H xs ds)(h2:aG X.K H ys ds')(hu:A.units<cLine)
  (ih:∀d∈ds,∀(d':Dt) (x y:V) (u v:Value),au X.K H x d->au X.K H y d'->RelV x u->RelV y v->CD A.in1 s u v (d.beq d')):Je A s (.ref a) (.ref b) (Dt.gn ds ds'):=by
 obtain⟨its,r1,p1,_⟩:=I.tuple q1
 obtain⟨its2,r2,p2,_⟩:=I.tuple q2
 have l1:=r1.length
 have l2:=r2.length
 have l3:=h1.length
 have l4:=h2.length
 have:=Gd (show s.heap.IsTuple a its.toArray from p1) (show s.heap.IsTuple b its2.toArray from p2) hu (oC r1 r2 h1 h2 ih)
 by_cases hl:ds.length=ds'.length
 ·rw[show min its.toArray.size its2.toArray.size=ds.length by simp;omega,lA ds ds' hl,show(its.toArray.size == its2.toArray.size)=true by simp;omega,Gv] at this
  exact this
 ·rw[show(its.toArray.size == its2.toArray.size)=false by simp;omega,DC] at this
  rw[lB ds ds' hl]
  exact this
theorem oE(I:Inv X pins σ H s)(d:Dt):∀(A:A0) (d':Dt) (x y:V) (u v:Value),A.units+d.dep<cLine->au X.K H x d->au X.K H y d'->RelV x u->RelV y v->CD A s u v (d.beq d'):=by
 have flat:∀{A:A0} {d d':Dt} {x y:V} {u v:Value},i4 x=true->i4 y=true->nu x y=d.beq d'->RelV x u->RelV y v->CD A s u v (d.beq d'):=λfx fy e ru rv=>e▸Pk ru rv fx fy
 have Mr:∀{a:Addr} {xs:List V},bG X.K H a xs->∃its:Array Value,s.heap.IsList a its:=λq=>let ⟨its,_,p,_⟩:=I.list q;⟨_,p.isList⟩
 have Ms:∀{a:Addr} {xs:List V},aY X.K H a xs->∃its:Array Value,s.heap.IsTuple a its:=λq=>let ⟨its,_,p,_⟩:=I.tuple q;⟨_,p⟩
 have refs:∀{A:A0} {a b:Addr} {d d':Dt},au X.K H (.ref a) d->au X.K H (.ref b) d'->Je A s (.ref a) (.ref b) (d.beq d')->CD A s (.ref a) (.ref b) (d.beq d'):=by
  intro A a b d d' h h' r
  by_cases e:a=b
  ·subst e
   rw[<-vw I d _ _ h h',Dt.beq_refl]
   exact Ff _
  ·exact GH e r
 induction d using Dt.rec (motive_2:=λds=>∀d∈ds,∀(A:A0) (d':Dt) (x y:V) (u v:Value),A.units+d.dep<cLine->au X.K H x d->au X.K H y d'->RelV x u->RelV y v->CD A s u v (d.beq d')) with
 | non=>
  intro A d' x y u v hu h h' ru rv
  rw[au] at h
  subst h
  have hu':A.units<cLine:=by omega
  cases d' with
  | tup ds'=>
   rw[au] at h';obtain⟨b,ys,rfl,q,_⟩:=h'
   cases ru;cases rv
   obtain⟨its,p⟩:=Ms q
   exact SeqAt.EqAt.none_tuple p hu'
  | lst ds'=>
   rw[au] at h';obtain⟨b,ys,rfl,q,_⟩:=h'
   cases ru;cases rv
   obtain⟨its,p⟩:=Mr q
   exact SeqAt.EqAt.none_list p hu'
  | _=>rw[au] at h';subst h';exact flat rfl rfl (by simp[Dt.beq,nu]) ru rv
 | bl b0=>
  intro A d' x y u v hu h h' ru rv
  rw[au] at h
  subst h
  have hu':A.units<cLine:=by omega
  cases d' with
  | tup ds'=>
   rw[au] at h';obtain⟨b,ys,rfl,q,_⟩:=h'
   cases ru;cases rv
   obtain⟨its,p⟩:=Ms q
   exact SeqAt.EqAt.bool_tuple _ p hu'
  | lst ds'=>
   rw[au] at h';obtain⟨b,ys,rfl,q,_⟩:=h'
   cases ru;cases rv
   obtain⟨its,p⟩:=Mr q
   exact SeqAt.EqAt.bool_list _ p hu'
  | _=>rw[au] at h';subst h';exact flat rfl rfl (by simp[Dt.beq,nu]) ru rv
 | int i0=>
  intro A d' x y u v hu h h' ru rv
  rw[au] at h
  subst h
  have hu':A.units<cLine:=by omega
  cases d' with
  | tup ds'=>
   rw[au] at h';obtain⟨b,ys,rfl,q,_⟩:=h'
   obtain⟨t,rfl⟩:=ru;cases rv
   obtain⟨its,p⟩:=Ms q
   exact SeqAt.EqAt.int_tuple _ _ p hu'
  | lst ds'=>
   rw[au] at h';obtain⟨b,ys,rfl,q,_⟩:=h'
   obtain⟨t,rfl⟩:=ru;cases rv
   obtain⟨its,p⟩:=Mr q
   exact SeqAt.EqAt.int_list _ _ p hu'
  | _=>rw[au] at h';subst h';exact flat rfl rfl (by simp[Dt.beq,nu]) ru rv
 | str z0=>
  intro A d' x y u v hu h h' ru rv
  rw[au] at h
  subst h
  have hu':A.units<cLine:=by omega
  cases d' with
  | tup ds'=>
   rw[au] at h';obtain⟨b,ys,rfl,q,_⟩:=h'
   obtain⟨t,rfl⟩:=ru;cases rv
   obtain⟨its,p⟩:=Ms q
   exact SeqAt.EqAt.str_tuple _ _ p hu'
  | lst ds'=>
   rw[au] at h';obtain⟨b,ys,rfl,q,_⟩:=h'
   obtain⟨t,rfl⟩:=ru;cases rv
   obtain⟨its,p⟩:=Mr q
   exact SeqAt.EqAt.str_list _ _ p hu'
  | _=>rw[au] at h';subst h';exact flat rfl rfl (by simp[Dt.beq,nu]) ru rv
 | tup ds ih=>
  intro A d' x y u v hu h h' ru rv
  have hD:=h
  have hD':=h'
  rw[au] at h
  obtain⟨a,xs,rfl,q,hd⟩:=h
  cases ru
  obtain⟨its,p⟩:=Ms q
  have hu':A.units<cLine:=by omega
  cases d' with
  | non=>rw[au] at h';subst h';cases rv;exact SeqAt.EqAt.tuple_none p hu'
  | bl b=>rw[au] at h';subst h';cases rv;exact SeqAt.EqAt.tuple_bool _ p hu'
  | int b=>rw[au] at h';subst h';obtain⟨t,rfl⟩:=rv;exact SeqAt.EqAt.tuple_int _ _ p hu'
  | str b=>rw[au] at h';subst h';obtain⟨t,rfl⟩:=rv;exact SeqAt.EqAt.tuple_str _ _ p hu'
  | lst ds'=>
   rw[au] at h';obtain⟨b,ys,rfl,q',_⟩:=h'
   cases rv
   obtain⟨its2,p2⟩:=Mr q'
   exact SeqAt.EqAt.tuple_list p p2 hu'
  | tup ds'=>
   rw[au] at h';obtain⟨b,ys,rfl,q',hd'⟩:=h'
   cases rv
   refine refs hD hD' ?_
   have:=xn (A:=A) I q q' hd hd' hu' λd hm d' x y u v h1 h2 r1 r2=>ih d hm A.in1 d' x y u v (by
    have:=Dt.iC hm
    rw[Dt.dep] at hu
    show A.units+1+d.dep<cLine
    omega) h1 h2 r1 r2
   simpa[Dt.beq] using this
 | lst ds ih=>
  intro A d' x y u v hu h h' ru rv
  have hD:=h
  have hD':=h'
  rw[au] at h
  obtain⟨a,xs,rfl,q,hd⟩:=h
  cases ru
  obtain⟨its,p⟩:=Mr q
  have hu':A.units<cLine:=by omega
  cases d' with
  | non=>rw[au] at h';subst h';cases rv;exact SeqAt.EqAt.list_none p hu'
  | bl b=>rw[au] at h';subst h';cases rv;exact SeqAt.EqAt.list_bool _ p hu'
  | int b=>rw[au] at h';subst h';obtain⟨t,rfl⟩:=rv;exact SeqAt.EqAt.list_int _ _ p hu'
  | str b=>rw[au] at h';subst h';obtain⟨t,rfl⟩:=rv;exact SeqAt.EqAt.list_str _ _ p hu'
  | tup ds'=>
   rw[au] at h';obtain⟨b,ys,rfl,q',_⟩:=h'
   cases rv
   obtain⟨its2,p2⟩:=Ms q'
   exact SeqAt.EqAt.list_tuple p p2 hu'
  | lst ds'=>
   rw[au] at h';obtain⟨b,ys,rfl,q',hd'⟩:=h'
   cases rv
   refine refs hD hD' ?_
   have:=zN (A:=A) I q q' hd hd' hu' λd hm d' x y u v h1 h2 r1 r2=>ih d hm A.in1 d' x y u v (by
    have:=Dt.iC hm
    rw[Dt.dep] at hu
    show A.units+1+d.dep<cLine
    omega) h1 h2 r1 r2
   simpa[Dt.beq] using this
 | nil=>
  rename_i d hd A d' x y u v a1 a2 a3 a4 a5
  cases hd
 | cons d ds h1 h2=>
  rename_i d0 hd A d' x y u v a1 a2 a3 a4 a5
  rcases AV.mp hd with e | hd
  ·subst e;exact h1 A d' x y u v a1 a2 a3 a4 a5
  ·exact h2 d0 hd A d' x y u v a1 a2 a3 a4 a5
def Dt.X5:Dt->Bool
 | .tup _=>true
 | .lst _=>true
 | _=>false
def X6(K:AD)(neg:Bool):R2:=λx y H Q=>∃d d':Dt,au K H x d/\au K H y d'/\d.X5=true/\d'.X5=true/\d.dep<=40/\Q (.bl (if neg then !d.beq d' else d.beq d')) H
theorem PF(K:AD)(hu:X.A.units+64<cLine)(hK:X.K=K:=by rfl):cL X (Bl .Eq) (X6 K false):=by
 subst hK
 intro pins s σ H x y v u Q I rx ry h
 obtain⟨d,d',h,h',sq,X7,hd,q⟩:=h
 have hA:∀e:Dt,e.dep<=40->X.A.in1.units+e.dep<cLine:=λe he=>by show X.A.units+1+e.dep<cLine;omega
 have hu':X.A.units<cLine:=by omega
 cases d with
 | tup ds=>
  rw[au] at h
  obtain⟨a,xs,rfl,q1,hd1⟩:=h
  cases rx
  have ih:∀d∈ds,∀(d':Dt) (x y:V) (u v:Value),au X.K H x d->au X.K H y d'->RelV x u->RelV y v->CD X.A.in1 s u v (d.beq d'):=λd hm d' x y u v h1 h2 r1 r2=>
   oE I d X.A.in1 d' x y u v (hA d (by have:=Dt.iC hm;rw[Dt.dep] at hd;omega)) h1 h2 r1 r2
  cases d' with
  | tup ds'=>
   rw[au] at h'
   obtain⟨b,ys,rfl,q2,hd2⟩:=h'
   cases ry
   exact xn I q1 q2 hd1 hd2 hu' ih _ _ _ _ ⟨.bl _,H,I,rfl,by simpa[Dt.beq] using q⟩
  | lst ds'=>
   rw[au] at h'
   obtain⟨b,ys,rfl,q2,hd2⟩:=h'
   cases ry
   obtain⟨its,_,p,_⟩:=I.tuple q1
   obtain⟨its2,_,p2,_⟩:=I.list q2
   exact SeqAt.RcAt.tuple_list (show s.heap.IsTuple a its.toArray from p) p2.isList hu' _ _ _ _ ⟨.bl _,H,I,rfl,by simpa[Dt.beq] using q⟩
  | _=>cases X7
 | lst ds=>
  rw[au] at h
  obtain⟨a,xs,rfl,q1,hd1⟩:=h
  cases rx
  have ih:∀d∈ds,∀(d':Dt) (x y:V) (u v:Value),au X.K H x d->au X.K H y d'->RelV x u->RelV y v->CD X.A.in1 s u v (d.beq d'):=λd hm d' x y u v h1 h2 r1 r2=>
   oE I d X.A.in1 d' x y u v (hA d (by have:=Dt.iC hm;rw[Dt.dep] at hd;omega)) h1 h2 r1 r2
  cases d' with
  | lst ds'=>
   rw[au] at h'
   obtain⟨b,ys,rfl,q2,hd2⟩:=h'
   cases ry
   exact zN I q1 q2 hd1 hd2 hu' ih _ _ _ _ ⟨.bl _,H,I,rfl,by simpa[Dt.beq] using q⟩
  | tup ds'=>
   rw[au] at h'
   obtain⟨b,ys,rfl,q2,hd2⟩:=h'
   cases ry
   obtain⟨its,_,p,_⟩:=I.list q1
   obtain⟨its2,_,p2,_⟩:=I.tuple q2
   exact SeqAt.RcAt.list_tuple p.isList (show s.heap.IsTuple b its2.toArray from p2) hu' _ _ _ _ ⟨.bl _,H,I,rfl,by simpa[Dt.beq] using q⟩
  | _=>cases X7
 | _=>cases sq
theorem X8(K:AD)(hu:X.A.units+64<cLine)(hK:X.K=K:=by rfl):cL X (Bl .NotEq) (λx y H Q=>X6 K true x y H Q/\∃d d':Dt,au K H x d/\au K H y d'/\((∃ds ds',d=.tup ds/\d'=.tup ds')∨∃ds ds',d=.lst ds/\d'=.lst ds')):=by
 subst hK
 intro pins s σ H x y v u Q I rx ry h
 obtain⟨⟨d,d',h,h',sq,X7,hd,q⟩,e,e',g,g',hk⟩:=h
 have e1:=vw I d x e h g
 have e2:=vw I d' y e' h' g'
 subst e1 e2
 have hA:∀e:Dt,e.dep<=40->X.A.in1.units+e.dep<cLine:=λe he=>by show X.A.units+1+e.dep<cLine;omega
 have hu':X.A.units<cLine:=by omega
 rcases hk with⟨ds,ds',rfl,rfl⟩ | ⟨ds,ds',rfl,rfl⟩
 ·rw[au] at h h'
  obtain⟨a,xs,rfl,q1,h1⟩:=h
  obtain⟨b,ys,rfl,q2,h2⟩:=h'
  cases rx
  cases ry
  have ih:∀d∈ds,∀(d':Dt) (x y:V) (u v:Value),au X.K H x d->au X.K H y d'->RelV x u->RelV y v->CD X.A.in1 s u v (d.beq d'):=λd hm d' x y u v h1 h2 r1 r2=>
   oE I d X.A.in1 d' x y u v (hA d (by have:=Dt.iC hm;rw[Dt.dep] at hd;omega)) h1 h2 r1 r2
  obtain⟨its,r1,p1,_⟩:=I.tuple q1
  obtain⟨its2,r2,p2,_⟩:=I.tuple q2
  have l1:=r1.length
  have l2:=r2.length
  have l3:=h1.length
  have l4:=h2.length
  have z:=SeqAt.RcNeAt.tuples (show s.heap.IsTuple a its.toArray from p1) (show s.heap.IsTuple b its2.toArray from p2) hu' (oC r1 r2 h1 h2 ih)
  have fin:SeqAt.RcNeAt X.A s (.ref a) (.ref b) (!Dt.gn ds ds'):=by
   by_cases hl:ds.length=ds'.length
   ·rw[show min its.toArray.size its2.toArray.size=ds.length by simp;omega,lA ds ds' hl,show(its.toArray.size == its2.toArray.size)=true by simp;omega,Gv] at z
    exact z
   ·rw[show(its.toArray.size == its2.toArray.size)=false by simp;omega,DC] at z
    rw[lB ds ds' hl]
    exact z
  exact fin _ _ _ _ ⟨.bl _,H,I,rfl,by simpa[Dt.beq] using q⟩
 ·rw[au] at h h'
  obtain⟨a,xs,rfl,q1,h1⟩:=h
  obtain⟨b,ys,rfl,q2,h2⟩:=h'
  cases rx
  cases ry
  have ih:∀d∈ds,∀(d':Dt) (x y:V) (u v:Value),au X.K H x d->au X.K H y d'->RelV x u->RelV y v->CD X.A.in1 s u v (d.beq d'):=λd hm d' x y u v h1 h2 r1 r2=>
   oE I d X.A.in1 d' x y u v (hA d (by have:=Dt.iC hm;rw[Dt.dep] at hd;omega)) h1 h2 r1 r2
  obtain⟨its,r1,p1,_⟩:=I.list q1
  obtain⟨its2,r2,p2,_⟩:=I.list q2
  have l1:=r1.length
  have l2:=r2.length
  have l3:=h1.length
  have l4:=h2.length
  have fin:SeqAt.RcNeAt X.A s (.ref a) (.ref b) (!Dt.gn ds ds'):=by
   by_cases hl:ds.length=ds'.length
   ·have z:=SeqAt.RcNeAt.lists p1.isList p2.isList (by simp;omega) hu' (oC r1 r2 h1 h2 ih)
    rw[show its.toArray.size=ds.length by simp;omega,lA ds ds' hl] at z
    exact z
   ·rw[lB ds ds' hl]
    exact SeqAt.RcNeAt.lists_lengths p1.isList p2.isList (by simp;omega) hu'
  exact fin _ _ _ _ ⟨.bl _,H,I,rfl,by simpa[Dt.beq] using q⟩
end
theorem qc{K:AD}{H:Hp}:∀(ns:List Int),aG K H (ns.map V.int) (ns.map Dt.int)
 | []=>by simp[aG]
 | n::ns=>by rw[Aw,Aw,aG];exact⟨by rw[au],qc ns⟩
theorem qd:∀(ns:List Int),Dt.deps (ns.map Dt.int)=0
 | []=>by simp[Dt.deps]
 | n::ns=>by rw[Aw,Dt.deps,qd ns];simp[Dt.dep]
section
variable{X:Cx}
def ab2(K:AD):List V->Hp->VK->Prop:=λxs H Q=>∃(p:Addr) (ys:List V),xs=[.ref p]/\(bG K H p ys∨aY K H p ys)/\∀l,H l=none->Q (.ref l) (upd H l (.lst ys))
theorem NF(K:AD)(hK:X.K=K:=by rfl):cK X (.type "list") (ab2 K):=by subst hK;exact zz
def X9(K:AD):List V->Hp->VK->Prop:=λxs H Q=>∃(p:Addr) (ys:List V),xs=[.ref p]/\((bG K H p ys/\∀l,H l=none->Q (.ref l) (upd H l (.tup ys)))∨(aY K H p ys/\Q (.ref p) H))
theorem bO(K:AD)(hK:X.K=K:=by rfl):cK X (.type "tuple") (X9 K):=by subst hK;exact yk
def bS(H:Hp)(d:Addr):Prop:=∃ms:List Int,H d=some (.lst (ms.map V.int))/\ms≠[]/\∀m∈ms,0<=m
theorem bS.same{H H':Hp}{d:Addr}(h:bS H d)(s:Same H H'):bS H' d:=let ⟨ms,a,b,c⟩:=h;⟨ms,s _ _ a,b,c⟩
end
end L2
namespace L2
open PySem
theorem dI{i j:Int}(h:i=j):decide (V.int i=V.int j)=true:=by rw[h];simp
theorem vy{ns:List Int}{i:Nat}{x:V}(h:(ns.map V.int)[i]? =some x):∃f,x=.int f/\ns[i]? =some f:=by
 rw[AJ] at h
 cases e:ns[i]? with
 | none=>rw[e] at h;cases h
 | some f=>rw[e] at h;exact⟨f,(AN h).symm,rfl⟩
end L2
namespace L2
open PySem PySem.Spec PyProof.Rows
theorem NG{ys:List Str}:∀{us:List Value},Vals (ys.map V.str) us->DV us ys:=by
 induction ys with
 | nil=>intro us r;cases r;exact .nil
 | cons y ys ih=>
  intro us r
  rw[Aw] at r
  cases r with
  | cons a b=>
   obtain⟨t,rfl⟩:=a
   exact .cons y t (ih b)
theorem qe:∀{us:List Value} {ys:List Str},DV us ys->Vals (ys.map V.str) us
 | _,_,.nil=>.nil
 | _,_,.cons y t r=>.cons ⟨t,rfl⟩ (qe r)
section
variable{X:Cx}
structure nE (K:AD)(P:Hz)(a:Addr)(tab:List (Str×Option V)):Prop where
 ex:∃(es:Array DictEntry) (n:Nat),K.lookup a=some ⟨.type "dict",none,.dict es n, #[]⟩/\HZ P es.toList/\∀x r,(x,r)∈tab->gT r (findBy Ie es x)
 lo:(a == CS)=false
def Wl(tab:List (Str×Option V))(ty tx:TE):TE:=λσ H Q=>ty σ H λy H1=>tx σ H1 λz H2=>∃x r,y=.str x/\(x,r)∈tab/\Q (r.getD z) H2
theorem xo{x:Str}{p apos cpos:Pos}{e f:Expr}{ty tx:TE}{a:Addr}{tab:List (Str×Option V)}(D:nE X.K X.w.params a tab)(hg:Gl X x)(hm:X.mg x=some (.ref a))(he:PE X e ty)(hf:PE X f tx)
  (m:M2 X (.Name x p) "get" apos e f cpos:=by exact⟨rfl,rfl,rfl,rfl⟩) (hdb:(x == ("__debug__":Str))=false:=by decide):PE X (.Call (.Attribute (.Name x p) "get" apos) [e,f] [] cpos) (Wl tab ty tx):=by
 intro pins s σ H Q I h
 obtain⟨es,n,hl,hk,ht⟩:=D.ex
 refine wpAny_Call_method m.base m.few m.line G7 DG Hn (qH I hg hm ?_ hdb)
 have hm0:=PySem.W.mapOf_K (prog:=X.prog) I.gX hl hk
 refine⟨hm0.typeIs,hm0.noDict,?_⟩
 rw[m.trees]
 refine De rfl (D1 (C_ (aK (he pins s σ H _ I h) λiv s2 ⟨y,H2,I2,ry,q2⟩=>
  C_ (aK (hf pins s2 σ H2 _ I2 q2) λfv s3 ⟨z,H3,I3,rz,x',r,ey,hmem,q3⟩=>El ?_))))
 subst ey
 obtain⟨t,rfl⟩:=ry
 have Yb:=PySem.W.mapOf_K (prog:=X.prog) I3.gX hl hk
 refine call_meetsIn DG Yb.typeIs Et (Ei _ _ _) (meets_dict_get_default (strKind X.prog X.w) a (JA X.prog X.w x' t) D.lo fv) ⟨_,Yb,?_⟩
 refine⟨r.getD z,H3,I3.tok _,?_,q3⟩
 have:=ht x' r hmem
 cases r with
 | none=>
  rw[this.none_of]
  exact rz
 | some v=>
  obtain⟨u,eu,ru⟩:=this.some_of
  rw[eu]
  exact ru
theorem gJ{K:AD}{H:Hp}{a:Addr}{xs:List V}{us:List Value}{n:Nat}(h:K.lookup a=some ⟨.type "tuple",none,.seq us.toArray n, #[]⟩)(r:Vals xs us)(hz:xs.length<=sizeLine):aY K H a xs:=
 .inr ⟨_,us.toArray,n,h,rfl,rfl,by rw[AY,<-r.length];exact hz,by simpa using r⟩
theorem Mt(K:AD){es:List Expr}{k:Nat}{t:wV}{n:Nat}{pos:Pos}(hc:X.calm=true)(h:O0 X es t)
  (hn:(Ea es X.env).length=n:=by rfl) (hst:(Ea es X.env).findIdx? (·.1)=none:=by rfl) (hK:X.K=K:=by rfl):PG X (.Tuple es k pos) (Xr K n t):=by
 subst hK;exact kX hc h hn hst
end
mutual
def Dt.gZ:Dt->Bool
 | .lst _=>false
 | .tup xs=>Dt.iD xs
 | _=>true
def Dt.iD:List Dt->Bool
 | []=>true
 | x::xs=>x.gZ&&Dt.iD xs
end
def jl(K:AD)(H H':Hp):Prop:=∀a xs,aY K H a xs->aY K H' a xs
theorem jl.trans{K:AD}{H H1 H2:Hp}(a:jl K H H1)(b:jl K H1 H2):jl K H H2:=λc o h=>b c o (a c o h)
theorem Same.kts{K:AD}{H H':Hp}(s:Same H H'):jl K H H':=λ_ _ h=>s.rY h
theorem KB.kts{K:AD}{d:Addr}{xs:List V}{H H':Hp}(h:H d=some (.lst xs))(k:KB d H H'):jl K H H':=λa ys e=>by
 rcases e with(e | ⟨o,e⟩) | e
 ·exact .inl (.inl (k _ _ e (iV e h (λz=>nomatch z))))
 ·exact .inl (.inr ⟨o,k _ _ e (iV e h (λz=>nomatch z))⟩)
 ·exact .inr e
theorem fO{K:AD}{H H':Hp}(k:jl K H H')(d:Dt):∀x:V,d.gZ=true->au K H x d->au K H' x d:=by
 induction d using Dt.rec (motive_2:=λds=>∀xs:List V,Dt.iD ds=true->aG K H xs ds->aG K H' xs ds) with
 | non=>intro x _ h;simpa[au] using h
 | bl b=>intro x _ h;simpa[au] using h
 | int b=>intro x _ h;simpa[au] using h
 | str b=>intro x _ h;simpa[au] using h
 | tup ds ih=>
  intro x hn h
  rw[au] at h ⊢
  rw[Dt.gZ] at hn
  obtain⟨a,xs,e,q,hd⟩:=h
  exact⟨a,xs,e,k _ _ q,ih xs hn hd⟩
 | lst ds ih=>intro x hn;simp[Dt.gZ] at hn
 | nil=>
  rename_i xs hn h
  cases xs with
  | nil=>simp[aG]
  | cons _ _=>simp[aG] at h
 | cons d ds h1 h2=>
  rename_i xs hn h
  rw[Dt.iD,Bz] at hn
  cases xs with
  | nil=>simp[aG] at h
  | cons x xs=>
   rw[aG] at h ⊢
   exact⟨h1 x hn.1 h.1,h2 xs hn.2 h.2⟩
theorem xp{K:AD}{H H':Hp}(k:jl K H H'):∀(ds:List Dt) (xs:List V),Dt.iD ds=true->aG K H xs ds->aG K H' xs ds
 | [],xs,_,h=>by
  cases xs with
  | nil=>simp[aG]
  | cons _ _=>simp[aG] at h
 | d::ds,xs,hn,h=>by
  rw[Dt.iD,Bz] at hn
  cases xs with
  | nil=>simp[aG] at h
  | cons x xs=>
   rw[aG] at h ⊢
   exact⟨fO k d x hn.1 h.1,xp k ds xs hn.2 h.2⟩
theorem vz{K:AD}{H:Hp}{i:Int}:au K H (.int i) (.int i):=by rw[au]
theorem nF{K:AD}{H:Hp}{z:Str}:au K H (.str z) (.str z):=by rw[au]
theorem fY{K:AD}{H:Hp}{a:Addr}{xs:List V}{ds:List Dt}(h:aY K H a xs)(d:aG K H xs ds):au K H (.ref a) (.tup ds):=by rw[au];exact⟨a,xs,rfl,h,d⟩
theorem fh{K:AD}{H:Hp}:aG K H [] []:=by simp[aG]
theorem bP{K:AD}{H:Hp}{x:V}{xs:List V}{d:Dt}{ds:List Dt}(h:au K H x d)(t:aG K H xs ds):aG K H (x::xs) (d::ds):=by rw[aG];exact⟨h,t⟩
theorem zO{K:AD}{H:Hp}:∀{xs ys:List V} {ds es:List Dt},aG K H xs ds->aG K H ys es->aG K H (xs++ys) (ds++es)
 | [],_,[],_,_,h=>h
 | [],_,_::_,_,h,_=>by simp[aG] at h
 | _::_,_,[],_,h,_=>by simp[aG] at h
 | x::xs,_,d::ds,_,h,g=>by
  rw[aG] at h
  exact bP h.1 (zO h.2 g)
theorem Mu{ns:List Str}{i:Nat}{x:V}(h:(ns.map V.str)[i]? =some x):∃f,x=.str f/\ns[i]? =some f:=by
 rw[AJ] at h
 cases e:ns[i]? with
 | none=>rw[e] at h;cases h
 | some f=>rw[e] at h;exact⟨f,(AN h).symm,rfl⟩
theorem Sm:HL (.type "list_reverseiterator") "__len__"=pure none:=by rw[EW,DH];kernel_rfl
theorem Wm:HL (.type "list_reverseiterator") "__length_hint__"=pure (some (.builtin "list_reverseiterator.__length_hint__")):=by rw[EW,DH];kernel_rfl
section
variable{prog:Af}{w:World}{A:A0}{s:AH}{R:JS->AH->Prop}
theorem NH{I l S:Addr}{its:Array Value}{res:Value}{c0:Nat}(hh:A.handled=none)(hlI:l≠I)(hSI:S≠I)(hSl:S≠l)(hit:s.heap.IsRevIter I l ((its.size:Int)-1))(hl:s.heap.IsList l its)(hz:its.size<=sizeLine)
  (hS:s.heap.get? S=some {cls:=.type "list",data:=.seq #[] c0})
  (hR:∀h' tk acc c,(∀b o,b≠S->b≠I->s.heap.get? b=some o->h'.get? b=some o)->h'.get? S=some {cls:=.type "list",dict:=none,data:=.seq acc c,slots:= #[]}->ItemsOf (λi v=>its[its.size-1-i]? =some v) acc its.size->
   R (.ok (.ret res)) {s with heap:=h',toks:=tk}):
  wpAny (model prog w) A.in1 (Be (.ref S) (.ref I) res) (λfin s'=>match fin with | .done f=>R (.ok f) s' | .again c'=>c'.quiet=true/\Em (model prog w) A c' R s') (λe s'=>R (.error e) s') s:=by
 have hSf:S ∉ [I,l]:=λhm=>by
  rcases AV.mp hm with z | z
  ·exact hSI z
  ·exact hSl (Ad.mp z)
 have W:=(Walks.listRev (prog:=prog) (w:=w) (A:=A.in1) hh I l hlI its).toS
 unfold Be
 (refine AA (Cm hit.typeIs ?_))
 have g1:CN (.ref S) (.ref I)=false:=by simp[CN,hSI]
 rw[if_neg (by rw[g1];decide)];refine AA (wpAny_pyIter_revIter hit ?_)
 (refine AA (BE ?_));unfold Dx
 refine AA (Dk hit.typeIs Sm ?_)
 show wpAny _ A.in1 (specialOf (A5 I) (CH "__length_hint__") >>= _) _ _ s
 refine AA (Dk hit.typeIs Wm ?_)
 generalize hid:("list_reverseiterator.__length_hint__":String)=id0
 wp_delta
 rw[show splitId id0=some ("list_reverseiterator","__length_hint__") from by subst hid;decide+kernel];subst hid
 refine AA (D' (T:="list_reverseiterator") (b:=true) hit.typeIs (by rw[GI];kernel_rfl) ?_)
 (refine AG ?_);rw[if_neg (by decide)]
 refine AG ⟨CO F.plain_extend_loop _,FX W hz S hSf res its.size 0 s _ c0 rfl (BI _) ⟨BI _,by simpa using hit,hl⟩ hS (JW _) λs' acc c hm hS' ha=>?_⟩
 rw[Ii hm]
 refine hR s'.heap s'.toks acc c (λb o hb hb' e=>hm.heap b o (λz=>?_) e) hS' ha
 rcases AV.mp z with z | z
 ·exact hb z
 ·exact hb' (Ad.mp z)
end
section
variable{prog:Af}{w:World}{A:A0}{E:Value->AH->Prop}{s:AH}
theorem yl{Q:Value->AH->Prop}{I l:Addr}{its:Array Value}(hh:A.handled=none)(hlI:l≠I)(hit:s.heap.IsRevIter I l ((its.size:Int)-1))(hl:s.heap.IsList l its)(hz:its.size<=sizeLine)
  (hQ:∀h' tk acc c,(∀b o,b≠I->s.heap.get? b=some o->h'.get? b=some o)->h'.get? s.heap.objs.size=some {cls:=.type "list",dict:=none,data:=.seq acc c,slots:= #[]}->ItemsOf (λi v=>its[its.size-1-i]? =some v) acc its.size->
   Q (.ref s.heap.objs.size) {s with heap:=h',toks:=tk}):wpAny (model prog w) A (call (.type "list") [.ref I]) Q E s:=by
 have bI:I<s.heap.objs.size:=by obtain⟨o,e,_⟩:=hit;exact AU e
 have bl:l<s.heap.objs.size:=by obtain⟨o,e,_⟩:=hl;exact AU e
 refine callType_codes (Q₁:=λobj s1=>obj=.ref s.heap.objs.size/\s1={s with heap:=s.heap.push {cls:=.type "list",data:=.seq #[]}}) F.called_list (F.typeCall_list_1 _) F.entry_list_init (code_list_new _ ⟨rfl,rfl⟩) λobj s1 e1=>?_
 obtain⟨rfl,rfl⟩:=e1
 have hS:(s.heap.push {cls:=.type "list",data:=.seq #[]}).get? s.heap.objs.size=some {cls:=.type "list",data:=.seq #[]}:=AO _ rfl
 have old:∀b o,s.heap.get? b=some o->b≠s.heap.objs.size:=λb o e=>Ac (AU e)
 refine⟨⟨_,hS,rfl⟩,F.args_list_init_2 _ _,?_⟩
 show wpAny _ _ (do let old <-HP (.ref s.heap.objs.size);Builtin.List.listUpdate (.ref s.heap.objs.size) (λ_=> #[]);letGo old.toList.reverse;Be (.ref s.heap.objs.size) (.ref I) .none) _ _ _
 (refine AA ?_);unfold HP;refine AA (Cb hS rfl (AG ?_))
 show wpAny _ _ (IU s.heap.objs.size (λ_=> #[]) >>= λ_=>letGo (#[]:Array Value).toList.reverse >>= λ_=>Be (.ref s.heap.objs.size) (.ref I) .none) _ _ _
 refine AA (Dm hS rfl ?_)
 have hS2:=Bk (Br (λ_=>(#[]:Array Value))) hS rfl
 have oth:∀b o,s.heap.get? b=some o->((s.heap.push {cls:=.type "list",data:=.seq #[]}).update s.heap.objs.size (Br (λ_=>(#[]:Array Value)))).get? b=some o:=
  λb o e=>(CI _ _ (C0 (old b o e))).trans (AE _ e)
 (refine AA (wpAny_letGo ?_));refine NH (A:=A.in1) hh hlI (CQ bI) (CQ bl) (hit.at λo e=>oth _ o e) (hl.at λo e=>oth _ o e) hz hS2 λh' tk acc c k e a=>?_
 exact⟨rfl,hQ h' tk acc c (λb o hb e=>k b o (old b o e) hb (oth b o e)) e a⟩
end
theorem jq{α β:Type}{r:α->β->Prop}{xs:List α}{ys:List β}(h:BV r xs ys):BV r xs.reverse ys.reverse:=by
 induction h with
 | nil=>exact .nil
 | cons a _ ih=>rw[Dy,Dy];exact dj ih (.cons a .nil)
theorem PH{its:List Value}{acc:Array Value}(h:ItemsOf (λi v=>its.toArray[its.toArray.size-1-i]? =some v) acc its.toArray.size):acc.toList=its.reverse:=by
 obtain⟨hs,hv⟩:=h
 simp only[AY,Bu] at hs hv
 apply Cc
 intro j
 by_cases hj:j<its.length
 ·have e1:acc[j]? =some acc[j]:=Av (by omega)
  have e2:=hv j _ e1
  rw[FD hj,e2,A_,e1]
 ·rw[BC (by rw[Au];omega),BC (by rw[Bw];omega)]
section
variable{X:Cx}
def tLR(K:AD)(ta:TA):TE:=λσ H Q=>ta σ H λvs H1=>∃(a:Addr) (xs:List V),vs=[.ref a]/\bG K H1 a xs/\∀l,H1 l=none->Q (.ref l) (upd H1 l (.lst xs.reverse))
theorem uq(K:AD){a:Expr}{ta:TA}{p p' pos pos':Pos}(hc:X.calm=true)(hg:Gl X "list")(hm:X.mg "list"=none)(hg':Gl X "reversed")(hm':X.mg "reversed"=none)(ha:PA X [a] ta)(hK:X.K=K:=by rfl)
  (hs:BO [a] X.env=[(false,eval a X.env)]:=by rfl):PE X (.Call (.Name "list" p) [.Call (.Name "reversed" p') [a] [] pos'] [] pos) (tLR K ta):=by
 subst hK
 intro pins s σ H Q I h
 refine CT (gY I hg hm Mp ?_)
 refine Bd ?_ rfl rfl
 rw[show BO [.Call (.Name "reversed" p') [a] [] pos'] X.env=[(false,eval (.Call (.Name "reversed" p') [a] [] pos') X.env)] from rfl]
 show wpAny _ _ (spliced [(false,eval (.Call (.Name "reversed" p') [a] [] pos') X.env)]) _ _ s
 refine C_ ?_
 refine Call_ (gY I hg' hm' Lu (Bd (aK (ha pos' pins s σ H _ I h) λus s1 ⟨vs,H1,I1,r1,q1⟩=>?_) hs rfl))
 obtain⟨l,xs,e,hq,q⟩:=q1
 subst e
 cases r1 with
 | cons r rr=>
  cases rr
  cases r
  obtain⟨its,rv,pl,hz⟩:=I1.list hq
  have hl:=rv.length
  refine call_reversed_list pl.isList (El ?_)
  have bl:l<s1.heap.objs.size:=by obtain⟨o,e,_⟩:=pl.isList;exact AU e
  refine yl (I1.ok.hd hc) (I:=s1.heap.objs.size) (its:=its.toArray) (Ac bl) ⟨_,AO _ rfl,rfl,rfl⟩ (pl.isList.push _) (by simp only[AY];omega) λh' tk acc c k e it=>?_
  have ei:=PH it
  have kp:∀b u,s1.heap.get? b=some u->h'.get? b=some u:=λb u e=>k b u (Ac (AU e)) (AE _ e)
  rw[Ax] at e
  have hp:s1.heap.objs.size<=s1.heap.objs.size+1:=B8 _
  refine⟨.ref (s1.heap.objs.size+1),_,I1.laid (t':=tk) kp hp (show bA X.prog X.w _ h' _ (.lst xs.reverse) from⟨by rw[Bw];exact hz,acc.toList,c,by rw[ei];exact jq rv,e⟩),?_,q _ (I1.hok.fresh hp)⟩
  show RelV (.ref _) _
  rw[show(s1.heap.push (revObj l ((its.toArray.size:Int)-1))).objs.size=s1.heap.objs.size+1 from Ax ..]
  rfl
end
end L2
namespace L2
open PySem PySem.Spec PyProof.Rows
open AutoSeq1 (wpAny_loadPart')
section
variable{prog:Af}{w:World}{A:A0}{E:Value->AH->Prop}{s:AH}
theorem rj{it t:Addr}{i:Nat}{items:Array Value}{x:Value}{Q:Value->AH->Prop}(hit:s.heap.IsTupleIter it t i)(ht:s.heap.IsTuple t items)(hx:items[i]? =some x)
  (hQ:∀h',h'.IsTupleIter it t (i+1)->Ck it s.heap h'->Q x {s with heap:=h'}):wpAny (model prog w) A (B3 (.ref it)) Q E s:=by
 obtain⟨o,ho,hc,hd⟩:=id hit
 obtain⟨ol,hol,_,nl,hdl⟩:=ht
 unfold B3
 refine AA (BF (name:=CH "__next__") hit.typeIs DE (BK DE hit.typeIs Fp ?_ (Fh _)))
 (show wpAny _ _ (field (.ref it) 0 >>= _) _ _ s);(refine AA (B2 ho hd (x:=.ref t) rfl ?_))
 (show wpAny _ _ (if(A5 t == CB)=true then _ else _) _ _ s);rw[if_neg (show ¬((A5 t == CB)=true) from An)]
 (show wpAny _ _ (field (.ref it) 1 >>= _) _ _ s);(refine AA (B2 ho hd (x:=.int i 0) rfl ?_))
 (show wpAny _ _ (FK (.ref t) >>= _) _ _ s);(refine AA (Cb hol hdl ?_))
 simp only[Ae,hx];refine AA (wpAny_setField ho hd (by simp) (AG ⟨x,rfl,AG (hQ _ ?_ (Cd ..))⟩))
 exact⟨_,Bk _ ho (Obj.isFreed_of_fields (Obj.data_mapFields hd _)),(Obj.cls_mapFields ..).trans hc,(by rw[Obj.data_mapFields hd];simp[Ap])⟩
theorem mT{it t:Addr}{i:Nat}{items:Array Value}{Q:Value->AH->Prop}(hh:A.handled=none)(hit:s.heap.IsTupleIter it t i)(ht:s.heap.IsTuple t items)(hx:items[i]? =none)
  (hE:∀h' e,Ej it s.heap h'->(∃o,h'.get? e=some o/\o.cls=.type "StopIteration")->E (.ref e) {s with heap:=h'}):wpAny (model prog w) A (B3 (.ref it)) Q E s:=by
 obtain⟨o,ho,hc,hd⟩:=id hit
 obtain⟨ol,hol,_,nl,hdl⟩:=ht
 unfold B3
 refine AA (BF (name:=CH "__next__") hit.typeIs DE (BK DE hit.typeIs Fp ?_ (Fh _)))
 (show wpAny _ _ (field (.ref it) 0 >>= _) _ _ s);(refine AA (B2 ho hd (x:=.ref t) rfl ?_))
 (show wpAny _ _ (if(A5 t == CB)=true then _ else _) _ _ s);rw[if_neg (show ¬((A5 t == CB)=true) from An)]
 (show wpAny _ _ (field (.ref it) 1 >>= _) _ _ s);(refine AA (B2 ho hd (x:=.int i 0) rfl ?_))
 (show wpAny _ _ (FK (.ref t) >>= _) _ _ s);(refine AA (Cb hol hdl ?_))
 simp only[Ae,hx];refine AA (Cw (AA (wpAny_setField ho hd (by simp) ?_)))
 (show wpAny _ _ (newExc (.type "StopIteration") [] >>= _) _ _ _);(refine AA ?_);simp only[newExc,newTuple]
 (refine AA (BJ ?_ (by size_fits)))
 (refine AA (m:=GJ _ _) (wpAny_of_eq (a:=CB) (by first | rfl | (simp only[GJ];rfl)) ?_));(refine BJ ?_ (by size_fits))
 simp only[raiseNew];refine AA (wpAny_handled ?_)
 (first | rw[show A.in1.handled=none from hh] | rw[hh]);refine AA (AG (wpAny_throw ?_))
 exact hE _ _ (((Cd (a:=it) ..).extBut.push _).push _) ⟨_,AO _ rfl,rfl⟩
theorem PJ(hh:A.handled=none)(it t:Addr)(hne:t≠it)(items:Array Value):Draws prog w A it [it,t] items.size (λi v=>items[i]? =some v) (λi h=>h.IsTupleIter it t i/\h.IsTuple t items) where
 live:=λ_ _ st=>let ⟨o,ho,_⟩:=st.1;⟨o,ho⟩
 frame:=λ_ _ _ st hk=>⟨(let ⟨o,ho,r⟩:=st.1;⟨o,hk it (by simp) o ho,r⟩),(let ⟨o,ho,r⟩:=st.2;⟨o,hk t (by simp) o ho,r⟩)⟩
 item:=λi s Q E hi st hQ=>rj st.1 st.2 (x:=items[i]) (by simp[hi]) λh' hit' hs'=>hQ _ h' s.toks (by simp[hi]) ⟨hit',(let ⟨o,ho,r⟩:=st.2;⟨o,(hs'.2 t hne).trans ho,r⟩)⟩ hs'
 done:=λs Q E st hE=>mT hh st.1 st.2 (by simp) hE
theorem NI(hh:A.handled=none)(it t:Addr)(items:Array Value)(i:Nat)(hx:items[i]? =none):Draws prog w A it [it,t] 0 (λ_ _=>True) (λ_ h=>h.IsTupleIter it t i/\h.IsTuple t items) where
 live:=λ_ _ st=>let ⟨o,ho,_⟩:=st.1;⟨o,ho⟩
 frame:=λ_ _ _ st hk=>⟨(let ⟨o,ho,r⟩:=st.1;⟨o,hk it (by simp) o ho,r⟩),(let ⟨o,ho,r⟩:=st.2;⟨o,hk t (by simp) o ho,r⟩)⟩
 item:=λi s Q E hi st hQ=>absurd hi (Nat.not_lt_zero _)
 done:=λs Q E st hE=>mT hh st.1 st.2 hx hE
end
theorem ur(l:Addr)(items:Array Value)(n:Nat)(dct:Option Addr)(sl:Array (Option Value)):
  Meets (Builtin.«enumerate.__new__» ⟨[.type "enumerate",.ref l],[]⟩) (λ_ R s=>s.heap.get? l=some {cls:=.type "tuple",dict:=dct,data:=.seq items n,slots:=sl}/\R (.ok (.ret (.ref (s.heap.push {cls:=.type "tuple_iterator",data:=.fields #[.ref l,.int 0 0]}).objs.size)))
    {s with heap:=(s.heap.push {cls:=.type "tuple_iterator",data:=.fields #[.ref l,.int 0 0]}).push {cls:=.type "enumerate",data:=.fields #[.none,.bool false,.ref s.heap.objs.size,Ap 0,.none,.none]}}):=
 .of_wp λprog w A R s h=>by
  obtain⟨hp,g,d,tk,os⟩:=s
  obtain⟨hl,h⟩:=h
  have hsub:=sub_enumerate
  have hL:Heap.IsTuple (JX ⟨hp,g,d,tk,os⟩) l items:=⟨_,hl,rfl,n,rfl⟩
  wp_walk using wpAny_loadPart' hl
  (refine wpAny_stack_any λst=>AG ?_);split
  ·rename_i c _ _ _ _ _
   cases(c == DO "enumerate")
   ·wp_walk using wpAny_loadPart' hl,C9 hL
    exact⟨_,rfl,h⟩
   ·wp_walk using wpAny_loadPart' hl,C9 hL
    exact⟨_,rfl,h⟩
  ·wp_walk using wpAny_loadPart' hl,C9 hL
   exact⟨_,rfl,h⟩
section
variable{prog:Af}{w:World}{A:A0}{E:Value->AH->Prop}{s:AH}
theorem ym{l:Addr}{items:Array Value}{Q:Value->AH->Prop}(hL:s.heap.IsTuple l items)
  (h:∀h',IsEnum h' (s.heap.objs.size+1) s.heap.objs.size 0 .none->h'.IsTupleIter s.heap.objs.size l 0->h'.objs.size=s.heap.objs.size+2->(∀b o,s.heap.get? b=some o->h'.get? b=some o)->Q (.ref (s.heap.objs.size+1)) {s with heap:=h'}):
  wpAny (model prog w) A (call (.type "enumerate") [.ref l]) Q E s:=by
 obtain⟨⟨c,dct,dt,sl⟩,hl,hc,n,hd⟩:=hL
 replace hc:c=.type "tuple":=hc
 replace hd:dt=.seq items n:=hd
 subst hc hd
 refine callType_new F.called_enumerate (by decide) (F.typeCall_enumerate_1 _) (F.newCall_enumerate_1 _) (λobj=>F.args_object_init_2 obj _) F.entry_enumerate_new (ur l items n dct sl) ⟨hl,?_⟩
 have hz:(s.heap.push {cls:=.type "tuple_iterator",data:=.fields #[.ref l,.int 0 0]}).objs.size=s.heap.objs.size+1:=Ax ..
 show _/\_
 rw[hz]
 have he:IsEnum ((s.heap.push {cls:=.type "tuple_iterator",data:=.fields #[.ref l,.int 0 0]}).push {cls:=.type "enumerate",data:=.fields #[.none,.bool false,.ref s.heap.objs.size,Ap 0,.none,.none]}) (s.heap.objs.size+1) s.heap.objs.size 0 .none:=by
  have:=AO (s.heap.push {cls:=.type "tuple_iterator",data:=.fields #[.ref l,.int 0 0]}) (o:={cls:=.type "enumerate",data:=.fields #[.none,.bool false,.ref s.heap.objs.size,Ap 0,.none,.none]}) rfl
  rw[hz] at this;exact this
 exact⟨⟨_,he,rfl⟩,h _ he ⟨_,AE _ (AO _ rfl),rfl,rfl⟩ (by rw[Ax,hz]) λb o x=>AE _ (AE _ x)⟩
end
def vA(K:AD)(a:Addr):It:=
 ⟨λi H=>∃xs x,aY K H a xs/\xs[i]? =some x,
  λi H x H'=>∃y p,(∀xs,aY K H a xs->xs[i]? =some y)/\H p=none/\x=.ref p/\H'=upd H p (.tup [.int i,y]),
  λi H=>∃xs,aY K H a xs/\xs.length<=i⟩
theorem NJ{P:Af}{w:World}{K:AD}{elts:List Expr}{x1}{tpos:Pos}(a e it:Addr)(hne:e≠it)(hea:e≠a)(hia:it≠a):
  Turn P w K (.Tuple elts x1 tpos) (vA K a) [e,it] e (λi h=>(∃old,IsEnum h e it i old)/\h.IsTupleIter it a i) where
 mem:=by simp
 obj:=λi h st b hb=>by
  obtain⟨⟨old,st1⟩,st2⟩:=st
  rcases AV.mp hb with z | z
  ·subst z;exact⟨_,st1,λv z=>by cases z⟩
  ·have z':b=it:=by simpa using z
   subst z'
   obtain⟨o,e,c,d⟩:=st2
   exact⟨o,e,λv z=>by rw[d] at z;cases z⟩
 keep:=λi h h' st k=>by
  obtain⟨⟨old,st1⟩,st2⟩:=st
  exact⟨⟨old,k e (by simp) _ st1⟩,let ⟨o,q,r⟩:=st2;⟨o,k it (by simp) o q,r⟩⟩
 item:=by
  intro X hP hw hK hc i pins s σ H E I hf st hg
  subst hP hw hK
  obtain⟨⟨old,st1⟩,st2⟩:=st
  obtain⟨xs,x,hq,hx⟩:=hg
  obtain⟨its,rv,p,hz⟩:=I.tuple hq
  obtain⟨u,hu,ru⟩:=rv.get hx
  have hlt:i<its.toArray.size:=by
   have:=(AF.mp hu).1
   simpa using this
  have D:=PJ (prog:=X.prog) (w:=X.w) (A:=X.A.in1) (I.ok.hd hc) it a (C0 hia) its.toArray
  refine wpAny_pyNext_enum_itemD D st1 ⟨st2,p⟩ hlt hne (by simp[hne,hea]) λv h1 tk hv eo XY ht hsz kk=>?_
  have ev:v=u:=by
   have:its[i]? =some v:=by simpa using hv
   rw[hu] at this
   exact(AN this).symm
  subst ev
  have nn:H s.heap.objs.size=none:=I.hok.fresh (AK _)
  have I1:Inv X pins σ (upd H s.heap.objs.size (.tup [.int i,x])) {s with heap:=h1,toks:=tk+1}:=
   I.rX (ch:=[e,it]) hf (λb o hb q=>kk b o (λz=>hb (by simp[z])) (λz=>hb (by simp[z])) q) (AK _)
    ⟨⟨by show 2<=sizeLine;decide,_,ht,rfl⟩,[.int i tk,v],.cons ⟨_,rfl⟩ (.cons ru .nil),⟨_,ht,rfl,_,rfl⟩⟩
  have le:e<s.heap.objs.size:=AU st1
  have li:it<s.heap.objs.size:=by obtain⟨o,q,_⟩:=id st2;exact AU q
  refine⟨_,rfl,GG eo λh2 e2 sb=>?_⟩
  obtain⟨f0,f1,f2,f3,f4,f5⟩:=hf e (by simp)
  have I2:=I1.turned (h':=h2) (t':=tk+1) (it:=e) (λb o hb q=>(sb.2 b hb).trans q) (by rw[aD (Ac le)];exact f0) f1 f3 f4 f5
  refine⟨.ref s.heap.objs.size,_,I2,rfl,⟨x,s.heap.objs.size,λys hy=>by rw[I.my hy hq];exact hx,nn,rfl,rfl⟩,⟨⟨v,by simpa using e2⟩,let ⟨o,q,r⟩:=XY.1;⟨o,(sb.2 it (C0 hne)).trans q,r⟩⟩,λb hb=>?_⟩
  rcases AV.mp hb with z | z
  ·subst z;rw[aD (Ac le)];exact f0
  ·have z':b=it:=by simpa using z
   subst z';rw[aD (Ac li)];exact(hf b (by simp)).1
 done:=by
  intro X hP hw hK hc i pins s σ H E I hf st hg
  subst hP hw hK
  obtain⟨⟨old,st1⟩,st2⟩:=st
  obtain⟨xs,hq,hx⟩:=hg
  obtain⟨its,rv,p,hz⟩:=I.tuple hq
  obtain⟨f0,f1,f2,f3,f4,f5⟩:=hf it (by simp)
  have hl:=rv.length
  have D:=NI (prog:=X.prog) (w:=X.w) (A:=X.A.in1) (I.ok.hd hc) it a its.toArray i (by simp;omega)
  exact wpAny_pyNext_enum_endD D st1 ⟨st2,p⟩ λh' eb=>⟨rfl,I.turned (t':=s.toks) (λb o hb e=>eb b o hb e) f0 f1 f3 f4 f5⟩
 self:=λ_ _ _ _ _ st h=>by
  obtain⟨⟨old,st1⟩,st2⟩:=st
  exact Eu st1 h
def Yc(K:AD)(ta:TA):TI:=λσ H R=>ta σ H λvs H1=>∃a,vs=[.ref a]/\(∃xs,aY K H1 a xs)/\R (vA K a) H1
theorem zP{X:Cx}{elts:List Expr}{x1}{tpos:Pos}{a:Expr}{ta:TA}{p pos:Pos}(hg:Gl X "enumerate")(hm:X.mg "enumerate"=none)(ha:PA X [a] ta)(hs:BO [a] X.env=[(false,eval a X.env)]:=by rfl):
  PI X (.Tuple elts x1 tpos) (.Call (.Name "enumerate" p) [a] [] pos) (Yc X.K ta):=by
 intro pins s σ H R I h
 refine Call_ (gY I hg hm boot_enumerate (Bd (aK (ha pos pins s σ H _ I h) λus s1 ⟨vs,H1,I1,r1,q1⟩=>?_) hs rfl))
 obtain⟨l,e,⟨xs,hq⟩,q⟩:=q1
 subst e
 cases r1 with
 | cons r rr=>
  cases rr
  cases r
  obtain⟨its,rv,pl,hz⟩:=I1.tuple hq
  have bl:l<s1.heap.objs.size:=by obtain⟨o,e,_⟩:=pl;exact AU e
  refine ym pl λh' he hit hsz kk=>?_
  have I2:Inv X pins σ H1 {s1 with heap:=h'}:=I1.kept (t':=s1.toks) kk
  refine Eu he ?_
  refine⟨s1.heap.objs.size+1,[s1.heap.objs.size+1,s1.heap.objs.size],_,_,H1,rfl,I2,NJ l _ _ (Nat.succ_ne_self _) (CQ (Bp bl)) (CQ bl),⟨⟨_,by simpa using he⟩,hit⟩,λb hb=>?_,q⟩
  rcases AV.mp hb with z | z
  ·subst z;exact I1.mS (B8 _) (I1.hok.fresh (B8 _))
  ·have z':b=s1.heap.objs.size:=by simpa using z
   subst z';exact I1.mS (AK _) (I1.hok.fresh (AK _))
theorem PK{K:AD}{a:Addr}{xs:List V}{g:TG}{tb:TS}{D:Ends}{σ:St}{H:Hp}(Pv:Nat->St->Hp->Prop)(h0:Pv 0 σ H)(hl:∀i σ H,i<=xs.length->Pv i σ H->aY K H a xs)
  (hs:∀i x p σ H,xs[i]? =some x->Pv i σ H->H p=none->g (.ref p) σ (upd H p (.tup [.int i,x])) λσ2 H2=>tb {D with nx:=Pv (i+1),ct:=Pv (i+1),bk:=D.nx} σ2 H2) (hd:∀σ H,Pv xs.length σ H->D.nx σ H):
  ∃W:Nat->Nat->St->Hp->Prop,(∃m,W 0 m σ H)/\∀i m σ H,W i m σ H->
   ((vA K a).stop i H/\D.nx σ H)∨((vA K a).go i H/\∃N:St->Hp->Prop,(∀σ' H',N σ' H'->∃m',m'<m/\W (i+1) m' σ' H')/\∀x H',(vA K a).t7 i H x H'->g x σ H' λσ2 H2=>tb {D with nx:=N,ct:=N,bk:=D.nx} σ2 H2):=by
 refine⟨λi m σ H=>m=xs.length-i/\i<=xs.length/\Pv i σ H,⟨xs.length,by simp,BI _,h0⟩,?_⟩
 rintro i m σ H ⟨rfl,hi,p⟩
 have q:=hl i σ H hi p
 by_cases hlt:i<xs.length
 ·refine .inr ⟨⟨xs,xs[i],q,by simp[hlt]⟩,Pv (i+1),λσ' H' p'=>⟨xs.length-(i+1),by omega,rfl,hlt,p'⟩,λx H' y=>?_⟩
  obtain⟨z,pa,hz,hn,e1,e2⟩:=y
  subst e1 e2
  exact hs i z pa σ H (hz xs q) p hn
 ·have e:i=xs.length:=by omega
  subst e
  exact .inl ⟨⟨xs,q,AK _⟩,hd σ H p⟩
end L2
namespace L2
open PySem PySem.Spec PyProof.Rows
section
variable{X:Cx}
def afd(K:AD):List V->Hp->VK->Prop:=λxs H Q=>∃(a:Addr) (bs:List Bool),xs=[.ref a]/\bG K H a (bs.map V.bl)/\Q (.bl (bs.all id)) H
theorem NK{bs:List Bool}{its:List Value}(r:Vals (bs.map V.bl) its):its=bs.map Fu:=by
 induction bs generalizing its with
 | nil=>cases r;rfl
 | cons b bs ih=>
  cases r with
  | cons r1 r2=>
   rw[Aw,ih r2]
   exact congrArg (· ::_) r1
theorem PL(K:AD)(hc:X.calm=true)(hK:X.K=K:=by rfl):cK X (.builtin "all") (afd K):=by
 subst hK
 intro pins s σ H xs us Q I r h
 obtain⟨a,bs,rfl,hq,q⟩:=h
 obtain⟨u,rfl,ru⟩:=vals1 r
 cases ru
 obtain⟨its,rv,p,_⟩:=I.list hq
 have e:=NK rv
 have bl:a<s.heap.objs.size:=by obtain⟨o,e,_⟩:=p.isList;exact AU e
 refine call_all_walk ?_
 refine Dv p.isList ?_
 refine⟨s.heap.objs.size,_,_,_,_,_,λi=>(bs.getD i false),rfl,Jf (A:=X.A.in1) (I.ok.hd hc) _ a (Ac bl) its.toArray,⟨⟨_,AO _ rfl,rfl,rfl⟩,p.isList.push _⟩,?_,λh' tk k=>?_⟩
 ·intro i v s' Q' E' hv hQ'
  have:v=.bool (bs.getD i false):=by
   rw[Bu,e,AJ] at hv
   rw[BB]
   cases eb:bs[i]? with
   | none=>rw[eb] at hv;cases hv
   | some b=>rw[eb] at hv;exact(AN hv).symm
  rw[this]
  exact Cr hQ'
 ·refine⟨.bl (bs.all id),H,I.kept λb o eo=>k b o (λz=>Ac (AU eo) (Ad.mp z)) (AE _ eo),?_,q⟩
  have hl:its.toArray.size=bs.length:=by simp[e]
  have ea:∀cs:List Bool,(Ao cs.length).all (λi=>cs.getD i false)=cs.all id:=λcs=>by
   induction cs with
   | nil=>rfl
   | cons c cs ih=>
    rw[Aj,HN,ER,List.all_map,ER,<-ih]
    rfl
  show _=Fu _
  rw[hl,ea]
def Yd:List V->Hp->VK->Prop:=λxs H Q=>∃(d:Addr) (kvs:List (Key×V)) (ss:List Str),xs=[.ref d]/\H d=some (.dK kvs)/\kvs.map (·.1)=ss.map Bv/\ss.length<64/\
 ∀(p:Addr) (ss':List Str),H p=none->ss'.Perm ss->JJ ss'=true->Q (.ref p) (upd H p (.lst (ss'.map V.str)))
theorem oF:∀{vs:List Value} {ss:List Str},vs.length=ss.length->(∀(i:Nat) (v:Value) (x:Str),vs[i]? =some v->ss[i]? =some x->∃t,v=.str x t)->DV vs ss
 | [],[],_,_=>.nil
 | [],_::_,h,_=>by cases h
 | _::_,[],h,_=>by cases h
 | v::vs,x::ss,h,k=>by
  obtain⟨t,rfl⟩:=k 0 v x rfl rfl
  exact .cons x t (oF (EA h) λi v y e1 e2=>k (i+1) v y e1 e2)
theorem NL(hc:X.calm=true):cK X (.builtin "sorted") Yd:=by
 intro pins s σ H xs us Q I r h
 obtain⟨d,kvs,ss,rfl,hd,hk,h64,q⟩:=h
 obtain⟨u,rfl,ru⟩:=vals1 r
 cases ru
 obtain⟨hz,lo,vs,rel,dd⟩:=NC I.hok hd
 obtain⟨ep,hat⟩:=dd.dictAt
 have hlk:kvs.length=ss.length:=by have:=congrArg JV hk;simpa using this
 have hlv:kvs.length=vs.length:=rel.length
 have hks:∀(i:Nat) (k:Key) (x:Value),vs[i]? =some (k,x)->∃y,ss[i]? =some y/\k=Bv y:=λi k x e=>by
  have h1:(vs.map (·.1))[i]? =some k:=by rw[AJ,e];rfl
  have h2:vs.map (·.1)=ss.map Bv:=by
   rw[<-hk]
   have:∀{l:List (Key×V)} {m:List (Key×Value)},KV l m->m.map (·.1)=l.map (·.1):=λ{l m} q=>by
    unfold KV at q
    induction q with
    | nil=>rfl
    | cons a _ ih=>rw[Aw,Aw,ih,a.1]
   exact this rel
  rw[h2,AJ] at h1
  cases es:ss[i]? with
  | none=>rw[es] at h1;cases h1
  | some y=>rw[es] at h1;exact⟨y,rfl,(AN h1).symm⟩
 refine EE kind_sorted plain_sorted entry_sorted (args_sorted1 _) ?_
 unfold Builtin.«sorted»
 (refine AA (m:=checkCount "sorted" 1 1 _) (AG ?_))
 refine AA (PySem.W.kdu_collect (A:=X.A.in1) (PySem.W.kdl_dict (knd:=bb X.prog X.w) (kvs:=vs) (ep:=ep) lo) (I.ok.hd hc) hat (by omega) λh' tk acc k it=>?_)
 have hl:acc.toList.length=ss.length:=by rw[Au,it.1];omega
 have hS:DV acc.toList ss:=oF hl λi v x e1 e2=>by
  obtain⟨kk,z,ek,ik⟩:=it.2 i v (by rw[<-A_];exact e1)
  obtain⟨y,ey,rfl⟩:=hks i kk z ek
  rw[e2] at ey
  cases ey
  rw[Nh] at ik
  rcases cC ik with⟨_,_,z,_⟩ | ⟨x',t,z,ev⟩
  ·cases z
  ·cases z
   exact⟨t,ev⟩
 refine AA (Gw ?_ (by rw[hl];exact CZ (AZ h64 (by decide))))
 have hoL:(h'.push (DX "list" acc.toList.toArray 0)).get? h'.objs.size=some (DX "list" acc.toList.toArray 0):=AO _ rfl
 refine AA (BE (BK IB ⟨_,hoL,rfl⟩ Hg (list_sort_treeK strKind_oneLt hoL hS.keysOf (λv1 v2 rest e=>keyKind_strs (by rw[<-e];exact hS)) (by rw[hl];exact h64) λst' hp hs=>⟨_,rfl,?_⟩) (IC _)))
 obtain⟨ss',a1,a2,a3⟩:=sorted_out_str hS hp hs
 have I1:Inv X pins σ H {s with heap:=h',toks:=tk}:=I.kept k
 obtain⟨e,he⟩:=Ij (out:=(arrOf st').map (·.2)) hoL
 have kp:∀b u,h'.get? b=some u->(HQ (h'.push (DX "list" acc.toList.toArray 0)) h'.objs.size acc.toList ((arrOf st').map (·.2))).get? b=some u:=λb u eb=>by
  have lt:=AU eb
  rw[ID (Ac lt) (by rw[Ax];exact Bp lt)]
  exact AE _ eb
 have I2:=I1.laid (a:=h'.objs.size) (o:=.lst (ss'.map V.str)) (t':=tk) kp (AK _) ⟨by rw[AB,a2.length_eq];exact CZ (AZ h64 (by decide)),((arrOf st').map (·.2)).toList,e,qe a1,he⟩
 exact AG ⟨_,rfl,⟨.ref h'.objs.size,_,I2,rfl,q _ ss' (I1.hok.fresh (AK _)) a2 a3⟩⟩
end
section
variable{X:Cx}{pins:List (Addr×Obj)}{σ:List (Option V)}{H:Hp}{s:AH}{h':Heap}
theorem Inv.Wn{t':Nat}{ch:List Addr}(I:Inv X pins σ H s)(hf:∀b∈ch,iY X pins H b)(k:∀b u,b ∉ ch->s.heap.get? b=some u->h'.get? b=some u):Inv X pins σ H {s with heap:=h',toks:=t'}:=by
 have pV:∀b u,H b=some u->b ∉ ch:=λb u e z=>by have q:=(hf b z).1;rw[e] at q;cases q
 refine I.step (g':=s.gens) (d':=s.drawn) (ch:=ch) (λb hb=>?_) (λb o _ _ hc e _=>k b o hc e) (λb o _ _ hc e _=>⟨o.slots,k b o hc e⟩) (λ_ _ _ _ n=>n)
  (λb o hc e=>⟨o,k b o hc e⟩) (λ_ _ e=>e) (λ_ _ _ e=>e) (λb ps e=>⟨#[],by rw[e];simp⟩) (λm hm=>?_) (λb u e=>?_) I.bare
 ·obtain⟨f0,f1,f2,f3,f4,f5⟩:=hf b hb
  exact⟨f3,f1,f4,f5⟩
 ·obtain⟨ob,es,ep,ho,r⟩:=hm
  exact⟨ob,es,ep,k _ ob (λz=>(hf _ z).2.1 rfl) ho,r⟩
 ·refine(I.hok b u e).stay (λc v hc q=>k c v ?_ q) (λ_ q=>q) λ_ _ q=>q
  rcases hc with z | z
  ·rw[z];exact pV b u e
  ·exact pV c _ z
end
end L2
namespace L2
open PySem PySem.Spec PyProof.Rows
open PySem.AutoSeq1 (wpAny_loadPart')
open PySem.MeetsSeq PySem.MeetsSeq2 PySem.MeetsSeq3
theorem Mv{vs:List Value}{ns:List Int}(h:C2 vs ns):∀(i:Nat) (hi:i<vs.length),∃a t,vs[i]=.int a t/\ns.drop i=a::ns.drop (i+1):=by
 induction h with
 | nil=>intro i hi;cases hi
 | cons a t h ih=>
  intro i hi
  cases i with
  | zero=>exact⟨a,t,rfl,rfl⟩
  | succ i=>
   obtain⟨b,u,e1,e2⟩:=ih i (by simpa using hi)
   exact⟨b,u,by simpa using e1,by simpa using e2⟩
end L2
namespace L2
open PySem PySem.Spec PyProof.Rows
theorem Wo(t:SetTable)(es:Array (Int×Value))(h:Int)(x:Value):(layNew t es h x).2.1.led=t.led:=by
 unfold layNew
 split
 ·unfold SetTable.put SetTable.orStandIn SetTable.standIn
  dsimp only
  repeat' split
  all_goals rfl
 ·rfl
theorem PN(t:SetTable)(es:Array (Int×Value))(n:Nat):(relayAll t es n).2.1.led=t.led:=by
 unfold relayAll
 split
 ·rename_i q r e
  unfold Hh Gx at e
  dsimp only
  split
  ·simp only[IY,CA,Option.pure_def,Ew,FT] at e
   obtain⟨_,_,e1,_⟩:=e
   rw[<-e1]
  ·rfl
 ·rfl
theorem Lv{t:SetTable}(es:Array (Int×Value))(n:Nat)(hp:t.plain=false):(relayAll t es n).2.1.plain=false:=by
 unfold relayAll
 split
 ·rename_i q r e
  unfold Hh Gx at e
  dsimp only
  split
  ·simp only[IY,CA,Option.pure_def,Ew,FT] at e
   obtain⟨_,_,e1,_⟩:=e
   rw[<-e1]
   exact hp
  ·rfl
 ·rfl
structure cJ (P:Af)(w:World)(h:Heap)(a:Addr)(es:Array (Int×Value))(ep:Nat)(t:SetTable)(ks:List Str):Prop where
 obj:∃o,h.get? a=some o/\o.ExactSet/\o.data=.set es ep t
 elems:ElemsOf (strKind P w) es.toList
 small:es.size<Fs
 fits:t.fits es.size=true
 led:t.led= !w.params.followText "set-order"
 plain:es.size≠0->t.plain=false
 vals:DV (es.toList.map (·.2)) ks
 once:ks.Nodup
theorem cJ.at{P:Af}{w:World}{h h':Heap}{a:Addr}{es:Array (Int×Value)}{ep:Nat}{t:SetTable}{ks:List Str}(s:cJ P w h a es ep t ks)(k:∀o,h.get? a=some o->h'.get? a=some o):cJ P w h' a es ep t ks:=by
 obtain⟨o,e,r⟩:=s.obj
 exact⟨⟨o,k o e,r⟩,s.elems,s.small,s.fits,s.led,s.plain,s.vals,s.once⟩
theorem cJ.len{P:Af}{w:World}{h:Heap}{a:Addr}{es:Array (Int×Value)}{ep:Nat}{t:SetTable}{ks:List Str}(s:cJ P w h a es ep t ks):es.size=ks.length:=by
 have:=s.vals.length
 rw[AB,Au] at this
 exact this
theorem mD{vs us:List Value}(p:vs.Perm us):∀{ks:List Str},DV us ks->∃ks',DV vs ks'/\ks'.Perm ks:=by
 induction p with
 | nil=>intro ks h;cases h;exact⟨[],.nil,.refl _⟩
 | cons x _ ih=>
  intro ks h
  cases h with
  | cons y tk r=>
   obtain⟨k',a,b⟩:=ih r
   exact⟨y::k',.cons y tk a,b.cons y⟩
 | swap x y l=>
  intro ks h
  cases h with
  | cons a ta r=>
   cases r with
   | cons b tb r=>exact⟨b::a::_,.cons b tb (.cons a ta r),.swap a b _⟩
 | trans _ _ ih1 ih2=>
  intro ks h
  obtain⟨k1,a1,b1⟩:=ih2 h
  obtain⟨k2,a2,b2⟩:=ih1 a1
  exact⟨k2,a2,b2.trans b1⟩
theorem Sn{us vs:List Value}{ks ls:List Str}(h1:DV us ks)(h2:DV vs ls):DV (us++vs) (ks++ls):=by
 induction h1 with
 | nil=>exact h2
 | cons x tk _ ih=>exact .cons x tk ih
theorem So{us:List Value}{ks:List Str}(h:DV us ks){x:Str}:x∈ks↔∃tk,FF x tk∈us:=by
 induction h with
 | nil=>simp
 | cons y tk _ ih=>
  constructor
  ·intro m
   rcases AV.mp m with e | m
   ·exact⟨tk,by rw[e];exact AQ⟩
   ·obtain⟨t',m'⟩:=ih.mp m
    exact⟨t',AM _ m'⟩
  ·rintro⟨t',m⟩
   rcases AV.mp m with e | m
   ·injection e with e1 _
    rw[e1];exact AQ
   ·exact AM _ (ih.mpr ⟨t',m⟩)
section
variable{P:Af}{w:World}{A:A0}{E:Value->AH->Prop}{s:AH}
theorem Sq{a:Addr}{es:Array (Int×Value)}{ep:Nat}{t:SetTable}{ks:List Str}{x:Str}{tk:Tok}{Q:Bool->AH->Prop}(S:cJ P w s.heap a es ep t ks)(room:ks.length+1<Fs)
  (hold:x∈ks->Q false s)
  (hnew:x ∉ ks->∀h' es' ep' t' ks',Ck a s.heap h'->cJ P w h' a es' ep' t' ks'->(∀y,y∈ks'↔y∈ks∨y=x)->ks'.length=ks.length+1->Q true {s with heap:=h'}):
  wpAny (model P w) A (HR a (.str x tk) (hashStr w x)) Q E s:=by
 obtain⟨o,ho,hex,hd⟩:=S.obj
 have Mw:=S.len
 have isx:(strKind P w).is x (.str x tk)=true:=JA P w x tk
 have Ye:(FF x tk).scannable=true:=rfl
 have hhash:hashStr w x=(strKind P w).hash x:=rfl
 rw[hhash]
 unfold HR IE
 refine BE (AA (BS ho hd S.fits ?_))
 dsimp only
 rw[byScan_of Ye S.small S.elems,if_pos rfl]
 unfold setAddByScan
 refine AA (AA (Cw (AA (wpAny_setScan_of isx ho hd S.fits S.elems ?_))))
 have Yf:x∈ks↔∃e∈es.toList,(strKind P w).is x e.2=true:=by
  rw[So S.vals]
  constructor
  ·rintro⟨t',m⟩
   obtain⟨e,he,e2⟩:=As.mp m
   exact⟨e,he,by rw[e2];exact JA P w x t'⟩
  ·rintro⟨e,he,hi⟩
   obtain⟨t',e2⟩:=IW (x:=x) (v:=e.2) hi
   exact⟨t',by rw[<-e2];exact As.mpr ⟨e,he,rfl⟩⟩
 cases hr:List.findIdx? (λe=>(strKind P w).is x e.2) es.toList with
 | some j=>
  dsimp only
  obtain⟨hj,hpj,_⟩:=List.findIdx?_eq_some_iff_getElem.mp hr
  exact AG (AG (hold (Yf.mpr ⟨_,Cj hj,hpj⟩)))
 | none=>
  dsimp only
  have nk:x ∉ ks:=λm=>by
   obtain⟨e,he,hp⟩:=Yf.mp m
   have:=List.findIdx?_eq_none_iff.mp hr e he
   rw[hp] at this
   cases this
  have hperm:=layNew_perm t es ((strKind P w).hash x) (.str x tk)
  have hfits:=layNew_fits t es ((strKind P w).hash x) (.str x tk)
  have NM:=Wo t es ((strKind P w).hash x) (.str x tk)
  generalize layNew t es ((strKind P w).hash x) (.str x tk)=L at hperm hfits NM ⊢
  obtain⟨es1,t1,wasDummy,gave⟩:=L
  dsimp only at hperm hfits NM ⊢
  rw[Ge] at hperm
  have el1:ElemsOf (strKind P w) es1.toList:=(S.elems.push isx Ye).perm hperm
  have sz1:es1.size=es.size+1:=by rw[<-Au,hperm.length_eq,AR,Au];rfl
  have sm1:es1.size<Fs:=by omega
  obtain⟨xq,v1,p1⟩:=mD (hperm.map (·.2)) (ks:=ks++[x]) (by rw[AW];exact Sn S.vals (.cons x tk .nil))
  have UJ:xq.Nodup:=p1.nodup_iff.mpr (Cs.mpr ⟨S.once,by simp,λy hy z hz=>by rw[Ad.mp hz];exact λe=>nk (e▸hy)⟩)
  have Yg:∀y,y∈xq↔y∈ks∨y=x:=λy=>by rw[p1.mem_iff,A6,Ad]
  have pG:xq.length=ks.length+1:=by rw[p1.length_eq,AR];rfl
  have fin:∀t2:SetTable,t2.fits es1.size=true->t2.led=t.led->t2.plain=false->
    wpAny (model P w) A (do
     JK a es1 t2
     if(!wasDummy&&t2.tooFull)=true then do
       (match (relayAll t2 es1 (Bh es1.size)).2.2 with | true=>rule "set.scan.the-table-gave-way" | false=>pure ())
       JK a (relayAll t2 es1 (Bh es1.size)).1 (relayAll t2 es1 (Bh es1.size)).2.1
       pure (some true)
      else pure (some true)) (λr s'=>r=some true/\Q true s') E s:=λt2 f2 l2 p2=>by
   refine AA (Ex ho hd ?_ (Ey sm1))
   have hg:(s.heap.update a (DP es1 t2)).get? a=some {o with data:=.set es1 (ep+1) t2}:=by
    have q:=Bk (DP es1 t2) ho (by rw[G8 es1 t2 hd];rfl)
    rw[G8 es1 t2 hd] at q
    exact q
   have zQ:=Cd s.heap a (DP es1 t2)
   have S1:cJ P w (s.heap.update a (DP es1 t2)) a es1 (ep+1) t2 xq:=⟨⟨_,hg,hex,rfl⟩,el1,sm1,f2,by rw[l2];exact S.led,λ_=>p2,v1,UJ⟩
   split
   ·have pr:=relayAll_perm t2 es1 (Bh es1.size)
    have fr:=relayAll_fits t2 es1 (Bh es1.size)
    have lr:=PN t2 es1 (Bh es1.size)
    have Yh:=Lv es1 (Bh es1.size) p2
    generalize relayAll t2 es1 (Bh es1.size)=Rl at pr fr lr Yh ⊢
    obtain⟨es2,t3,gv⟩:=Rl
    dsimp only at pr fr lr Yh ⊢
    have sz2:es2.size=es1.size:=by rw[<-Au,pr.length_eq,Au]
    have sm2:es2.size<Fs:=by omega
    obtain⟨uv,v2,p2'⟩:=mD (pr.map (·.2)) v1
    refine AA ?_
    have rest:wpAny (model P w) A (do JK a es2 t3;pure (some true)) (λr s'=>r=some true/\Q true s') E {s with heap:=s.heap.update a (DP es1 t2)}:=by
     refine AA (Ex hg rfl (AG ⟨rfl,?_⟩) (Ey sm2))
     have hg2:=Bk (DP es2 t3) hg (by rw[G8 es2 t3 rfl];rfl)
     rw[G8 es2 t3 rfl] at hg2
     exact hnew nk _ es2 (ep+1+1) t3 uv (zQ.trans (Cd _ a _)) ⟨⟨_,hg2,hex,rfl⟩,el1.perm pr,sm2,by rw[sz2] at fr ⊢;exact fr,by rw[lr,l2];exact S.led,λ_=>Yh,v2,p2'.nodup_iff.mpr UJ⟩
      (λy=>by rw[p2'.mem_iff];exact Yg y) (by rw[p2'.length_eq];exact pG)
    cases gv
    ·exact AG rest
    ·exact Cw rest
   ·exact AG ⟨rfl,hnew nk _ es1 (ep+1) t2 xq zQ S1 Yg pG⟩
  refine AA ?_
  have rest:wpAny (model P w) A (do
    let byValue <-if t1.plain=true then Gf 8 (.str x tk) else pure true
    JK a es1 (if byValue=true then t1 else {t1 with plain:=false})
    if(!wasDummy&&(if byValue=true then t1 else {t1 with plain:=false}).tooFull)=true then do
      (match (relayAll (if byValue=true then t1 else {t1 with plain:=false}) es1 (Bh es1.size)).2.2 with | true=>rule "set.scan.the-table-gave-way" | false=>pure ())
      JK a (relayAll (if byValue=true then t1 else {t1 with plain:=false}) es1 (Bh es1.size)).1 (relayAll (if byValue=true then t1 else {t1 with plain:=false}) es1 (Bh es1.size)).2.1
      pure (some true)
     else pure (some true)) (λr s'=>r=some true/\Q true s') E s:=by
   cases hpl:t1.plain with
   | true=>
    rw[if_pos rfl,hashByValue_scannable 8 Ye]
    refine AA (AG ?_)
    exact fin {t1 with plain:=false} (SetTable.fits_plain_off hfits) NM rfl
   | false=>
    rw[if_neg (by decide)]
    refine AA (AG ?_)
    exact fin t1 hfits NM hpl
  have go:∀r s',(r=some true/\Q true s')->wpAny (model P w) A (match r with | some added=>pure added | none=>IE a (.str x tk) ((strKind P w).hash x) 99999) Q E s':=λr s' ⟨e,q⟩=>by
   subst e
   exact AG q
  cases gave
  ·exact AG (aK rest go)
  ·exact Cw (aK rest go)
end
theorem qJ{us:List Value}{xs:List Str}(hi:DV us xs):∀(i:Nat) (v:Value),us[i]? =some v->∃x t,xs[i]? =some x/\v=.str x t:=by
 induction hi with
 | nil=>intro i v hv;simp at hv
 | cons y ty _ ih=>
  intro i v hv
  cases i with
  | zero=>
   have e:FF y ty=v:=by simpa using hv
   exact⟨y,ty,rfl,e.symm⟩
  | succ i=>exact ih i v (by simpa using hv)
section
variable{P:Af}{w:World}{A:A0}{R:JS->AH->Prop}{I S:Addr}{fp wr:List Addr}{G:Array Fv->Array Fv->Prop}{n:Nat}{Pv:Nat->Value->Prop}{St:Nat->AH->Prop}
theorem Sr(W:WalksS P w A.in1 I fp wr G n Pv St)(hSf:S ∉ fp)(xs:List Str)(hxl:xs.length=n)(hval:∀i v,Pv i v->∃x t,xs[i]? =some x/\v=.str x t)(hb:n+1<Fs):
  ∀(k i:Nat) (s:AH) (es:Array (Int×Value)) (ep:Nat) (t:SetTable) (ks:List Str),n-i=k->i<=n->St i s->cJ P w s.heap S es ep t ks->(∀y,y∈ks↔y∈xs.take i)->ks.length<=i->
   (∀s' es' ep' t' ks',Moved (S::wr) G s s'->cJ P w s'.heap S es' ep' t' ks'->(∀y,y∈ks'↔y∈xs)->ks'.length<=n->R (.ok (.ret .none)) s')->
   Em (model P w) A (.builtin "set.update.loop" ⟨[.ref S,.ref I],[]⟩) R s:=by
 have hSw:S ∉ wr:=λz=>hSf (W.sub _ z)
 have more:∀b∈wr,b∈S::wr:=λb z=>AM _ z
 intro k
 induction k with
 | zero=>
  intro i s es ep t ks hk hi st hS hm hl hR
  have e:i=n:=by omega
  subst e
  refine Bx CL ?_
  rw[Bf BG]
  show wpAny (model P w) A.in1 (C1 (.ref I) >>= _) _ _ s
  refine AA (W.done s _ _ st λs' mv=>?_)
  show wpAny (model P w) A.in1 (ret CB) _ _ s'
  refine AG (hR s' es ep t ks (mv.mono more) (hS.at λo q=>mv.heap S o hSw q) (λy=>?_) hl)
  rw[hm y,BD (by omega)]
 | succ k ih=>
  intro i s es ep t ks hk hi st hS hm hl hR
  have lt:i<n:=by omega
  refine Bx CL ?_
  rw[Bf BG]
  show wpAny (model P w) A.in1 (C1 (.ref I) >>= _) _ _ s
  refine AA (W.item i s _ _ lt st λv s' hv st' mv=>?_)
  obtain⟨x,tx,ex,rfl⟩:=hval i v hv
  have hS':cJ P w s'.heap S es ep t ks:=hS.at λo q=>mv.heap S o hSw q
  have tk1:∀y,y∈xs.take (i+1)↔y∈xs.take i∨y=x:=λy=>by rw[DM,ex];simp
  show wpAny (model P w) A.in1 (holding [FF x tx] (setAdd S (.str x tx)) >>= _) _ _ s'
  refine AA (BE ?_)
  unfold setAdd
  refine BE (AA ((strKind P w).pyHash (k:=x) (JA _ _ _ _) ?_))
  refine Sq (s:={s' with toks:=s'.toks+1}) hS' (by omega) (λhx=>?_) (λhx h' es' ep' t' ks' sb S2 m2 l2=>?_)
  ·refine AG ⟨CO BG _,ih (i+1) _ es ep t ks (by omega) lt (W.frame _ s' s'.heap _ st' (B8 _) λb _ o q=>q) hS' (λy=>?_) (by omega) λs2 es2 uw t2 uv mv2 S2 m2 l2=>?_⟩
   ·rw[hm y,tk1 y]
    constructor
    ·exact .inl
    ·rintro(z | z)
     ·exact z
     ·rw[z];exact(hm x).mp hx
   ·exact hR s2 es2 uw t2 uv (Gg W.gtrans ((mv.mono more).then_heap (B8 _) λb o _ q=>q) mv2) S2 m2 l2
  ·refine AG ⟨CO BG _,ih (i+1) _ es' ep' t' ks' (by omega) lt (W.frame _ s' h' _ st' (B8 _) λb hb o q=>?_) S2 (λy=>?_) (by omega) λs2 es2 uw t2 uv mv2 S2 m2 l2=>?_⟩
   ·exact(sb.2 b (λz=>hSf (z▸hb))).trans q
   ·rw[m2 y,hm y,tk1 y]
   ·exact hR s2 es2 uw t2 uv (Gg W.gtrans ((mv.mono more).then_heap (B8 _) λb o hb q=>(sb.2 b (λz=>hb (z▸AQ))).trans q) mv2) S2 m2 l2
end
section
variable{P:Af}{w:World}{A:A0}{E:Value->AH->Prop}{s:AH}
abbrev bL (w:World):Obj:={cls:=.type "set",dict:=none,data:=.set #[] 0 (.fresh 0 0 (!w.params.followText "set-order"))}
theorem zR(v:Value){Q:Value->AH->Prop}(h:Q (.ref s.heap.objs.size) {s with heap:=s.heap.push (bL w)}):
  Em (model P w) A (.call (.builtin "set.__new__") ⟨[.type "set",v],[]⟩) (wants Q E) s:=by
 refine Hi ?_
 show wpAny (model P w) A.in1 (do checkBuiltinCall "set.__new__" ⟨[.type "set",v],[]⟩;again (.builtin "set.__new__" ⟨[.type "set",v],[]⟩)) _ _ s
 refine AA (wpAny_of_eq (PySem.F.newCall_set_1 v) (AG ⟨CO Ho _,Bx PySem.F.entry_set_new ?_⟩))
 rw[Bf Ho]
 unfold Builtin.«set.__new__» Builtin.Frozenset.newClass
 have hsub:=sub_set_self
 obtain⟨hp,g,d,tk,os⟩:=s
 dsimp only
 wp_walk
 refine FL (AG ?_)
 dsimp only
 simp only[newObj]
 exact AA (wpAny_alloc (AG (AG h)))
theorem PQ(h:Heap):cJ P w (h.push (bL w)) h.objs.size #[] 0 (.fresh 0 0 (!w.params.followText "set-order")) []:=
 ⟨⟨_,AO _ rfl,⟨rfl,rfl,rfl⟩,rfl⟩,λe he=>(by simp at he),by decide,rfl,rfl,λz=>absurd rfl z,.nil,by simp⟩
theorem zS{l:Addr}{its:Array Value}{xs:List Str}{Q:Value->AH->Prop}(hh:A.handled=none)(hl:s.heap.IsList l its)(hi:DV its.toList xs)(hb:its.size+1<Fs)
  (h:∀(h':Heap) (tk:Nat) es ep t ks,cJ P w h' s.heap.objs.size es ep t ks->(∀y,y∈ks↔y∈xs)->ks.length<=its.size->(∀b o,b<s.heap.objs.size->s.heap.get? b=some o->h'.get? b=some o)->Q (.ref s.heap.objs.size) {s with heap:=h',toks:=tk}):
  wpAny (model P w) A (call (.type "set") [.ref l]) Q E s:=by
 obtain⟨c,tl,hmro⟩:=BN.mro
 have hmade:=BN.made
 have hsub:=BN.sub
 refine Iv (Hi ?_)
 show wpAny _ _ (callAny (.type "set") _) _ _ _
 refine AG ⟨Code.quiet_builtin _ (by decide+kernel),Bx G9 ?_⟩
 rw[JB (weight_type_call_type "set" [.ref l] []) rfl]
 have a1:=BN.notType
 have a2:=BN.canCreate
 have a3:=HS (.ref l)
 repeat (any_goals (first | assumption | wp_step))
 refine Dd (zR (.ref l) (E:=E) (Q:=λobj s₁=>obj=.ref s.heap.objs.size/\s₁={s with heap:=s.heap.push (bL w)}) ⟨rfl,rfl⟩) λr s₁ hr=>?_
 cases r with
 | error e=>exact hr
 | ok fl=>
  cases fl with
  | ret obj=>
   obtain⟨rfl,rfl⟩:=hr
   have gS:(s.heap.push (bL w)).get? s.heap.objs.size=some (bL w):=AO _ rfl
   have hT:FU {s with heap:=s.heap.push (bL w)} (.ref s.heap.objs.size) "set":=⟨_,gS,rfl⟩
   have a4:=BN.init.lookup
   have a5:=BN.init.bind (.ref s.heap.objs.size)
   repeat (any_goals (first | assumption | wp_step))
   refine Dd (codeAny_call_builtin (R:=wants (λr s₂=>r=.none/\∃h' tk es ep t ks,s₂={s with heap:=h',toks:=tk}/\cJ P w h' s.heap.objs.size es ep t ks/\(∀y,y∈ks↔y∈xs)/\ks.length<=its.size/\
     (∀b o,b<s.heap.objs.size->s.heap.get? b=some o->h'.get? b=some o)) E) BN.init.plain HU (check_set_init_1 hT ?_)) λr₂ s₂ hr₂=>?_
   ·obtain⟨ol,hol,hcl,nl,hdl⟩:=hl
    obtain⟨ocls,odict,odata,oslots⟩:=ol
    simp only at hcl hdl
    subst hcl hdl
    have hol':(s.heap.push (bL w)).get? l=some {cls:=.type "list",dict:=odict,data:=.seq its nl,slots:=oslots}:=AE _ hol
    have b1:=IF
    have b2:=GK
    have b3:(DO "list" == DO "dict")=false:=by decide
    have hl1:(s.heap.push (bL w)).IsList l its:=⟨_,hol',rfl,nl,rfl⟩
    unfold Builtin.«set.__init__» noKeywords Fi
    generalize hPI:Iu=PI
    wp_walk
    subst hPI
    refine Dv hl1 ?_
    refine AA (GL ?_)
    have lS:l<s.heap.objs.size:=AU hol
    have hh3:A.in1.in1.in1.handled=none:=by simp[hh]
    have qf:l≠(s.heap.push (bL w)).objs.size:=by rw[Ax];exact Ac (Bp lS)
    have nf:s.heap.objs.size ∉ [(s.heap.push (bL w)).objs.size,l]:=by
     rw[Ax]
     simp only[AV,CU,or_false,not_or]
     exact⟨Ac (B7 _),CQ lS⟩
    have hxl:xs.length=its.size:=by rw[<-hi.length,Au]
    have hval:∀(i:Nat) (v:Value),its[i]? =some v->∃x t,xs[i]? =some x/\v=.str x t:=λi v hv=>qJ hi i v (by rw[A_];exact hv)
    refine Sr ((Jf hh3 _ l qf its).toS) nf xs hxl hval hb (its.size-0) 0 _ #[] 0 _ [] (by omega) (BI _) ⟨⟨_,AO _ rfl,rfl,rfl⟩,hl1.push _⟩ ((PQ s.heap).at λo q=>AE _ q) (λy=>by simp) (AK _) ?hR
    case hR=>
     intro s' es' ep' t' ks' hm hS' hmem hlen
     obtain⟨h',g',d',tk',os'⟩:=s'
     have eg:g'=s.gens:=hm.gens
     have ed:d'=s.drawn:=hm.drawn
     have eo:os'=s.os:=hm.os
     subst eg ed eo
     show wpAny _ _ _ _ _ _
     refine AG ?_
     show wpAny _ _ (ret CB) _ _ _
     refine AG ⟨rfl,h',tk',es',ep',t',ks',rfl,hS',hmem,hlen,λb o hb e=>?_⟩
     refine hm.heap b o ?_ (AE _ (AE _ e))
     simp only[AV,CU,or_false,not_or]
     rw[Ax]
     exact⟨Ac hb,Ac (Bp hb)⟩
   ·cases r₂ with
    | error e=>exact hr₂
    | ok fl₂=>
     cases fl₂ with
     | ret r=>
      obtain⟨rfl,h',tk,es,ep,t,ks,rfl,hS',hm,Mw,hk'⟩:=hr₂
      repeat (any_goals (first | assumption | wp_step))
      exact h _ _ _ _ _ _ hS' hm Mw hk'
     | _=>exact hr₂.elim
  | _=>exact hr.elim
end
namespace SI
theorem PR:Manifest.owners.lookup (String.ofList ['r', 'o', 't', 'a', 'r', 'e', 't', 'i', '_', 't', 'e', 's'].reverse)=some Manifest.sig_set_iterator:=by kernel_rfl
theorem slot_next:Slot "set_iterator" "__next__" "set_iterator.__next__":=
 .of (owner:="set_iterator") (n:="__next__") (by rw[EW,DH];kernel_rfl) (by decide+kernel) (by decide+kernel) (by decide+kernel)
  (by first | exact .inl (by decide+kernel) | exact .inr (by decide+kernel)) (by rw[GI];kernel_rfl)
theorem xr:Slot "set_iterator" "__iter__" "set_iterator.__iter__":=
 .of (owner:="set_iterator") (n:="__iter__") (by rw[EW,DH];kernel_rfl) (by decide+kernel) (by decide+kernel) (by decide+kernel)
  (by first | exact .inl (by decide+kernel) | exact .inr (by decide+kernel)) (by rw[GI];kernel_rfl)
theorem entry_next:entryFor table "set_iterator.__next__"=some Builtin.«set_iterator.__next__» :=entryFor_of_tree (by kernel_rfl)
theorem NP:entryFor table "set_iterator.__iter__"=some Builtin.«dict_keyiterator.__iter__» :=
 entryFor_alias (id':="dict_keyiterator.__iter__") (by kernel_rfl) (by first | rfl | decide+kernel | (unfold String.splitOn;simp+decide [JL])) (by decide+kernel) (by kernel_rfl)
theorem args_next(v:Value):argsOk "set_iterator.__next__" ⟨[v],[]⟩:=by
 unfold argsOk;rw[signature?_of (id:="set_iterator.__next__") (n:=['_', '_', 't', 'x', 'e', 'n', '_', '_']) (o:=['r', 'o', 't', 'a', 'r', 'e', 't', 'i', '_', 't', 'e', 's']) (by kernel_rfl) PR];kernel_rfl
theorem PU(v:Value):argsOk "set_iterator.__iter__" ⟨[v],[]⟩:=by
 unfold argsOk;rw[signature?_of (id:="set_iterator.__iter__") (n:=['_', '_', 'r', 'e', 't', 'i', '_', '_']) (o:=['r', 'o', 't', 'a', 'r', 'e', 't', 'i', '_', 't', 'e', 's']) (by kernel_rfl) PR];kernel_rfl
theorem nG:entryFor table "set.__iter__"=some Builtin.«frozenset.__iter__» :=
 entryFor_alias (id':="frozenset.__iter__") (by kernel_rfl) (by first | rfl | decide+kernel | (unfold String.splitOn;simp+decide [JL])) (by decide+kernel) (by kernel_rfl)
end SI
abbrev gW (h:Heap)(I:Addr)(F:Array Value):Prop:=h.get? I=some {cls:=.type "set_iterator",dict:=none,data:=.fields F,slots:= #[]}
section
variable{P:Af}{w:World}{A:A0}{E:Value->AH->Prop}{s:AH}
theorem nH{I:Addr}{F:Array Value}{Q:Value->AH->Prop}(hI:gW s.heap I F)(h:Q (.ref I) s):wpAny (model P w) A (Iu (.ref I)) Q E s:=by
 have hT:s.TypeIs (.ref I) "set_iterator":=⟨_,hI,rfl⟩
 refine Gh hT SI.xr (BK SI.xr hT SI.NP ?_ (SI.PU _))
 show wpAny (model P w) _ (ret (.ref I)) _ _ s
 exact AG ⟨_,rfl,"set_iterator",_,hT,SI.slot_next.lookup,h⟩
theorem Mx{I a:Addr}{sl i ep':Nat}{es:Array (Int×Value)}{ep:Nat}{t:SetTable}{ks:List Str}{v:Value}{nx:Nat}{Q:Option Value->AH->Prop}(hI:gW s.heap I #[Ap sl,Ap i,.ref a,Ap es.size,Ap ep'])
  (S:cJ P w s.heap a es ep t ks) (hn:∀(B:A0) (E':Value->AH->Prop) (Q':Option (Value×Nat)->AH->Prop),Q' (some (v,nx)) s->wpAny (model P w) B (Ez a sl i ep') Q' E' s)
  (h:∀h',gW h' I #[Ap nx,Ap (i+1:Nat),.ref a,Ap es.size,Ap ep']->Ck I s.heap h'->Q (some v) {s with heap:=h'}):wpAny (model P w) A (C1 (.ref I)) Q E s:=by
 have hT:s.TypeIs (.ref I) "set_iterator":=⟨_,hI,rfl⟩
 obtain⟨o,ho,hex,hd⟩:=S.obj
 unfold C1
 refine AA (C5 (BF (name:=CH "__next__") hT SI.slot_next (BK SI.slot_next hT SI.entry_next ?_ (SI.args_next _))))
 refine AA (AG ?_)
 refine AA (D4 hI rfl ?_)
 refine AA (CM ho hd S.fits ?_)
 rw[if_neg (by simp[Ap])]
 dsimp only[Ap]
 rw[Ae,Ae,Ae]
 refine AA (hn _ _ _ ?_)
 dsimp only
 refine AA (Bi hI (by simp) λh1 e1 b1=>?_)
 refine AA (Bi e1 (by simp) λh2 e2 b2=>?_)
 refine AG ⟨v,rfl,AG (h h2 ?_ (b1.trans b2))⟩
 simpa[Ap] using e2
theorem vB{I:Addr}{F:Array Value}{k0:Option Nat}{Q:Option Value->AH->Prop}(hh:A.handled=none)(hI:gW s.heap I F)(hk:2<F.size)(h:∀h',Ej I s.heap h'->Q none {s with heap:=h'}):
  wpAny (model P w) A.in1 (do setField (.ref I) 2 .none;raiseNew (<-newExc (.type "StopIteration") []))
   (λfin s'=>∃v,fin=Fin.done (Flow.ret v)/\wpAny (model P w) A (pure (some v)) Q E s')
   (λe s'=>wpAny (model P w) A (do if <-isInstance e (.type "StopIteration") then pure none else throw e) Q E s') s:=by
 refine AA (Bi hI hk λh1 e1 b1=>?_)
 refine AA ?_
 simp only[newExc,newTuple]
 refine AA (BJ ?_ (by size_fits))
 refine AA (m:=GJ _ _) (wpAny_of_eq (a:=CB) (by first | rfl | (simp only[GJ];rfl)) ?_)
 refine BJ ?_ (by size_fits)
 simp only[raiseNew]
 refine AA (wpAny_handled ?_)
 rw[show A.in1.handled=none from hh]
 refine AA (AG (wpAny_throw ?_))
 refine AA (D' (T:="StopIteration") (b:=true) ⟨_,AO _ rfl,rfl⟩ isSubtype_stop ?_)
 exact AG (h _ ((b1.extBut.push _).push _))
theorem PV{I a:Addr}{sl i ep':Nat}{es:Array (Int×Value)}{ep:Nat}{t:SetTable}{ks:List Str}{Q:Option Value->AH->Prop}(hh:A.handled=none)(hI:gW s.heap I #[Ap sl,Ap i,.ref a,Ap es.size,Ap ep'])
  (S:cJ P w s.heap a es ep t ks) (hn:∀(B:A0) (E':Value->AH->Prop) (Q':Option (Value×Nat)->AH->Prop),Q' none s->wpAny (model P w) B (Ez a sl i ep') Q' E' s)
  (h:∀h',Ej I s.heap h'->Q none {s with heap:=h'}):wpAny (model P w) A (C1 (.ref I)) Q E s:=by
 have hT:s.TypeIs (.ref I) "set_iterator":=⟨_,hI,rfl⟩
 obtain⟨o,ho,hex,hd⟩:=S.obj
 unfold C1
 refine AA (C5 (BF (name:=CH "__next__") hT SI.slot_next (BK SI.slot_next hT SI.entry_next ?_ (SI.args_next _))))
 refine AA (AG ?_)
 refine AA (D4 hI rfl ?_)
 refine AA (CM ho hd S.fits ?_)
 rw[if_neg (by simp[Ap])]
 dsimp only[Ap]
 rw[Ae,Ae,Ae]
 refine AA (hn _ _ _ ?_)
 dsimp only
 exact vB (k0:=none) hh hI (by simp) h
theorem xt{T:Addr}{xs:Array Value}{B:A0}{E':Value->AH->Prop}{Q':Option (Array Value)->AH->Prop}(hT:s.heap.get? T=some {cls:=.type "tuple",data:=.seq xs})(h:Q' (some xs) s):wpAny (model P w) B (FK (.ref T)) Q' E' s:=by
 unfold FK
 dsimp only
 refine AA (Fy hT ?_)
 exact AG h
theorem Wq{I a T:Addr}{i p:Nat}{es:Array (Int×Value)}{ep:Nat}{t:SetTable}{ks:List Str}{hv:Int}{v:Value}{ord:List Nat}{Q:Option Value->AH->Prop}(hI:gW s.heap I #[.ref T,Ap i,.ref a,Ap es.size,Ap ep])
  (hT':s.heap.get? T=some {cls:=.type "tuple",data:=.seq (ord.map λ(i:Nat)=>Ap i).toArray}) (S:cJ P w s.heap a es ep t ks) (hp:ord[i]? =some p) (he:es[p]? =some (hv,v))
  (h:∀h',gW h' I #[.ref T,Ap (i+1:Nat),.ref a,Ap es.size,Ap ep]->Ck I s.heap h'->Q (some v) {s with heap:=h'}):wpAny (model P w) A (C1 (.ref I)) Q E s:=by
 have hT:s.TypeIs (.ref I) "set_iterator":=⟨_,hI,rfl⟩
 obtain⟨o,ho,hex,hd⟩:=S.obj
 unfold C1
 refine AA (C5 (BF (name:=CH "__next__") hT SI.slot_next (BK SI.slot_next hT SI.entry_next ?_ (SI.args_next _))))
 refine AA (AG ?_)
 refine AA (D4 hI rfl ?_)
 refine AA (CM ho hd S.fits ?_)
 rw[if_neg (by simp[Ap])]
 dsimp only[Ap]
 refine AA (xt hT' ?_)
 dsimp only
 have e1:(ord.map λ(i:Nat)=>Ap i).toArray[((i:Nat):Int).toNat]? =some (Ap p):=by
  rw[Ae,Bu,AJ,hp];rfl
 rw[e1]
 dsimp only[Ap]
 refine AA ?_
 unfold setNextDrawn
 refine AA (BS ho hd S.fits ?_)
 dsimp only
 rw[Ae,Ae,if_neg (by simp),he]
 refine AG ?_
 refine AA (Bi hI (by simp) λh1 e1 b1=>?_)
 refine AG ⟨v,rfl,AG (h h1 ?_ b1)⟩
 simpa[Ap] using e1
theorem Yi{I a T:Addr}{i:Nat}{es:Array (Int×Value)}{ep:Nat}{t:SetTable}{ks:List Str}{ord:List Nat}{Q:Option Value->AH->Prop}(hh:A.handled=none)(hI:gW s.heap I #[.ref T,Ap i,.ref a,Ap es.size,Ap ep])
  (hT':s.heap.get? T=some {cls:=.type "tuple",data:=.seq (ord.map λ(i:Nat)=>Ap i).toArray}) (S:cJ P w s.heap a es ep t ks) (hp:ord[i]? =none)
  (h:∀h',Ej I s.heap h'->Q none {s with heap:=h'}):wpAny (model P w) A (C1 (.ref I)) Q E s:=by
 have hT:s.TypeIs (.ref I) "set_iterator":=⟨_,hI,rfl⟩
 obtain⟨o,ho,hex,hd⟩:=S.obj
 unfold C1
 refine AA (C5 (BF (name:=CH "__next__") hT SI.slot_next (BK SI.slot_next hT SI.entry_next ?_ (SI.args_next _))))
 refine AA (AG ?_)
 refine AA (D4 hI rfl ?_)
 refine AA (CM ho hd S.fits ?_)
 rw[if_neg (by simp[Ap])]
 dsimp only[Ap]
 refine AA (xt hT' ?_)
 dsimp only
 have e1:(ord.map λ(i:Nat)=>Ap i).toArray[((i:Nat):Int).toNat]? =none:=by
  rw[Ae,Bu,AJ,hp];rfl
 rw[e1]
 dsimp only
 refine AA (Bi hI (by simp) λh1 e1 b1=>?_)
 exact vB (s:={s with heap:=h1}) (k0:=none) hh e1 (by simp) λh2 x=>h h2 (λc o hc q=>x c o hc (b1.extBut c o hc q))
theorem iO{a:Addr}{Q:Bool->AH->Prop}(h:Q (w.params.followText "set-order") s):wpAny (model P w) A setsByText Q E s:=by
 unfold setsByText
 exact AA (FL (AG h))
theorem xu{a:Addr}{es:Array (Int×Value)}{ep:Nat}{t:SetTable}{ks:List Str}{sl i:Nat}{Q:Option (Value×Nat)->AH->Prop}(S:cJ P w s.heap a es ep t ks)(hb:w.params.followText "set-order"=true)
  (h:Q (((C8 (w.params.setOrder a ep) es)[i]?).map λe=>(e.2,sl)) s):wpAny (model P w) A (Ez a sl i ep) Q E s:=by
 obtain⟨o,ho,hex,hd⟩:=S.obj
 unfold Ez
 refine AA (BS ho hd S.fits ?_)
 dsimp only
 refine AA (iO (a:=a) ?_)
 rw[hb,if_pos rfl,if_neg (by simp)]
 refine AA ?_
 unfold setWalk
 refine AA (BS ho hd S.fits ?_)
 dsimp only
 refine AA (iO (a:=a) ?_)
 rw[hb,if_pos rfl]
 refine AA (FL (AG ?_))
 exact AG h
theorem zT{a:Addr}{es:Array (Int×Value)}{ep:Nat}{t:SetTable}{ks:List Str}{sl i:Nat}{Q:Option (Value×Nat)->AH->Prop}(S:cJ P w s.heap a es ep t ks)(hb:w.params.followText "set-order"=false)(h1:es.size<=1)
  (h:Q (match es[BL t.place sl]?,t.place[BL t.place sl]? with | some (_,x),some j=>some (x,j+1) | _,_=>none) s):wpAny (model P w) A (Ez a sl i ep) Q E s:=by
 obtain⟨o,ho,hex,hd⟩:=S.obj
 have hl:t.led=true:=by rw[S.led,hb];rfl
 unfold Ez
 refine AA (BS ho hd S.fits ?_)
 dsimp only
 refine AA (iO (a:=a) ?_)
 rw[hb,if_neg (by decide)]
 refine Ci (λhab=>?_) (λ_=>?_)
 ·have hab':(!t.plain&&decide (es.size>1))=true:=hab
  simp at hab'
  omega
 refine AA ?_
 show wpAny (model P w) A (if(!t.led&& !es.isEmpty)=true then IG _ else pure ()) _ _ s
 rw[hl,if_neg (by simp)]
 exact AG (AG h)
end
theorem qg{α:Type}(f:Nat->Nat):∀(n k:Nat) (l:List α) (out:Array α),l.length=n->(JM f n k l out).toList.Perm (out.toList++l)
 | 0,k,l,out,h=>by
  have:l=[]:=Ek.mp h
  subst this
  unfold JM
  rw[Bg]
 | n+1,k,l,out,h=>by
  have lt:f k % l.length<l.length:=DQ _ (by omega)
  unfold JM
  rw[Al lt]
  dsimp only
  refine(qg f n (k+1) _ _ (by rw[GN lt];omega)).trans ?_
  rw[Ge,DN]
  refine List.Perm.append_left _ ?_
  have e:l=l.take (f k % l.length)++l[f k % l.length]::l.drop (f k % l.length+1):=by rw[<-GU lt,FE]
  rw[FA]
  conv=>rhs;rw[e]
  show(l[f k % l.length]::(l.take (f k % l.length)++l.drop (f k % l.length+1))).Perm _
  exact G_.symm
section
variable{P:Af}{w:World}{A:A0}{E:Value->AH->Prop}
theorem xv{α:Type}:∀(n:Nat) (l:List α) (s:AH) (Q:List α->AH->Prop),l.length=n->(∀ys d',ys.Perm l->Q ys {s with drawn:=d'})->wpAny (model P w) A (drawOrder n l) Q E s
 | 0,l,s,Q,hl,h=>by
  have:l=[]:=Ek.mp hl
  subst this
  unfold drawOrder
  exact AG (h [] s.drawn (.refl _))
 | n+1,[],s,Q,hl,h=>by cases hl
 | n+1,x::l,s,Q,hl,h=>by
  unfold drawOrder
  have go:∀i,i<(x::l).length->wpAny (model P w) A (match (x::l)[i]? with | some y=>do return y::(<-drawOrder n ((x::l).eraseIdx i)) | none=>IG "internal:drawOrder") Q E {s with drawn:=s.drawn.bump .order}:=λi hi=>by
   rw[Al hi]
   dsimp only
   refine AA (xv n _ _ _ (by rw[GN hi];omega) λys d' p=>AG ?_)
   refine h _ d' ?_
   have e:(x::l)=(x::l).take i++(x::l)[i]::(x::l).drop (i+1):=by rw[<-GU hi,FE]
   refine(p.cons _).trans ?_
   rw[FA]
   conv=>rhs;rw[e]
   exact G_.symm
  refine AA ?_
  exact λ_ _ hΓ=>⟨by simp,go _ (DQ _ (by simp))⟩
end
section
variable{P:Af}{w:World}{A:A0}{E:Value->AH->Prop}{s:AH}
abbrev UK (ks:List Str):Nat->Value->Prop:=λi v=>∃x tk,ks[i]? =some x/\v=.str x tk
theorem PX{I a:Addr}{es:Array (Int×Value)}{ep:Nat}{t:SetTable}{ks ks':List Str}(hh:A.handled=none)(hne:a≠I)(hb:w.params.followText "set-order"=true)
  (hv:DV ((C8 (w.params.setOrder a ep) es).toList.map (·.2)) ks') (hl:ks'.length=es.size):
  Walks P w A I [I,a] [I] es.size (UK ks') (λi h=>gW h I #[Ap 0,Ap i,.ref a,Ap es.size,Ap ep]/\cJ P w h a es ep t ks) where
 sub:=λb hb=>by simp at hb;simp[hb]
 frame:=λ_ _ _ st hk=>⟨hk I (by simp) _ st.1,st.2.at λo q=>hk a (by simp) o q⟩
 item:=λi s Q E hi st hQ=>by
  have hsz:(C8 (w.params.setOrder a ep) es).size=es.size:=by rw[<-Au,<-AB (f:=(·.2)),hv.length,hl]
  obtain⟨e,he⟩:∃e,(C8 (w.params.setOrder a ep) es)[i]? =some e:=⟨_,Av (by omega)⟩
  refine Mx (sl:=0) (v:=e.2) (nx:=0) st.1 st.2 (λB E' Q' q=>xu st.2 hb (by rw[he];exact q)) λh' e1 b1=>hQ e.2 h' s.toks ?_ ⟨e1,st.2.at λo q=>(b1.2 a hne).trans q⟩ λb o hb q=>(b1.2 b (by simpa using hb)).trans q
  obtain⟨x,tk,ex,ev⟩:=qJ hv i e.2 (by rw[AJ,A_,he];rfl)
  exact⟨x,tk,ex,ev⟩
 done:=λs Q E st hQ=>by
  have hsz:(C8 (w.params.setOrder a ep) es).size=es.size:=by rw[<-Au,<-AB (f:=(·.2)),hv.length,hl]
  have he:(C8 (w.params.setOrder a ep) es)[es.size]? =none:=C3 (by omega)
  exact PV (sl:=0) hh st.1 st.2 (λB E' Q' q=>xu st.2 hb (by rw[he];exact q)) λh' x=>hQ h' s.toks λb o hb q=>x b o (by simpa using hb) q
 self:=λ_ _ _ _ st hQ=>nH st.1 hQ
theorem NQ{I a T:Addr}{es:Array (Int×Value)}{ep:Nat}{t:SetTable}{ks ks':List Str}{ord:List Nat}(hh:A.handled=none)(hne:a≠I)(hTI:T≠I)(hp:ord.Perm (Ao es.size))
  (hv:DV (ord.map λp=>(es.getD p (0,.none)).2) ks'):
  Walks P w A I [I,a,T] [I] es.size (UK ks') (λi h=>gW h I #[.ref T,Ap i,.ref a,Ap es.size,Ap ep]/\cJ P w h a es ep t ks/\h.get? T=some {cls:=.type "tuple",data:=.seq (ord.map λ(i:Nat)=>Ap i).toArray}) where
 sub:=λb hb=>by simp at hb;simp[hb]
 frame:=λ_ _ _ st hk=>⟨hk I (by simp) _ st.1,st.2.1.at λo q=>hk a (by simp) o q,hk T (by simp) _ st.2.2⟩
 item:=λi s Q E hi st hQ=>by
  have lo:ord.length=es.size:=by rw[hp.length_eq,A2]
  obtain⟨p,ho⟩:∃p,ord[i]? =some p:=⟨_,Al (by omega)⟩
  have hlt:p<es.size:=A4.mp (hp.mem_iff.mp (AI ho))
  have he:es[p]? =some ((es.getD p (0,.none)).1,(es.getD p (0,.none)).2):=by
   rw[Av hlt,Bt,Av hlt];rfl
  refine Wq st.1 st.2.2 st.2.1 ho he λh' e1 b1=>hQ _ h' s.toks ?_ ⟨e1,st.2.1.at λo q=>(b1.2 a hne).trans q,(b1.2 T hTI).trans st.2.2⟩ λb o hb q=>(b1.2 b (by simpa using hb)).trans q
  obtain⟨x,tk,ex,ev⟩:=qJ hv i _ (by rw[AJ,ho];rfl)
  exact⟨x,tk,ex,ev⟩
 done:=λs Q E st hQ=>by
  have lo:ord.length=es.size:=by rw[hp.length_eq,A2]
  exact Yi hh st.1 st.2.2 st.2.1 (BC (by omega)) λh' x=>hQ h' s.toks λb o hb q=>x b o (by simpa using hb) q
 self:=λ_ _ _ _ st hQ=>nH st.1 hQ
theorem NR(p:Nat):BL #[p] 0=0:=by
 unfold BL
 simp[Ct]
theorem NS(p:Nat):BL #[p] (p+1)=1:=by
 unfold BL
 simp[Ct]
theorem Sv{I a:Addr}{es:Array (Int×Value)}{ep:Nat}{t:SetTable}{ks:List Str}(hh:A.handled=none)(hne:a≠I)(hb:w.params.followText "set-order"=false)(h1:es.size<=1)(hf:t.fits es.size=true)(hv:DV (es.toList.map (·.2)) ks):
  Walks P w A I [I,a] [I] es.size (UK ks) (λi h=>gW h I #[Ap (if i=0 then 0 else t.place.getD 0 0+1:Nat),Ap i,.ref a,Ap es.size,Ap ep]/\cJ P w h a es ep t ks) where
 sub:=λb hb=>by simp at hb;simp[hb]
 frame:=λ_ _ _ st hk=>⟨hk I (by simp) _ st.1,st.2.at λo q=>hk a (by simp) o q⟩
 item:=λi s Q E hi st hQ=>by
  have i0:i=0:=by omega
  subst i0
  have sz:es.size=1:=by omega
  have tp:t.place.size=1:=by
   unfold Ik at hf
   simp only[Bz,beq_iff_eq] at hf
   omega
  obtain⟨p,hp⟩:∃p,t.place= #[p]:=Hq.mp tp
  obtain⟨e,he⟩:∃e,es[0]? =some e:=⟨_,Av (by omega)⟩
  refine Mx (sl:=0) (v:=e.2) (nx:=p+1) st.1 st.2 (λB E' Q' q=>zT st.2 hb h1 ?_) λh' e1 b1=>hQ e.2 h' s.toks ?_ ⟨?_,st.2.at λo q=>(b1.2 a hne).trans q⟩ λb o hb q=>(b1.2 b (by simpa using hb)).trans q
  ·rw[hp,NR,he]
   exact q
  ·obtain⟨x,tk,ex,ev⟩:=qJ hv 0 e.2 (by rw[AJ,A_,he];rfl)
   exact⟨x,tk,ex,ev⟩
  ·rw[hp]
   exact e1
 done:=λs Q E st hQ=>by
  refine PV hh st.1 st.2 (λB E' Q' q=>zT st.2 hb h1 ?_) λh' x=>hQ h' s.toks λb o hb q=>x b o (by simpa using hb) q
  by_cases z:es.size=0
  ·have ez:es= #[]:=Array.size_eq_zero_iff.mp z
   rw[ez]
   simpa using q
  ·have sz:es.size=1:=by omega
   have tp:t.place.size=1:=by
    unfold Ik at hf
    simp only[Bz,beq_iff_eq] at hf
    omega
   obtain⟨p,hp⟩:∃p,t.place= #[p]:=Hq.mp tp
   rw[if_neg z,hp]
   show Q' (match es[BL #[p] (p+1)]?,(#[p]:Array Nat)[BL #[p] (p+1)]? with | some (_,x),some j=>some (x,j+1) | _,_=>none) _
   rw[NS,C3 (by omega)]
   exact q
 self:=λ_ _ _ _ st hQ=>nH st.1 hQ
theorem NT{a:Addr}{es:Array (Int×Value)}{ep:Nat}{t:SetTable}{ks:List Str}{Q:Value->AH->Prop}(S:cJ P w s.heap a es ep t ks)
  (h:∀(I:Addr) (h1:Heap) (d1:Drawn) (fx:List Addr) (ks':List Str) (St:Nat->Heap->Prop),ks'.Perm ks->s.heap.objs.size<=I->I<h1.objs.size->(∀b∈fx,s.heap.objs.size<=b/\b<h1.objs.size)->(∀b o,s.heap.get? b=some o->h1.get? b=some o)->St 0 h1->
   (∀B:A0,B.handled=none->Walks P w B I (I::a::fx) [I] es.size (UK ks') St)->Q (.ref I) {s with heap:=h1,drawn:=d1}):
  wpAny (model P w) A (Iu (.ref a)) Q E s:=by
 obtain⟨o,ho,hex,hd⟩:=S.obj
 have hT:s.TypeIs (.ref a) "set":=⟨o,ho,hex.1⟩
 have la:a<s.heap.objs.size:=AU ho
 have hsz:=S.len
 refine Gh hT Dr (BK Dr hT SI.nG ?_ (G' _))
 unfold Builtin.«frozenset.__iter__» HA slotArgs
 simp only[List.isEmpty_nil,C6,A', ↓reduceIte,bind_assoc,B5,bne_self_eq_false]
 unfold Gy Gz
 refine AA (AG ?_)
 try dsimp only
 refine AA (AG ?_)
 refine AA (AA (CM ho hd S.fits (AG ?_)))
 unfold setDrawn
 refine AA (AA (BS ho hd S.fits ?_))
 dsimp only
 refine AA (iO (a:=a) (AG ?_))
 refine Ci (λhab=>?_) (λhab=>?_)
 ·have hab':(!w.params.followText "set-order"&&(!t.plain&&decide (es.size>1)))=true:=hab
  refine AA (xv _ _ _ _ (A2) λys d' p=>?_)
  have ly:ys.length=es.size:=by rw[p.length_eq,A2]
  refine AA (IH ?_ (by rw[AB,ly];exact Ey S.small))
  have hoT:(s.heap.push {cls:=.type "tuple",data:=.seq (ys.map λ(i:Nat)=>Ap i).toArray}).get? s.heap.objs.size=some {cls:=.type "tuple",data:=.seq (ys.map λ(i:Nat)=>Ap i).toArray}:=AO _ rfl
  have PY:(s.heap.push {cls:=.type "tuple",data:=.seq (ys.map λ(i:Nat)=>Ap i).toArray}).objs.size=s.heap.objs.size+1:=Ax ..
  refine AA (Gi (s:={s with heap:=s.heap.push {cls:=.type "tuple",data:=.seq (ys.map λ(i:Nat)=>Ap i).toArray},drawn:=d'}) (AE _ ho) hd S.fits ?_)
  have SS:cJ P w (s.heap.push {cls:=.type "tuple",data:=.seq (ys.map λ(i:Nat)=>Ap i).toArray}) a es ep t ks:=S.at λo q=>AE _ q
  have old:∀b o,s.heap.get? b=some o->(s.heap.push {cls:=.type "tuple",data:=.seq (ys.map λ(i:Nat)=>Ap i).toArray}).get? b=some o:=λb o q=>AE _ q
  generalize s.heap.push {cls:=.type "tuple",data:=.seq (ys.map λ(i:Nat)=>Ap i).toArray}=h1 at hoT PY SS old ⊢
  refine AA (BJ (AG ⟨_,rfl,"set_iterator",_,⟨_,AO _ rfl,rfl⟩,SI.slot_next.lookup,?_⟩))
  have ent:((Ao es.size).map λp=>(es.getD p (0,.none)).2)=es.toList.map (·.2):=by
   apply Cc
   intro i
   rw[AJ,AJ,show es.toList[i]? =es[i]? from A_]
   by_cases hi:i<es.size
   ·rw[Ce hi,Av hi]
    show some (es.getD i (0,.none)).2=some es[i].2
    rw[Bt,Av hi];rfl
   ·rw[BC (by rw[A2];omega),C3 (by omega)];rfl
  obtain⟨ks',v',p'⟩:=mD (p.map λp=>(es.getD p (0,.none)).2) (ks:=ks) (by rw[ent];exact S.vals)
  refine h h1.objs.size (h1.push _) d' [s.heap.objs.size] ks' _ p' (by rw[PY];exact B8 _) (by rw[Ax];exact B7 _) (λb hb=>?_) (λb o q=>AE _ (old b o q)) ?_ (λB hB=>NQ (ep:=ep) (t:=t) (ks:=ks) hB ?_ ?_ p v')
  ·rw[Ad.mp hb,Ax,PY]
   exact⟨AK _,Bp (B7 _)⟩
  ·exact⟨AO _ rfl,SS.at λo q=>AE _ q,AE _ hoT⟩
  ·rw[PY];exact Ac (Bp la)
  ·rw[PY];exact Ac (B7 _)
 ·have hab':¬(!w.params.followText "set-order"&&(!t.plain&&decide (es.size>1)))=true:=hab
  refine AA (AG ?_)
  refine AA (Gi ho hd S.fits ?_)
  refine AA (BJ (AG ⟨_,rfl,"set_iterator",_,⟨_,AO _ rfl,rfl⟩,SI.slot_next.lookup,?_⟩))
  have qf:a≠s.heap.objs.size:=Ac la
  cases hb:w.params.followText "set-order" with
  | true=>
   obtain⟨ks',v',p'⟩:=mD ((qg (w.params.setOrder a ep) es.size 0 es.toList #[] (by simp)).map (·.2)) (ks:=ks) (by simpa using S.vals)
   exact h s.heap.objs.size (s.heap.push _) s.drawn [] ks' _ p' (AK _) (by rw[Ax];exact B7 _) (λb hb=>by simp at hb) (λb o q=>AE _ q) ⟨AO _ rfl,S.at λo q=>AE _ q⟩
    (λB hB=>PX (ep:=ep) (t:=t) (ks:=ks) hB qf hb v' (by rw[p'.length_eq,hsz]))
  | false=>
   have few:es.size<=1:=by
    rw[hb] at hab'
    by_cases z:es.size<=1
    ·exact z
    ·exfalso
     refine hab' ?_
     rw[S.plain (by omega),decide_eq_true (show es.size>1 by omega)]
     rfl
   exact h s.heap.objs.size (s.heap.push _) s.drawn [] ks _ (.refl _) (AK _) (by rw[Ax];exact B7 _) (λb hb=>by simp at hb) (λb o q=>AE _ q) ⟨AO _ rfl,S.at λo q=>AE _ q⟩
    (λB hB=>Sv (ep:=ep) (t:=t) (ks:=ks) hB qf hb few S.fits S.vals)
theorem zU{r:Addr}{Q:Bool->AH->Prop}(hT:s.TypeIs (.ref r) "set")(h:Q false s):wpAny (model P w) A (Dx (.ref r)) Q E s:=by
 unfold Dx
 refine AA (Dk hT PySem.F.slot_set_len.lookup ?_)
 generalize hid:("set.__len__":String)=id0
 wp_delta
 rw[show splitId id0=some ("set","__len__") from by subst hid;decide+kernel]
 subst hid
 refine AA (D' (T:="set") (b:=true) hT (by rw[GI];kernel_rfl) ?_)
 refine Ci (λhab=>absurd hab (by decide)) (λ_=>?_)
 refine Ci (λ_=>?_) (λhab=>absurd (by decide+kernel) hab)
 exact AA (Cm hT (AG h))
theorem Lw{a:Addr}{es:Array (Int×Value)}{ep:Nat}{t:SetTable}{ks:List Str}{Q:List Value->AH->Prop}(S:cJ P w s.heap a es ep t ks)(hh:A.handled=none)
  (h:∀(h':Heap) (tk:Nat) (d':Drawn) (acc:List Value) (ks':List Str),(∀b o,s.heap.get? b=some o->h'.get? b=some o)->DV acc ks'->ks'.Perm ks->Q acc {s with heap:=h',toks:=tk,drawn:=d'}):
  wpAny (model P w) A (collect (.ref a)) Q E s:=by
 obtain⟨o,ho,hex,hd⟩:=S.obj
 have la:a<s.heap.objs.size:=AU ho
 have hsz:=S.len
 unfold collect
 refine AA (GL (Bx entry_proto_collect' ?_))
 rw[Bf Fq]
 show wpAny (model P w) A.in1 (newList [] >>= λl=>again (.builtin "list.__iadd__" ⟨[l,.ref a],[]⟩)) _ _ s
 refine AA (BJ ?_)
 refine AG ⟨CO DY _,Bx entry_list_iadd' ?_⟩
 rw[Bf DY]
 have g1:(s.heap.push {cls:=.type "list",data:=.seq ([]:List Value).toArray}).get? s.heap.objs.size=some {cls:=.type "list",data:=.seq #[]}:=AO _ rfl
 have z1:(s.heap.push {cls:=.type "list",data:=.seq ([]:List Value).toArray}).objs.size=s.heap.objs.size+1:=Ax ..
 have k1:∀b o,s.heap.get? b=some o->(s.heap.push {cls:=.type "list",data:=.seq ([]:List Value).toArray}).get? b=some o:=λb o q=>AE _ q
 show wpAny (model P w) A.in1 (Be (.ref s.heap.objs.size) (.ref a) (.ref s.heap.objs.size)) _ _ _
 generalize s.heap.push {cls:=.type "list",data:=.seq ([]:List Value).toArray}=h1 at g1 z1 k1 ⊢
 have S1:cJ P w h1 a es ep t ks:=S.at λo q=>k1 a o q
 have T1:FU {s with heap:=h1} (.ref a) "set":=⟨o,k1 a o ho,hex.1⟩
 unfold Be
 refine AA (Cm T1 ?_)
 have n1:CN (.ref s.heap.objs.size) (.ref a)=false:=by simp[CN];exact CQ la
 rw[if_neg (by rw[n1];decide)]
 refine AA (NT (s:={s with heap:=h1}) S1 λI h2 d2 fx ks' St pk PZ ltI Yj k2 st W=>?_)
 refine AA (BE (zU ⟨o,k2 a o (k1 a o ho),hex.1⟩ ?_))
 refine Ci (λ_=>?_) (λhab=>absurd (by decide+kernel) hab)
 have lS:s.heap.objs.size<h1.objs.size:=by rw[z1];exact B7 _
 have nf:s.heap.objs.size ∉ I::a::fx:=λm=>by
  rcases AV.mp m with q | m
  ·exact absurd PZ (by rw[<-q];exact JC.mpr lS)
  ·rcases AV.mp m with q | m
   ·exact absurd la (by rw[<-q];exact Bm _)
   ·exact absurd (Yj _ m).1 (JC.mpr lS)
 refine AA (Cw (AA ?_))
 have g2:=k2 _ _ g1
 show wpAny (model P w) A.in1 (IU s.heap.objs.size (·.push .none) >>= λ_=>IU s.heap.objs.size (·.pop)) _ _ _
 refine AA (Dm g2 rfl ?_)
 have g3:=Bk (Br (·.push CB)) g2 rfl
 refine Dm (hz:=by seq_fits) g3 rfl ?_
 have g4:=Bk (Br (·.pop)) g3 rfl
 have k4:∀b o,b≠s.heap.objs.size->h2.get? b=some o->((h2.update s.heap.objs.size (Br (·.push CB))).update s.heap.objs.size (Br (·.pop))).get? b=some o:=λb o nb q=>
  (CI _ _ (C0 nb)).trans ((CI _ _ (C0 nb)).trans q)
 have Mm:=(W A.in1 hh).frame 0 _ _ st λb hb o q=>k4 b o (λz=>nf (z▸hb)) q
 refine AG ⟨CO GV _,FX (W A.in1 hh).toS (Ey S.small) s.heap.objs.size nf _ es.size 0 _ #[] _ rfl (BI _) Mm g4 (JW _) λs' acc' c' hm hS' hacc=>?_⟩
 show wpAny (model P w) A (load s.heap.objs.size >>= _) _ _ s'
 refine AA (Fy hS' ?_)
 refine AG ?_
 rw[Ii hm]
 refine h s'.heap s'.toks d2 acc'.toList ks' (λb o q=>hm.heap b o (λm=>?_) (k4 b o (Ac (AU q)) (k2 b o (k1 b o q)))) ?_ pk
 ·have lb:=AU q
  rcases AV.mp m with z | m
  ·exact absurd lb (by rw[z];exact Bm _)
  ·have z:=Ad.mp m
   exact absurd (Es lb lS) (by rw[z];exact JD.mpr PZ)
 ·have ll:acc'.toList.length=ks'.length:=by rw[Au,hacc.1,hsz,pk.length_eq]
  refine oF ll λi v x e1 e2=>?_
  obtain⟨y,tk,ey,ev⟩:=hacc.2 i v (by rw[<-A_];exact e1)
  rw[e2] at ey
  cases ey
  exact⟨tk,ev⟩
end
def zV(P:Af)(w:World)(a:Addr)(ks:List Str):HO:=.ext λh=>∃es ep t ks',cJ P w h a es ep t ks'/\ks'.Perm ks
section
variable{X:Cx}
def afe(X:Cx):List V->Hp->VK->Prop:=λxs H Q=>∃(l:Addr) (ss:List Str),xs=[.ref l]/\bG X.K H l (ss.map V.str)/\ss.length+1<Fs/\
 ∀(p:Addr) (ks:List Str),H p=none->ks.Nodup->(∀y,y∈ks↔y∈ss)->ks.length<=ss.length->Q (.ref p) (upd H p (zV X.prog X.w p ks))
theorem P_(hc:X.calm=true):cK X (.type "set") (afe X):=by
 intro pins s σ H xs us Q I r h
 obtain⟨l,ss,rfl,hq,hb,q⟩:=h
 obtain⟨u,rfl,ru⟩:=vals1 r
 cases ru
 obtain⟨its,rv,p,_⟩:=I.list hq
 have hl:=rv.length
 rw[AB] at hl
 refine zS (I.ok.hd hc) p.isList (NG rv) (by simp;omega) λh' tk es ep t ks S hm hlen kp=>?_
 have k':∀b o,s.heap.get? b=some o->h'.get? b=some o:=λb o e=>kp b o (AU e) e
 have hp:s.heap.objs.size<=s.heap.objs.size:=AK _
 have I2:=I.laid (a:=s.heap.objs.size) (o:=zV X.prog X.w s.heap.objs.size ks) (t':=tk) k' hp ⟨⟨es,ep,t,ks,S,.refl _⟩,(let ⟨o,e,_⟩:=S.obj;⟨o,e⟩),λh1 h2 ⟨es1,Yk,t1,xq,S1,p1⟩ k2=>⟨es1,Yk,t1,xq,S1.at k2,p1⟩⟩
 exact⟨.ref s.heap.objs.size,_,I2,rfl,q _ ks (I.hok.fresh hp) S.once hm (by simp at hlen;omega)⟩
def Sw(X:Cx):List V->Hp->VK->Prop:=λxs H Q=>∃(a:Addr) (ks:List Str),xs=[.ref a]/\H a=some (zV X.prog X.w a ks)/\ks.length<64/\
 ∀(p:Addr) (ss':List Str),H p=none->ss'.Perm ks->JJ ss'=true->Q (.ref p) (upd H p (.lst (ss'.map V.str)))
theorem zW(hc:X.calm=true):cK X (.builtin "sorted") (Sw X):=by
 intro pins s σ H xs us Q I r h
 obtain⟨a,ks,rfl,ha,h64,q⟩:=h
 obtain⟨u,rfl,ru⟩:=vals1 r
 cases ru
 obtain⟨⟨es,ep,t,ks0,S,p0⟩,_,_⟩:=(show bA X.prog X.w H s.heap a (zV X.prog X.w a ks) from I.hok a _ ha)
 refine EE kind_sorted plain_sorted entry_sorted (args_sorted1 _) ?_
 unfold Builtin.«sorted»
 (refine AA (m:=checkCount "sorted" 1 1 _) (AG ?_))
 refine AA (Lw (A:=X.A.in1) S (I.ok.hd hc) λh' tk d' acc xq k hS p1=>?_)
 have hl:acc.length=ks.length:=by rw[hS.length,p1.length_eq,p0.length_eq]
 refine AA (Gw ?_ (by rw[hl];exact CZ (AZ h64 (by decide))))
 have hoL:(h'.push (DX "list" acc.toArray 0)).get? h'.objs.size=some (DX "list" acc.toArray 0):=AO _ rfl
 refine AA (BE (BK IB ⟨_,hoL,rfl⟩ Hg (list_sort_treeK strKind_oneLt hoL hS.keysOf (λv1 v2 rest e=>keyKind_strs (by rw[<-e];exact hS)) (by rw[hl];exact h64) λst' hp hs=>⟨_,rfl,?_⟩) (IC _)))
 obtain⟨ss',a1,a2,a3⟩:=sorted_out_str hS hp hs
 have I1:Inv X pins σ H {s with heap:=h',toks:=tk,drawn:=d'}:=I.step (g':=s.gens) (d':=d') (ch:=[]) (λb z=>by cases z) (λb o _ _ _ e _=>k b o e) (λb o _ _ _ e _=>⟨o.slots,k b o e⟩) (λ_ _ _ _ n=>n)
  (λb o _ e=>⟨o,k b o e⟩) (λ_ _ e=>e) (λ_ _ _ e=>e) (λb ps e=>⟨#[],by rw[e];simp⟩) (λm ⟨ob,e1,e2,hb,r⟩=>⟨ob,e1,e2,k _ ob hb,r⟩) (λb u e=>(I.hok b u e).stay (λc v _ z=>k c v z) (λ_ z=>z) λ_ _ z=>z) I.bare
 obtain⟨e,he⟩:=Ij (out:=(arrOf st').map (·.2)) hoL
 have kp:∀b u,h'.get? b=some u->(HQ (h'.push (DX "list" acc.toArray 0)) h'.objs.size acc ((arrOf st').map (·.2))).get? b=some u:=λb u eb=>by
  have lt:=AU eb
  rw[ID (Ac lt) (by rw[Ax];exact Bp lt)]
  exact AE _ eb
 have I2:=I1.laid (a:=h'.objs.size) (o:=.lst (ss'.map V.str)) (t':=tk) kp (AK _) ⟨by rw[AB,a2.length_eq,p1.length_eq,p0.length_eq];exact CZ (AZ h64 (by decide)),((arrOf st').map (·.2)).toList,e,qe a1,he⟩
 exact AG ⟨_,rfl,⟨.ref h'.objs.size,_,I2,rfl,q _ ss' (I1.hok.fresh (AK _)) ((a2.trans p1).trans p0) a3⟩⟩
end
end L2
namespace L2
open PySem PySem.Spec PyProof.Rows
open PySem.AutoSeq1 (wpAny_loadPart')
theorem ux(l b:Addr)(items items2:Array Value)(n n2:Nat)(dd:Option Addr)(sl:Array (Option Value))(h0:¬(!items.isEmpty&&Cn (items.size+items2.size))=true)(h1:items.size<=sizeLine)(h2:items.size+items2.size<=sizeLine+1):
  Meets (Builtin.«list.extend» ⟨[.ref l,.ref b],[]⟩) (λ_ R s=>s.heap.get? l=some {cls:=.type "list",dict:=none,data:=.seq items n,slots:= #[]}/\s.heap.get? b=some {cls:=.type "tuple",dict:=dd,data:=.seq items2 n2,slots:=sl}/\
   R (.ok (.ret CB)) {s with heap:=s.heap.update l (Br λx=>x++items2),toks:=s.toks}):=
 .of_wp λprog w A R s h=>by
  obtain⟨hp,g,d,tk,os⟩:=s;obtain⟨hl,hb,h⟩:=h
  have f1:=AutoSeq1.idx_int
  have f2:=Gq
  have f3:=AutoSeq1.sub_list_list
  have f4:=AutoSeq1.sub_tuple_list
  have f5:=AutoSeq1.sub_list_tuple
  have hz:(items++items2).size<=sizeLine+1:=by rw[Array.size_append];exact h2
  wp_walk using(Dm hl rfl (hz:=h1) (_hz':=hz)),wpAny_loadPart' hl,wpAny_loadPart' hb
  exact⟨_,rfl,h⟩
section
variable{X:Cx}
def Sx(K:AD):V->List V->Hp->VK->Prop:=λx vs H Q=>∃l b xs zs,x=.ref l/\vs=[.ref b]/\H l=some (.lst xs)/\aY K H b zs/\xs.length+zs.length<=sizeLine/\Q .non (upd H l (.lst (xs++zs)))
theorem NU(K:AD)(hK:X.K=K:=by rfl):Mh X "list.extend" (Sx K):=by
 subst hK
 intro pins s σ H x vs v us Q I rx rv h
 obtain⟨l,b,xs,zs,rfl,rfl,hH,hB,hz,q⟩:=h
 cases rx
 obtain⟨u,rfl,ru⟩:=rv.one
 cases ru
 obtain⟨z,its,n,r,hl,e⟩:=I.vo hH
 obtain⟨its2,r2,⟨⟨c2,dd2,da2,sl2⟩,e2,hc2,n2,hd2⟩,z2⟩:=I.tuple hB
 simp only at hc2 hd2
 subst hc2 hd2
 have lr2:=r2.length
 have hsz:its.toArray.size+its2.toArray.size<=sizeLine:=by rw[AY,AY];omega
 have NB:¬(!its.toArray.isEmpty&&Cn (its.toArray.size+its2.toArray.size))=true:=by
  rw[zB hsz,DC]
  exact An
 refine FI F.slot_list_extend ⟨_,e,rfl⟩ F.entry_list_extend (F.args_list_extend_2 _ _)
  (ux l b its.toArray its2.toArray n n2 dd2 sl2 NB (by rw[AY];omega) (by omega)) ⟨e,e2,?_⟩
 refine⟨.non,_,I.zA (its':=its++its2) hH e (by simp) (r.append r2) ?_,rfl,q⟩
 rw[AR]
 omega
end
theorem ab3(x y:Str)(h:(!ltCps y.cps.toList x.cps.toList)=true):x.cps.toList<=y.cps.toList:=by
 rw[PyProof.Rows.ltCps_eq] at h
 exact List.not_lt.mp (by simpa using h)
theorem qh:∀(l:List Str) (p:Str),risingS p l=true->∀y∈l,p.cps.toList<=y.cps.toList
 | [],p,_,y,hy=>by cases hy
 | x::l,p,h,y,hy=>by
  have h':(!ltCps x.cps.toList p.cps.toList&&risingS x l)=true:=h
  rw[Bz] at h'
  have h1:=ab3 p x h'.1
  rcases AV.mp hy with e | hy
  ·rw[e];exact h1
  ·exact List.le_trans h1 (qh l x h'.2 y hy)
theorem rl{x:Str}{l:List Str}(h:JJ (x::l)=true):JJ l=true:=by
 cases l with
 | nil=>rfl
 | cons y l=>
  have h':(!ltCps y.cps.toList x.cps.toList&&risingS y l)=true:=h
  rw[Bz] at h'
  exact h'.2
theorem Yl{x y:Str}(h:x.cps.toList=y.cps.toList):x=y:=by
 obtain⟨a⟩:=x
 obtain⟨b⟩:=y
 have:a=b:=FN.mp h
 rw[this]
theorem rn:∀{l m:List Str},JJ l=true->JJ m=true->l.Nodup->m.Nodup->(∀y,y∈l↔y∈m)->l=m
 | [],[],_,_,_,_,_=>rfl
 | [],y::m,_,_,_,_,h=>by have:=(h y).mpr AQ;cases this
 | x::l,[],_,_,_,_,h=>by have:=(h x).mp AQ;cases this
 | x::l,y::m,sl,sm,nl,nm,h=>by
  rw[B4] at nl nm
  have e:x=y:=by
   rcases AV.mp ((h x).mp AQ) with e | hx
   ·exact e
   ·rcases AV.mp ((h y).mpr AQ) with e | hy
    ·exact e.symm
    ·exact Yl (List.le_antisymm (qh l x sl y hy) (qh m y sm x hx))
  subst e
  rw[rn (rl sl) (rl sm) nl.2 nm.2 λz=>?_]
  constructor
  ·intro hz
   rcases AV.mp ((h z).mp (AM _ hz)) with e | q
   ·exact absurd (e▸hz) nl.1
   ·exact q
  ·intro hz
   rcases AV.mp ((h z).mpr (AM _ hz)) with e | q
   ·exact absurd (e▸hz) nm.1
   ·exact q
theorem gp:∀{l:List Str} {ss:List Str},l.Nodup->(∀y∈l,y∈ss)->l.length<=ss.length
 | [],ss,_,_=>BI _
 | x::l,ss,h,hs=>by
  rw[B4] at h
  have hx:=hs x AQ
  have:=gp (l:=l) (ss:=ss.erase x) h.2 λy hy=>(D5 (λe:y=x=>h.1 (by rw[<-e];exact hy))).mpr (hs y (AM _ hy))
  rw[ET hx] at this
  have hp:0<ss.length:=Dg hx
  rw[Aj]
  omega
theorem Sy(x:Str)(l:List Str):inV (.str x) (l.map V.str)=decide (x∈l):=by
 induction l with
 | nil=>rfl
 | cons y l ih=>
  unfold inV at ih ⊢
  rw[Aw,ES,ih]
  show((y == x)||_)=_
  by_cases e:y=x
  ·simp[e]
  ·have e':¬x=y:=λz=>e z.symm
   simp[e,e']
end L2
namespace L2
open PySem PySem.Spec PyProof.Rows PySem.W PySem.Builtin PySem.Builtin.ObjectAttr
end L2
namespace HT
open PySem PySem.Spec PyProof.Rows
section
variable{prog:Af}{w:World}{A:A0}{E:Value->AH->Prop}{s:AH}
theorem pS{t sl:Addr}{items:Array Value}{vl vu:Value}{lo hi:Option Int}{Q:Value->AH->Prop}(ht:IsTup s.heap t items)(hs:s.heap.IsSliceOf sl vl vu .none)(pl:HJ vl lo)(pu:HJ vu hi)
  (hw:bo items.size 0 lo=0/\bo items.size items.size hi=items.size) (h:Q (.ref t) s):wpAny (model prog w) A (EV (.ref t) (.ref sl)) Q E s:=by
 obtain⟨os,hos,hcs,hds⟩:=id hs
 have hTs:s.TypeIs (.ref sl) "slice":=⟨os,hos,hcs⟩
 unfold EV
 try with_reducible refine BE ?_
 first | refine AA (AG ?_) | skip
 refine AA (Ga ht.typeIs (by decide) ?_)
 refine AA (BF (name:=CH "__getitem__") ht.typeIs BM
  (BK BM ht.typeIs Fl ?_ (GD _ _)))
 show wpAny _ _ (DB (.ref t) >>= _) _ _ s
 refine AA (Ih ht ?_)
 refine AA (Cm hTs ?_)
 rw[if_pos (by decide)]
 refine AA (k_ hs pl pu ?_)
 have hyes:(((bo items.size 0 lo:Nat):Int) == 0&&(1:Int) == 1&&(bo items.size items.size hi-bo items.size 0 lo) == items.size)=true:=by
  rw[hw.1,hw.2];simp
 show wpAny _ _ (if(((bo items.size 0 lo:Nat):Int) == 0&&(1:Int) == 1&&(bo items.size items.size hi-bo items.size 0 lo) == items.size)=true then _ else _) _ _ s
 rw[if_pos hyes]
 refine AA ?_
 unfold Builtin.Tuple.tupleIsExact
 refine AA (Cm ht.typeIs (AG ?_))
 rw[if_pos (by decide)]
 exact AA (Cw (AG ⟨_,rfl,AG h⟩))
end
end HT
namespace L2
open PySem PySem.Spec PyProof.Rows
section
variable{X:Cx}
def UL(K:AD):V->Option Int->Option Int->Hp->VK->Prop:=λx lo hi H Q=>∃a xs,x=.ref a/\aY K H a xs/\
 ((HT.bo xs.length 0 lo=0/\HT.bo xs.length xs.length hi=xs.length)->Q (.ref a) H)/\
 (¬(HT.bo xs.length 0 lo=0/\HT.bo xs.length xs.length hi=xs.length)->∀p,H p=none->Q (.ref p) (upd H p (.tup (gc xs lo hi))))
theorem Mz(K:AD)(hK:X.K=K:=by rfl):Ph X (UL K):=by
 subst hK
 intro pins s σ H x v vl vu lo hi sl Q I rx hs pl pu h
 obtain⟨a,xs,rfl,hx,hw,q⟩:=h
 by_cases c:HT.bo xs.length 0 lo=0/\HT.bo xs.length xs.length hi=xs.length
 ·cases rx
  obtain⟨its,r,ht,hz⟩:=I.tuple hx
  have hlen:its.toArray.size=xs.length:=by rw[AY];exact r.length.symm
  refine⟨"tuple",_,BM.lookup,ht.typeIs,?_⟩
  exact HT.pS ht hs pl pu (by rw[hlen];exact c) ⟨.ref a,H,I,rfl,hw c⟩
 ·exact XF pins s σ H _ v vl vu lo hi sl Q I rx hs pl pu ⟨a,xs,rfl,hx,c,q c⟩
end
end L2
namespace HT
open PySem PySem.Spec PyProof.Rows
section
variable{prog:Af}{w:World}{A:A0}{E:Value->AH->Prop}{s:AH}
theorem NV(n:Nat):CJ none none (-1) (n:Int)=((n:Int)-1, -1):=by
 unfold CJ
 have h1:((-1:Int)<0):=by omega
 simp only[h1,if_true]
theorem NW(n:Nat):Bo ((n:Int)-1) (-1) (-1)=n:=by
 unfold Bo
 have h1:¬((-1:Int)>0):=by omega
 simp only[h1,if_false,Int.neg_neg,Int.ediv_one]
 split<;>omega
theorem r_{sl:Addr}{n:Nat}{u:Tok}{Q:Int×Int×Nat->AH->Prop}(hs:s.heap.IsSliceOf sl .none .none (.int (-1) u))(h:Q ((n:Int)-1, -1,n) s):
  wpAny (model prog w) A (DA (.ref sl) (pure (n:Int))) Q E s:=by
 obtain⟨os,hos,hcs,hds⟩:=id hs
 unfold DA GR
 refine AA (AA (B2 hos hds (x:=.none) rfl (AA (B2 hos hds (x:=.none) rfl (AA (B2 hos hds (x:=.int (-1) u) rfl (AG ?_)))))))
 refine AA (slicePart_int ?_)
 show wpAny _ _ (if((-1:Int) == 0)=true then _ else _) _ _ s
 rw[if_neg (by decide)]
 refine AA (GB (AA (GB (AA (AG ?_)))))
 show wpAny _ _ (match CJ none none (-1) (n:Int) with | (lo,hi)=>pure (lo,(-1:Int),Bo lo hi (-1))) _ _ s
 rw[NV n]
 show wpAny _ _ (pure (((n:Int)-1),(-1:Int),Bo ((n:Int)-1) (-1) (-1))) _ _ s
 rw[NW n]
 exact AG h
theorem Sz(xs:Array Value):((Ao xs.size).filterMap λ(k:Nat)=>xs[((xs.size:Int)-1+(k:Int)*(-1)).toNat]?).toArray=xs.toList.reverse.toArray:=by
 have e:(λ(k:Nat)=>xs[((xs.size:Int)-1+(k:Int)*(-1)).toNat]?)=(λi=>xs[i]?)∘λk=>xs.size-1-k:=by
  funext k
  show _=xs[xs.size-1-k]?
  have:((xs.size:Int)-1+(k:Int)*(-1)).toNat=xs.size-1-k:=by omega
  rw[this]
 rw[e,<-GC,PySem.W.krv_range,List.filterMap_reverse,PySem.W.krv_all]
theorem qU{t sl:Addr}{items:Array Value}{u:Tok}{Q:Value->AH->Prop}(ht:IsTup s.heap t items)(hs:s.heap.IsSliceOf sl .none .none (.int (-1) u))
  (h:Q (.ref s.heap.objs.size) {s with heap:=s.heap.push {cls:=.type "tuple",data:=.seq items.toList.reverse.toArray}})
  (hsz:items.size<=sizeLine):wpAny (model prog w) A (EV (.ref t) (.ref sl)) Q E s:=by
 have hdrop:sizeOk (.seq items.toList.reverse.toArray):=by
  show items.toList.reverse.toArray.size<=sizeLine
  rw[AY,Bw,Au]
  omega
 obtain⟨os,hos,hcs,hds⟩:=id hs
 have hTs:s.TypeIs (.ref sl) "slice":=⟨os,hos,hcs⟩
 unfold EV
 try with_reducible refine BE ?_
 first | refine AA (AG ?_) | skip
 refine AA (Ga ht.typeIs (by decide) ?_)
 refine AA (BF (name:=CH "__getitem__") ht.typeIs BM
  (BK BM ht.typeIs Fl ?_ (GD _ _)))
 show wpAny _ _ (DB (.ref t) >>= _) _ _ s
 refine AA (Ih ht ?_)
 refine AA (Cm hTs ?_)
 rw[if_pos (by decide)]
 refine AA (r_ hs ?_)
 have hno:¬((((items.size:Int)-1) == 0&&(-1:Int) == 1&&items.size == items.size)=true):=by
  rw[show((-1:Int) == 1)=false by decide];simp
 show wpAny _ _ (if(((items.size:Int)-1) == 0&&(-1:Int) == 1&&items.size == items.size)=true then _ else _) _ _ s
 rw[if_neg hno,Sz items]
 first
  | exact AA (m:=Bq _) (BJ (AG ⟨_,rfl,AG h⟩) hdrop)
  | exact AA (m:=Bq _) (BJ (AA (AG (AG ⟨_,rfl,AG h⟩))) hdrop)
  | exact AA (AA (m:=Bq _) (BJ (AG (AG ⟨_,rfl,AG h⟩)) hdrop))
  | exact AA (AA (m:=Bq _) (BJ (AG ⟨_,rfl,AG h⟩) hdrop))
end
end HT
namespace L2
open PySem PySem.Spec PyProof.Rows
section
variable{X:Cx}{e:Expr}{lo hi:Option Expr}{st:Expr}{te:TE}{tl th tk:TO}{p2 pos:Pos}
def ab4(K:AD)(x:V)(l u k:Option Int):Hp->VK->Prop:=λH Q=>∃a xs,l=none/\u=none/\k=some (-1)/\x=.ref a/\aY K H a xs/\∀p,H p=none->Q (.ref p) (upd H p (.tup xs.reverse))
def ab5(K:AD)(te:TE)(tl th tk:TO):TE:=λσ H Q=>te σ H λx H1=>tl σ H1 λl H2=>th σ H2 λu H3=>tk σ H3 λk H4=>ab4 K x l u k H4 Q
theorem Wr(K:AD)(he:PE X e te)(hl:PO X lo tl)(hu:PO X hi th)(hk:PO X (some st) tk)(hK:X.K=K:=by rfl):PE X (.Subscript e (.Slice lo hi (some st) p2) pos) (ab5 K te tl th tk):=by
 subst hK
 intro pins s σ H Q I h
 refine HM (aK (he pins s σ H _ I h) λv s1 ⟨x,H1,I1,r1,q1⟩=>?_)
 refine wpAny_Slice (aK (hl pins s1 σ H1 _ I1 q1) λvl s2 ⟨l,H2,I2,pl,q2⟩=>aK (hu pins s2 σ H2 _ I2 q2) λvu s3 ⟨u,H3,I3,pu,q3⟩=>aK (hk pins s3 σ H3 _ I3 q3) λvk s4 ⟨k,H4,I4,pk,q4⟩=>?_)
 obtain⟨a,xs,rfl,rfl,rfl,rfl,hx,q⟩:=q4
 cases pl
 cases pu
 cases pk with
 | int i t=>
  cases r1
  have I5:Inv X pins σ H4 {s4 with heap:=s4.heap.push {cls:=.type "slice",data:=.fields #[.none,.none,.int (-1) t]}}:=I4.kept (t':=s4.toks) λb ob q=>AE _ q
  obtain⟨its,r,ht,hz⟩:=I5.tuple hx
  have hlen:its.toArray.size=xs.length:=by rw[AY];exact r.length.symm
  show wpAny (model X.prog X.w) X.A (FQ e (.Slice lo hi (some st) p2) (.ref a) (.ref s4.heap.objs.size)) (EP X pins σ Q) X.xe {s4 with heap:=s4.heap.push {cls:=.type "slice",data:=.fields #[.none,.none,.int (-1) t]}}
  refine tail_any (ops:=[.ref a,.ref s4.heap.objs.size]) ht.typeIs BM.lookup ?_ (by with_unfolding_all rfl)
  refine HT.qU ht (GF ..) ?_ (by rw[hlen];exact hz)
  have hp:=I5.hok.fresh (AK _)
  refine⟨.ref _,_,I5.laid (o:=.tup xs.reverse) (t':=s4.toks) (λ_ _ q=>AE _ q) (AK _) ?_,rfl,q _ hp⟩
  exact⟨⟨by rw[Bw];exact hz,_,AO _ rfl,rfl⟩,_,jq r,JT _ _⟩
def ab6(K:AD)(x:V)(l u k:Option Int):Hp->VK->Prop:=λH Q=>∃a xs,l=none/\u=none/\k=some (-1)/\x=.ref a/\bG K H a xs/\∀p,H p=none->Q (.ref p) (upd H p (.lst xs.reverse))
def ab7(K:AD)(te:TE)(tl th tk:TO):TE:=λσ H Q=>te σ H λx H1=>tl σ H1 λl H2=>th σ H2 λu H3=>tk σ H3 λk H4=>ab6 K x l u k H4 Q
theorem Ws(K:AD)(he:PE X e te)(hl:PO X lo tl)(hu:PO X hi th)(hk:PO X (some st) tk)(hK:X.K=K:=by rfl):PE X (.Subscript e (.Slice lo hi (some st) p2) pos) (ab7 K te tl th tk):=by
 subst hK
 intro pins s σ H Q I h
 refine HM (aK (he pins s σ H _ I h) λv s1 ⟨x,H1,I1,r1,q1⟩=>?_)
 refine wpAny_Slice (aK (hl pins s1 σ H1 _ I1 q1) λvl s2 ⟨l,H2,I2,pl,q2⟩=>aK (hu pins s2 σ H2 _ I2 q2) λvu s3 ⟨u,H3,I3,pu,q3⟩=>aK (hk pins s3 σ H3 _ I3 q3) λvk s4 ⟨k,H4,I4,pk,q4⟩=>?_)
 obtain⟨a,xs,rfl,rfl,rfl,rfl,hx,q⟩:=q4
 cases pl
 cases pu
 cases pk with
 | int i t=>
  cases r1
  have I5:Inv X pins σ H4 {s4 with heap:=s4.heap.push {cls:=.type "slice",data:=.fields #[.none,.none,.int (-1) t]}}:=I4.kept (t':=s4.toks) λb ob q=>AE _ q
  obtain⟨its,r,ht,hz⟩:=I5.list hx
  have hlen:its.toArray.size=xs.length:=by rw[AY];exact r.length.symm
  show wpAny (model X.prog X.w) X.A (FQ e (.Slice lo hi (some st) p2) (.ref a) (.ref s4.heap.objs.size)) (EP X pins σ Q) X.xe {s4 with heap:=s4.heap.push {cls:=.type "slice",data:=.fields #[.none,.none,.int (-1) t]}}
  refine tail_any (ops:=[.ref a,.ref s4.heap.objs.size]) ht.isList.typeIs list_getitem_lookup ?_ (by with_unfolding_all rfl)
  refine Gr (lo:=none) (hi:=none) (st:=some (-1)) ht.isList (GF ..) .none .none (.int _ _) (by decide) ?_ (by rw[hlen];exact hz)
  rw[PySem.W.krv_pick]
  refine⟨.ref _,_,I5.laid (o:=.lst xs.reverse) (t':=s4.toks) (λ_ _ q=>AE _ q) (AK _) ?_,rfl,q _ (I5.hok.fresh (AK _))⟩
  exact⟨by rw[Bw];exact hz,_,0,jq r,AO _ rfl⟩
end
section
variable{prog:Af}{w:World}{A:A0}{E:Value->AH->Prop}{s:AH}
theorem g_{h h':Heap}{it t b:Addr}{i:Nat}(x:h.IsTupleIter it t i)(sb:Ej b h h')(n:it≠b):h'.IsTupleIter it t i:=let ⟨o,ho,r⟩:=x;⟨o,sb _ _ n ho,r⟩
theorem xx{h h':Heap}{t b:Addr}{ys:Array Value}(x:h.IsTuple t ys)(sb:Ej b h h')(n:t≠b):h'.IsTuple t ys:=let ⟨o,ho,r⟩:=x;⟨o,sb _ _ n ho,r⟩
abbrev itL (l:Addr):Obj:={cls:=.type "list_iterator",data:=.fields #[.ref l,.int 0 0]}
abbrev P0 (l:Addr):Obj:={cls:=.type "tuple_iterator",data:=.fields #[.ref l,.int 0 0]}
end
structure dR (ps aI:List Str)(scope:Scope):Prop where
 kind:scope.kind=.function
 co:scope.isCoroutine=false
 gen:scope.isGenerator=false
 P1:∀x∈scope.names,x.2≠.cell
 par:∀x∈ps,scope.names.lookup x=some .local
 free:∀x∈aI,scope.names.lookup x=some .free
 only:∀x,scope.names.lookup x=some .free->x∈aI
 nd:(ps++aI).Nodup
structure iE (h:Heap)(cl:List (Str×Addr))(aI:List Str)(fvs:List V):Prop where
 inj:∀x y c,cl.lookup x=some c->cl.lookup y=some c->x=y
 cell:∀x c,cl.lookup x=some c->∃v,h.IsCell c v
 vals:BV (λx v=>∃c u,cl.lookup x=some c/\h.IsCell c (some u)/\RelV v u) aI fvs
def MA(P:Af)(w:World)(K:AD)(mg:Str->Option Value)(base:Heap)(N:List Str)(qual:Str)(scope:Scope)(f:Addr)(cd:Value)(cl:List (Str×Addr))(A:A0)(outer:List Env)(s:AH)(H:Hp):Cx where
 prog:=P
 w:=w
 K:=K
 mg:=mg
 base:=base
 A:=A.deeper (Co qual scope s.heap.objs.size f cd cl)
 N:=N
 s₀:=s
 H₀:=H
 env:=Co qual scope s.heap.objs.size f cd cl
 outer:=outer
 stack:=Co qual scope s.heap.objs.size f cd cl::outer
 ex:=[]
 calm:=true
 fn:=λ_=>false
 pn:=[]
 xe:=λ_ _=>False
theorem Wu{ps:List Str}{us:List Value}(nd:ps.Nodup)(hl:ps.length<=us.length){i:Nat}{y:Str}{u:Value}(hp:ps[i]? =some y)(hu:us[i]? =some u):(ps.zip us).reverse.lookup y=some u:=by
 have hm:(y,u)∈(ps.zip us).reverse:=by
  rw[FO]
  refine AI (i:=i) ?_
  rw[List.getElem?_zip_eq_some]
  exact⟨hp,hu⟩
 have hn:((ps.zip us).reverse.map (·.1)).Nodup:=by
  rw[HB]
  refine(List.reverse_perm _).nodup_iff.mpr ?_
  rw[List.map_fst_zip hl]
  exact nd
 generalize (ps.zip us).reverse=l at hm hn
 induction l with
 | nil=>cases hm
 | cons p l ih=>
  rw[Aw,B4] at hn
  rcases AV.mp hm with e | e
  ·subst e;exact List.lookup_cons_self
  ·have:y≠p.1:=λz=>hn.1 (by rw[<-z];exact As.mpr ⟨_,e,rfl⟩)
   obtain⟨a,b⟩:=p
   rw[DW,show(y == a)=false from beq_false_of_ne this]
   exact ih e hn.2
theorem gK{α β:Type}{F:α->β->Prop}:∀{l:List α} {m:List β} {i:Nat} {a:α},BV F l m->l[i]? =some a->∃b,m[i]? =some b/\F a b
 | _,_,_,_,.nil,h=>by simp at h
 | _,_,0,_,.cons r _,h=>by simp at h;subst h;exact⟨_,rfl,r⟩
 | _,_,i+1,_,.cons _ t,h=>by
  simp only[B0] at h ⊢
  exact gK t h
theorem Wv{P:Af}{w:World}{K:AD}{mg:Str->Option Value}{base:Heap}{ps aI:List Str}{qual:Str}{scope:Scope}{f:Addr}{cd:Value}{cl:List (Str×Addr)}{A:A0}{outer:List Env}{s:AH}{H:Hp}{us:List Value}{vs fvs:List V}{h1:Heap}{fo:Obj}{tk:Nat}
  (S:dR ps aI scope) (hd:A.handled=none) (e0:rS P w K mg base A outer s H) (hl:vs.length=ps.length) (r:Vals vs us) (C:iE base cl aI fvs)
  (hns:h1.Ns s.heap.objs.size λx=>(ps.zip us).reverse.lookup x) (hsb:Ck s.heap.objs.size (s.heap.push fo) h1):
  Inv (MA P w K mg base (ps++aI) qual scope f cd cl A outer s H) [] (vs.map some++fvs.map some) H {s with heap:=h1,toks:=tk}:=by
 have hk:∀b o,s.heap.get? b=some o->h1.get? b=some o:=λb o e=>hsb.extBut b o (Ac (AU e)) (AE _ e)
 have hkb:∀b o,base.get? b=some o->h1.get? b=some o:=λb o e=>hk b o (e0.bs b o e).1
 have mz:∀b:Addr,b ∉ (MA P w K mg base (ps++aI) qual scope f cd cl A outer s H).ex:=λb z=>absurd (show b∈([]:List Addr) from z) (by simp)
 have lf:aI.length=fvs.length:=Aq C.vals
 refine⟨⟨e0.mod,S.kind,rfl,rfl,AK _,C.inj,λy hy=>?_,λy c z=>(nomatch z),λ_=>hd,FW e0.frames,.inr ⟨rfl,rfl⟩,λb z=>absurd z (mz b),e0.bs,e0.pT,λb _ _=>mz b,λb z=>absurd z (mz b),e0.iW,e0.wQ⟩,
  rfl,e0.bare,Un.kept hk,⟨_,hns,λi y v h1' h2 h3=>?_⟩,λy c h=>?_,e0.hok.fresh (AK _),λy c h=>?_,λp hp=>absurd (show p∈([]:List (Addr×Obj)) from hp) (by simp),e0.hok.kept hk,?_⟩
 ·have hy:scope.names.lookup y=some .cell∨scope.names.lookup y=some .free:=hy
  rcases hy with hy | hy
  ·exact absurd rfl (S.P1 _ (A9 hy))
  ·have hm:=S.only y hy
   obtain⟨i,hi⟩:=Ak hm
   obtain⟨v,_,c,u,hc,_⟩:=gK C.vals hi
   exact⟨c,hc⟩
 ·have jr:(ps++aI)[i]? =some y:=h1'
  by_cases hi:i<ps.length
  ·rw[Am hi] at jr
   rw[Am (by rw[AB];omega),AJ] at h2
   obtain⟨v',hv',e⟩:=Ca.mp h2
   have e':v'=v:=AN e
   subst e'
   obtain⟨u,hu,rv⟩:=r.get hv'
   have Mc:ps.Nodup:=(Cs.mp S.nd).1
   exact⟨u,rv,.inl ⟨S.par y (AI jr),Wu Mc (by rw[<-hl,r.length];exact AK _) jr hu⟩⟩
  ·rw[Ag (by omega)] at jr
   rw[Ag (by rw[AB];omega),AB,hl,AJ] at h2
   obtain⟨v',hv',e⟩:=Ca.mp h2
   have e':v'=v:=AN e
   subst e'
   obtain⟨v2,hv2,c,u,hc,⟨o,ho,hd'⟩,rv⟩:=gK C.vals jr
   rw[hv'] at hv2
   cases hv2
   exact⟨u,rv,.inr ⟨.inr (S.free y (AI jr)),c,hc,o,hkb _ _ ho,hd'⟩⟩
 ·obtain⟨v,o,ho,hd'⟩:=C.cell y c h
  exact⟨v,o,hkb _ _ ho,hd'⟩
 ·obtain⟨v,o,ho,hd'⟩:=C.cell y c h
  exact(e0.bs c o ho).2
 ·show _=(ps++aI).length
  rw[AR,AB,AB,AR,hl,lf]
theorem P2{P:Af}{w:World}{K:AD}{mg:Str->Option Value}{base:Heap}{k:Nat}{f c':Addr}{name qual:Str}{params:Dn}{body:Expr}{scope:Scope}{cl:List (Str×Addr)}{pm ctv:Value}{ps aI:List Str}{fvs:List V}{sp:Sp}
  (ho:base.get? f=some (Hj name qual params body scope cl pm c' ctv)) (uy:base.CodeRec (.ref c') qual) (S:dR ps aI scope) (C:iE base cl aI fvs) (len:∀vs H Q E,sp vs H Q E->vs.length=ps.length)
  (hbody:∀(A:A0) (outer:List Env) (s:AH) (H:Hp) (vs:List V) (Q:VK) (E:XK),aL k (A.deeper (Co qual scope s.heap.objs.size f (.ref c') cl))->sp vs H Q E->
   ∃t,PE (MA P w K mg base (ps++aI) qual scope f (.ref c') cl A outer s H) body t/\t (vs.map some++fvs.map some) H Q):
  aR P w K mg base bh (k+1) f (E1 name qual params body scope cl pm (.ref c') ctv) ps sp:=by
 refine⟨len,λA outer s H args us vs Q E hr e0 hb r hsp=>?_⟩
 have hl:=len _ _ _ _ hsp
 have lim:s.heap.NoLimit:=e0.mod.nolimit.keeps λb o e=>(e0.bs b o e).1
 have SA:s.heap.CodeRec (.ref c') qual:=by
  obtain⟨c,oc,vs',tq,hc,hoc,hdc,hq⟩:=uy
  exact⟨c,oc,vs',tq,hc,(e0.bs _ _ hoc).1,hdc,hq⟩
 refine II hr.depth (e0.bs _ _ ho).1 rfl S.co S.gen rfl SA (hb _ _ _ _ ?_)
 have hloc:∀y∈ps.zip us,scope.names.lookup y.1=some .local:=λ⟨n,v⟩ hy=>S.par n (Cv hy).1
 refine wpAny_newFunctionEnv S.P1 hloc (λh₁ hns hsb=>⟨lim.fresh _ hsb,?_⟩) S.kind
 obtain⟨t,ht,hq⟩:=hbody A outer s H vs Q E (hr.deeper _) hsp
 have I:Inv (MA P w K mg base (ps++aI) qual scope f (.ref c') cl A outer s H) [] (vs.map some++fvs.map some) H {s with heap:=h₁,toks:=s.toks+(ps.zip us).length}:=Wv S hr.hd e0 hl r C hns hsb
 refine IJ (CC (ht [] _ _ H _ I hq) (λv s' hs=>?_) λe s' hs=>hs.elim)
 obtain⟨x,H',J,rv,q⟩:=hs
 exact⟨x,H',J.os,J.bare,J.base,J.hok,rv,q⟩
section
variable{X:Cx}{x:Str}{p pos:Pos}{e:Expr}{es:List Expr}{t:TA}{k:Nat}{f:Addr}{fd:Ay}{ps:List Str}{sp:Sp}
def Ym(i:Nat)(f:Addr)(sp:Sp)(t:TA):TE:=λσ H Q=>σ[i]? =some (some (.ref f))/\t σ H λvs H1=>sp vs H1 Q E0
theorem zX(F:aR X.prog X.w X.K X.mg X.base bh k f fd ps sp){i:Nat}{o:Obj}(ho:X.base.get? f=some o)(hof:o.data=.func fd)(hr:aL k X.A)(hb:∀us:List Value,us.length=ps.length->G4 fd ⟨us,[]⟩=pure (ps.zip us))
  (hN:X.N[i]? =some x) (hv:L5 X.env.scope x) (ha:PA X (e::es) t) (hdb:(x == ("__debug__":Str))=false:=by decide) (hcd:(x == ("__classdict__":Str))=false:=by decide)
  (he:BO (e::es) X.env=(false,eval e X.env)::BO es X.env:=by rfl) (hpl:(EH pos (BO es X.env)).any (·.1)=false:=by rfl):
  PE X (.Call (.Name x p) (e::es) [] pos) (Ym i f sp t):=by
 intro pins s σ H Q I h
 obtain⟨hi,h⟩:=h
 obtain⟨m,hn,hl⟩:=I.loc
 obtain⟨u,r,l⟩:=hl i x (.ref f) hN hi hv
 obtain rfl:u=A5 f:=r
 have fin:wpAny (model X.prog X.w) X.A (callWith pos (.ref f) [] (EH pos (BO (e::es) X.env)) []) (EP X pins σ Q) X.xe s:=by
  have h0:wpAny (model X.prog X.w) X.A (spliced (EH pos (BO (e::es) X.env))) (λus s₁=>s₁.heap.get? f=some o/\wpAny (model X.prog X.w) X.A (call (.ref f) ([]++us)) (EP X pins σ Q) X.xe s₁) X.xe s:=by
   refine aK (ha pos pins s σ H _ I h) λus s1 ⟨vs,H1,I1,r,q⟩=>⟨I1.bk _ _ ho,?_⟩
   exact Pg (ds:=[]) (uc:=[]) F hr (Binds.all hb) .nil aJ I1 r (by rw[Bg];exact q)
  rw[he] at h0 ⊢
  refine PySem.W.callWith_of (P:=λh=>h.get? f=some o) ?_ (λh hf=>⟨.frame,.inl rfl,(PySem.W.Looks.ld (part:=none) hf).andThen ?_⟩) (D1 h0)
  ·show((false||(EH pos (BO es X.env)).any (·.1))||false)=false
   rw[hpl];rfl
  ·rw[hof]
   exact .now
 rcases l with⟨hk,hm⟩ | ⟨hk,c,hc,hcell⟩
 ·exact CT (Fw (wpAny_loadName_local I.ok.kind hk hn hm fin) hdb)
 ·rcases hk with hk | hk
  ·exact CT (Fw (wpAny_loadName_cell I.ok.kind hk hc hcell fin) hdb)
  ·exact CT (Fw (wpAny_loadName_free I.ok.kind hk hc hcell fin hcd) hdb)
end
def uz(f:Addr)(o:Obj):HO:=.ext λh=>h.get? f=some o
def rq(c:Addr)(qual:Str):HO:=.ext λh=>h.CodeRec (.ref c) qual
section
variable{P:Af}{w:World}{H:Hp}{h:Heap}
theorem P4{f:Addr}{o:Obj}(e:h.get? f=some o):bA P w H h f (uz f o):=
 ⟨e,⟨o,e⟩,λh1 h2 q k=>k o q⟩
theorem Yn{c:Addr}{qual:Str}(e:h.CodeRec (.ref c) qual):bA P w H h c (rq c qual):=by
 refine⟨e,?_,λh1 h2 q k=>?_⟩
 ·obtain⟨c',o,vs,t,e1,e2,_⟩:=e
  cases e1
  exact⟨o,e2⟩
 ·obtain⟨c',o,vs,t,e1,e2,r⟩:=q
  cases e1
  exact⟨c,o,vs,t,rfl,k o e2,r⟩
end
def Tab(H:Hp)(T:Addr)(L:List (Pos×Str)):Prop:=
 ∃ps:Array Value,H T=some (.de ps)/\TriplesOk ps.toList/\∀p∈L,EB p.1 ps.toList=none∨∃c,EB p.1 ps.toList=some (.ref c)/\H c=some (rq c p.2)
theorem Tab.same{H H':Hp}{T:Addr}{L:List (Pos×Str)}(x:Tab H T L)(s:Same H H'):Tab H' T L:=by
 obtain⟨ps,h1,h2,h3⟩:=x
 refine⟨ps,s _ _ h1,h2,λp hp=>?_⟩
 rcases h3 p hp with z | ⟨c,z,q⟩
 ·exact .inl z
 ·exact .inr ⟨c,z,s _ _ q⟩
theorem Tab.kb{H H':Hp}{T d:Addr}{L:List (Pos×Str)}(x:Tab H T L)(s:KB d H H')(hd:∀ps,H d≠some (.de ps))(hx:∀φ,H d≠some (.ext φ)):Tab H' T L:=by
 obtain⟨ps,h1,h2,h3⟩:=x
 refine⟨ps,s _ _ h1 (λe=>hd ps (e▸h1)),h2,λp hp=>?_⟩
 rcases h3 p hp with z | ⟨c,z,q⟩
 ·exact .inl z
 ·exact .inr ⟨c,z,s _ _ q λe=>hx _ (e▸q)⟩
theorem NX{p q:Pos}{c:Value}:∀(l:List Value),TriplesOk l->∀d,EB p (l++[Ap q.line,Ap q.col,c])=some d->EB p l=some d∨(EB p l=none/\p.line=q.line/\p.col=q.col/\d=c):=by
 intro l
 fun_induction TriplesOk l with
 | case1=>
  intro _ d h
  simp only[List.nil_append,EB,Ap] at h
  split at h
  ·rename_i hc
   simp at hc
   cases h
   exact .inr ⟨rfl,by omega,by omega,rfl⟩
  ·cases h
 | case2 a t b u x rest ih=>
  intro hl d h
  simp only[List.cons_append,EB] at h ⊢
  split at h
  ·rename_i hc;rw[if_pos hc];exact .inl h
  ·rename_i hc;rw[if_neg hc];exact ih hl d h
 | case3 l h1 h2=>intro h;exact h.elim
def Apart(L:List (Pos×Str)):Prop:=∀p∈L,∀q∈L,p.1.line=q.1.line->p.1.col=q.1.col->p=q
theorem Tab.grown{H H':Hp}{T c':Addr}{L:List (Pos×Str)}{ps:Array Value}{q:Pos×Str}(hq:q∈L)(ap:Apart L)(h2:TriplesOk ps.toList)(h3:∀p∈L,EB p.1 ps.toList=none∨∃c,EB p.1 ps.toList=some (.ref c)/\H c=some (rq c p.2))
  (hT:H' T=some (.de (ps++ #[Ap q.1.line,Ap q.1.col,.ref c']))) (hc:H' c'=some (rq c' q.2)) (k:∀b φ,H b=some (.ext φ)->H' b=some (.ext φ)):Tab H' T L:=by
 have e:(ps++ #[Ap q.1.line,Ap q.1.col,.ref c']).toList=ps.toList++[Ap q.1.line,Ap q.1.col,.ref c']:=by simp
 refine⟨_,hT,by rw[e];exact TriplesOk_snoc _ _ _ _ h2,λp hp=>?_⟩
 rw[e]
 cases z:EB p.1 (ps.toList++[Ap q.1.line,Ap q.1.col,.ref c']) with
 | none=>exact .inl rfl
 | some d=>
  rcases NX _ h2 d z with y | ⟨_,y1,y2,y3⟩
  ·rcases h3 p hp with n | ⟨c,n,r⟩
   ·rw[n] at y;cases y
   ·rw[n] at y;cases y
    exact .inr ⟨c,rfl,k _ _ r⟩
  ·have:=ap p hp q hq y1 y2
   subst this
   subst y3
   exact .inr ⟨c',rfl,hc⟩
section
variable{X:Cx}{pos:Pos}{params:Dn}{body:Expr}{scope:Scope}{c T:Addr}{clos:List (Str×Addr)}{L:List (Pos×Str)}{bm:Addr}{ob:Obj}
abbrev lamO (X:Cx)(params:Dn)(body:Expr)(scope:Scope)(clos:List (Str×Addr))(c':Addr)(ctv:Value):Obj:=Hj "<lambda>" (X.env.qual++"<lambda>") params body scope clos ((X.mg "__name__").getD .none) c' ctv
def Yo(X:Cx)(params:Dn)(body:Expr)(scope:Scope)(clos:List (Str×Addr))(T:Addr)(L:List (Pos×Str)):TE:=λσ H Q=>
 Tab H T L/\∀f c' ctv H',H f=none->H' f=some (uz f (lamO X params body scope clos c' ctv))->H' c'=some (rq c' (X.env.qual++"<lambda>"))->Tab H' T L->KB T H H'->Q (.ref f) H'
def fP(mg:Str->Option Value)(base:Heap):Prop:=
 ∃bm o,mg "__builtins__"=some (.ref bm)/\bm≠HH/\base.get? bm=some o/\o.cls=.type "module"/\o.dict=some HH/\o.data=.plain
theorem Yp(hcode:X.env.code=.ref c)(C:E3 X.base c T)(hB:fP X.mg X.base)(hcl:I_ scope X.env=pure clos)(hdef:defaultsOf params X.env=([],[]))(hL:(pos,X.env.qual++"<lambda>")∈L)(ap:Apart L)(hfs:X.ex=[]):
  PE X (.Lambda params body scope pos) (Yo X params body scope clos T L):=by
 intro pins s σ H Q I ⟨⟨ps,hT,ht,htab⟩,h⟩
 refine PySem.W.kla_eval hdef ?_
 have UM:s.heap.get? T=some (B1 ps):=I.hok T _ hT
 have hg:s.heap.Ns AX X.mg:=I.ok.mod.glob.keeps I.bk
 have hgT:AX≠T:=λq=>by
  obtain⟨o,es,ep,e,hd,_⟩:=hg
  rw[q,UM] at e;cases e;cases hd
 have UN:s.heap.BuiltinsAt X.mg T:=by
  obtain⟨bm,o,h1,h2,h3,h4,h5,h6⟩:=hB
  refine⟨bm,o,h1,h2,λq=>?_,λq=>?_,I.bk _ _ h3,h4,h5,h6⟩
  ·obtain⟨o',es,ep,e,hd,_⟩:=I.ok.mod.glob
   rw[q,e] at h3;cases h3;rw[hd] at h6;cases h6
  ·have:=I.bk _ _ h3
   rw[q,UM] at this;cases this;cases h4
 have hCs:=C.keeps I.bk
 rcases htab _ hL with hn | ⟨c',hc',hHc⟩
 ·refine PySem.W.kla_makeFunction (mg:=X.mg) hcl I.ok.glob hg hcode hCs UM ht hn hgT UN λc' ctv h' tk hx hge hlt hrec htb=>?_
  have nc:H c'=none:=I.hok.fresh hge
  have szh:s.heap.objs.size<=h'.objs.size:=CZ (BX hge hlt)
  have nf:H h'.objs.size=none:=I.hok.fresh szh
  have fc:h'.objs.size≠c':=CQ hlt
  have Tc:T≠c':=aC hT nc
  have Tf:T≠h'.objs.size:=aC hT nf
  have fT:=C0 Tf
  have cT:=C0 Tc
  have keep:∀b o,b≠T->s.heap.get? b=some o->(h'.push (lamO X params body scope clos c' ctv)).get? b=some o:=λb o hb e=>AE _ (hx b o hb e)
  let H':Hp:=upd (upd (upd H T (.de (ps++ #[Ap pos.line,Ap pos.col,.ref c']))) c' (rq c' (X.env.qual++"<lambda>"))) h'.objs.size (uz h'.objs.size (lamO X params body scope clos c' ctv))
  have eT:H' T=some (.de (ps++ #[Ap pos.line,Ap pos.col,.ref c'])):=by show upd _ _ _ _=_;rw[aD Tf,aD Tc,af]
  have ec:H' c'=some (rq c' (X.env.qual++"<lambda>")):=by show upd _ _ _ _=_;rw[aD fc.symm,af]
  have ef:H' h'.objs.size=some (uz h'.objs.size (lamO X params body scope clos c' ctv)):=af
  have eo:∀b,b≠T->b≠c'->b≠h'.objs.size->H' b=H b:=λb h1 h2 h3=>by show upd _ _ _ _=_;rw[aD h3,aD h2,aD h1]
  have kb:KB T H H':=λb o e hb=>by rw[eo b hb (aC e nc) (aC e nf)];exact e
  have hnew:∀b o,s.heap.get? b=some o->b≠c'/\b≠h'.objs.size:=λb o e=>⟨Ac (AZ (AU e) hge),Ac (AZ (AU e) szh)⟩
  have Yq:=Tab.grown (H:=H) (H':=H') hL ap ht htab eT ec λb φ e=>kb b _ e λz=>by rw[z,hT] at e;cases e
  have hok':df X.prog X.w H' (h'.push (lamO X params body scope clos c' ctv)):=λb u e=>by
   by_cases b1:b=T
   ·subst b1
    rw[eT] at e;cases e
    exact AE _ htb
   by_cases b2:b=c'
   ·subst b2
    rw[ec] at e;cases e
    exact Yn (hrec.push _)
   by_cases b3:b=h'.objs.size
   ·subst b3
    rw[ef] at e;cases e
    exact P4 (AO _ rfl)
   rw[eo b b1 b2 b3] at e
   refine(I.hok b u e).stay (λd v hd q=>keep d v ?_ q) (λd q=>kb d _ q ?_) λd xs q=>kb d _ q ?_
   ·rintro rfl
    rcases hd with z | z
    ·exact b1 z.symm
    ·rw[hT] at z;cases z
   ·rintro rfl;rw[hT] at q;cases q
   ·rintro rfl;rw[hT] at q;cases q
  refine⟨.ref h'.objs.size,H',?_,rfl,h _ _ _ _ nf ef ec Yq kb⟩
  have ne_T:∀b,H b=none->b≠T:=λb n z=>by rw[z,hT] at n;cases n
  refine I.un ⟨λb o e n _ _=>keep b o (ne_T b n) e,λb o e n _ _=>⟨o.slots,keep b o (ne_T b n) e⟩,λb o e n _=>by rw[eo b (ne_T b n) (hnew b o e).1 (hnew b o e).2];exact n,λb o e _=>?_,λb xs e=>kb b _ e λz=>?_,λb o u e=>kb b _ e λz=>?_,λb qs e=>?_⟩ hok'
  ·by_cases hb:b=T
   ·subst hb;exact⟨_,AE _ htb⟩
   ·exact⟨o,keep b o hb e⟩
  ·rw[z,hT] at e;cases e
  ·rw[z,hT] at e;cases e
  ·by_cases hb:b=T
   ·subst hb
    rw[hT] at e;cases e
    exact⟨_,eT⟩
   ·exact⟨#[],by rw[kb b _ e hb];simp⟩
 ·refine PySem.W.kla_makeFunctionHit (mg:=X.mg) hcl I.ok.glob hg hcode hCs UM ht hc' UN λctv h' tk hk hsz=>?_
  have nf:H h'.objs.size=none:=I.hok.fresh hsz
  have keep:∀b o,s.heap.get? b=some o->(h'.push (lamO X params body scope clos c' ctv)).get? b=some o:=λb o e=>AE _ (hk b o e)
  have kb:Same H (upd H h'.objs.size (uz h'.objs.size (lamO X params body scope clos c' ctv))):=λb o e=>by rw[aD (aC e nf)];exact e
  refine⟨.ref h'.objs.size,upd H h'.objs.size (uz h'.objs.size (lamO X params body scope clos c' ctv)),I.laid keep hsz (P4 (AO _ rfl)),rfl,h _ c' ctv _ nf af (kb _ _ hHc) (Tab.same ⟨ps,hT,ht,htab⟩ kb) λb o e _=>kb b o e⟩
end
def dk(D:List Addr)(H:Hp):Hp:=λb=>if b∈D then none else H b
def fB(D:List Addr)(H H2:Hp):Hp:=λb=>if b∈D then H b else H2 b
theorem nI{D:List Addr}{H:Hp}{b:Addr}(h:b∈D):dk D H b=none:=if_pos h
theorem iF{D:List Addr}{H:Hp}{b:Addr}(h:b ∉ D):dk D H b=H b:=if_neg h
theorem MB{D:List Addr}{H H2:Hp}{b:Addr}(h:b∈D):fB D H H2 b=H b:=if_pos h
theorem dS{D:List Addr}{H H2:Hp}{b:Addr}(h:b ∉ D):fB D H H2 b=H2 b:=if_neg h
def wide(h:Heap)(H:Hp)(fs:List Addr):Heap:=PySem.W.hideAll (kU h H) fs
theorem P5(h:Heap)(H:Hp)(fs:List Addr):(wide h H fs).objs.size=h.objs.size:=(Hu _ _).trans (wO _ _)
theorem r6{h:Heap}{H:Hp}{fs:List Addr}{b:Addr}{o:Obj}(e:h.get? b=some o)(n:H b=none)(nf:b ∉ fs):(wide h H fs).get? b=some o:=IX _ (zi e n) nf
theorem Ww{h:Heap}{H:Hp}{fs:List Addr}{b:Addr}{o:Obj}(e:(wide h H fs).get? b=some o):h.get? b=some o/\H b=none:=L4 (Ir fs e)
theorem P6{h:Heap}{H:Hp}{fs:List Addr}{b:Addr}(hb:b∈fs):(wide h H fs).get? b=none:=Hv fs hb
theorem funFrames_base{h base base':Heap}:∀{l:List Env},h.FunFrames base l->(∀b∈frs l,base'.get? b=none)->h.FunFrames base' l
 | [],_,_=>trivial
 | env::r,⟨hk,⟨L,o,hf,hn,ho,hd⟩,hr⟩,k=>by
  have e:frs (env::r)=L::frs r:=by unfold frs;rw[EG,hf]
  exact⟨hk,⟨L,o,hf,k L (by rw[e];exact AQ),ho,hd⟩,funFrames_base hr λb hb=>k b (by rw[e];exact AM _ hb)⟩
structure Wide (X:Cx)(σ:St)(D:List Addr)(H:Hp)(base':Heap):Prop where
 sub:∀b o,X.base.get? b=some o->base'.get? b=some o
 mod:Mod X.K X.mg base'
 ext:∀a φ,a∈D->H a=some (.ext φ)->φ base'
 val:∀(i:Nat) (x:Str) (v:V),X.N[i]? =some x->σ[i]? =some (some v)->X.env.scope.names.lookup x=some .cell->∃c u,X.env.cells.lookup x=some c/\base'.IsCell c (some u)/\RelV v u
 cell:∀x c,X.env.cells.lookup x=some c->∃v,base'.IsCell c v
 inj:∀x y c,X.env.cells.lookup x=some c->X.env.cells.lookup y=some c->x=y
section
variable{X:Cx}{k:Nat}{f:Addr}{fd:Ay}{ps:List Str}{sp:Sp}{pins:List (Addr×Obj)}{σ:St}{H:Hp}{s:AH}{D:List Addr}
theorem MC(I:Inv X pins σ H s)(hfn:∀x,X.fn x=true)(hD:∀a∈D,∃φ,H a=some (.ext φ)):Wide X σ D H (wide s.heap (dk D H) (frs X.stack)):=by
 have nD:∀b,H b=none->b ∉ D:=λb n z=>by obtain⟨φ,e⟩:=hD b z;rw[n] at e;cases e
 have nfr:∀b o,X.base.get? b=some o->b ∉ frs X.stack:=λb o e z=>by
  rcases AV.mp (I.pU b z) with q | q
  ·have:=AU e
   rw[q] at this
   exact absurd (AZ this (A1 I.ok.pT I.ok.above)) (Bm _)
  ·exact I.ok.Xl e q
 have sub:∀b o,X.base.get? b=some o->(wide s.heap (dk D H) (frs X.stack)).get? b=some o:=λb o e=>
  r6 (I.bs b o e).1 (by rw[iF (nD b (I.bs b o e).2)];exact(I.bs b o e).2) (nfr b o e)
 have cellK:∀x c v,X.env.cells.lookup x=some c->s.heap.IsCell c v->(wide s.heap (dk D H) (frs X.stack)).IsCell c v:=λx c v e ⟨o,ho,hd⟩=>by
  refine⟨o,r6 ho (by rw[iF (nD c (I.gG x c e))];exact I.gG x c e) λz=>?_,hd⟩
  rcases AV.mp (I.pU c z) with q | q
  ·exact I.wR x c e q
  ·obtain⟨_,o',ho',_⟩:=I.ok.iW.mem q
   exact absurd (AZ (AU ho') (I.ok.cab x c (hfn x) e)) (Bm _)
 refine⟨sub,⟨I.ok.mod.qZ.keeps sub,I.ok.mod.glob.keeps sub,?_,I.ok.mod.nolimit.keeps sub⟩,λa φ ha e=>?_,λi x v h1 h2 h3=>?_,λx c e=>?_,I.ok.inj⟩
 ·obtain⟨mb,h1,h2⟩:=I.ok.mod.blt
  exact⟨mb,h1.keeps sub,h2⟩
 ·obtain⟨p,⟨o,ho⟩,st⟩:=I.hok a _ e
  refine st _ _ p λo' e'=>r6 e' (nI ha) λz=>?_
  rw[I.ni a z] at e;cases e
 ·obtain⟨m,_,hl⟩:=I.loc
  obtain⟨u,r,l⟩:=hl i x v h1 h2 (.inr (.inl h3))
  rcases l with⟨q,_⟩ | ⟨_,c,e,z⟩
  ·have q':X.env.scope.names.lookup x=some .local:=q
   rw[h3] at q';cases q'
  ·exact⟨c,u,e,cellK x c _ e z,r⟩
 ·obtain⟨v,z⟩:=I.cell x c e
  exact⟨v,cellK x c v e z⟩
theorem Wx{Q:VK}{us:List Value}{vs:List V}(I:Inv X pins σ H s)(hfn:∀x,X.fn x=true)(hD:∀a∈D,∃φ,H a=some (.ext φ))(F:aR X.prog X.w X.K X.mg (wide s.heap (dk D H) (frs X.stack)) bh k f fd ps sp)(hr:aL k X.A)
  (hb:Binds X.K fd ps []) (r:Vals vs us) (h:sp vs (dk D H) (λv H2=>(∀b∈D,H2 b=none)->Q v (fB D H H2)) E0):wpAny (model X.prog X.w) X.A (call (.ref f) us) (EP X pins σ Q) X.xe s:=by
 have W:=MC I hfn hD
 have hl:(us++[]).length=ps.length:=by rw[Bg,<-r.length];exact F.len _ _ _ _ h
 have uA:∀b u,H b=some u->(∀φ,u≠.ext φ)->dk D H b=some u:=λb u e ne=>by
  rw[iF λz=>?_];exact e
  obtain⟨φ,q⟩:=hD b z
  rw[e] at q;cases q;exact ne φ rfl
 have uU:∀b u,dk D H b=some u->b ∉ D/\H b=some u:=λb u e=>by
  by_cases hb:b∈D
  ·rw[nI hb] at e;cases e
  ·rw[iF hb] at e;exact⟨hb,e⟩
 have aff:df X.prog X.w (dk D H) s.heap:=λb u e=>(I.hok b u (uU b u e).2).stay (λ_ _ _ q=>q) (λd q=>uA d _ q λφ z=>nomatch z) λd xs q=>uA d _ q λφ z=>nomatch z
 have nU:∀b,H b=none->dk D H b=none:=λb n=>by
  by_cases hb:b∈D
  ·exact nI hb
  ·rw[iF hb];exact n
 have e0:rS X.prog X.w X.K X.mg (wide s.heap (dk D H) (frs X.stack)) X.A X.stack s (dk D H):=
  ⟨I.ok.frames,W.mod,λb o e=>Ww e,JN (P5 _ _ _),funFrames_base I.stack λb hb=>P6 hb,λb hb=>nU b (I.ni b hb),aff,I.bare⟩
 refine Iv (Dd (F.run X.A X.stack s (dk D H) ⟨us,[]⟩ us vs _ _ hr e0 (by have:=hb s us I.gX hl;rwa [Bg] at this) r h) λr s' hq=>?_)
 cases r with
 | error e=>exact hq.elim
 | ok fl=>
  cases fl with
  | next=>exact B9 hq
  | brk=>exact B9 hq
  | cont=>exact B9 hq
  | ret u=>
   obtain⟨v,H2,os,bare,un,hok,r,q⟩:=hq
   have inD:∀b,b∈D->∃φ o,H b=some (.ext φ)/\s.heap.get? b=some o/\s'.heap.get? b=some o/\H2 b=none:=λb hb=>by
    obtain⟨φ,e⟩:=hD b hb
    obtain⟨p,⟨o,ho⟩,st⟩:=I.hok b _ e
    refine⟨φ,o,e,ho,un.keep b o ho (nI hb) (λz=>?_) (by simp),un.free b o ho (nI hb) (by simp)⟩
    rw[I.ni b z] at e;cases e
   have zY:∀b u,H2 b=some u->b ∉ D:=λb u e z=>by obtain⟨_,_,_,_,_,n⟩:=inD b z;rw[n] at e;cases e
   have afg:df X.prog X.w (fB D H H2) s'.heap:=λb u e=>by
    by_cases hb:b∈D
    ·rw[MB hb] at e
     obtain⟨φ,o,e1,ho,ho',_⟩:=inD b hb
     rw[e1] at e;cases e
     obtain⟨p,_,st⟩:=I.hok b _ e1
     exact⟨st _ _ p λo2 e2=>by rw[ho] at e2;cases e2;exact ho',⟨o,ho'⟩,st⟩
    ·rw[dS hb] at e
     exact(hok b u e).stay (λ_ _ _ q=>q) (λd q=>by rw[dS (zY d _ q)];exact q) λd xs q=>by rw[dS (zY d _ q)];exact q
   have unR:Un (frs X.stack) [] H (fB D H H2) s.heap s'.heap:=by
    have nD:∀b,H b=none->b ∉ D:=λb n z=>by obtain⟨φ,e⟩:=hD b z;rw[n] at e;cases e
    refine⟨λb o e n h1 h2=>un.keep b o e (nU b n) h1 h2,λb o e n h1 h2=>un.slot b o e (nU b n) h1 h2,λb o e n h2=>by rw[dS (nD b n)];exact un.free b o e (nU b n) h2,un.there,λb xs e=>?_,λb o u e=>?_,λb qs e=>?_⟩
    ·have e1:=uA b _ e λφ z=>nomatch z
     rw[dS (uU b _ e1).1];exact un.tups b xs e1
    ·have e1:=uA b _ e λφ z=>nomatch z
     rw[dS (uU b _ e1).1];exact un.kS b o u e1
    ·have e1:=uA b _ e λφ z=>nomatch z
     rw[dS (uU b _ e1).1];exact un.kT b qs e1
   exact I.after ⟨v,_,os,bare,unR,afg,r,q λb hb=>by obtain⟨_,_,_,_,_,n⟩:=inD b hb;exact n⟩
end
section
variable{X:Cx}{x:Str}{p pos:Pos}{e:Expr}{es:List Expr}{t:TA}{k:Nat}{f:Addr}{fd:Ay}{ps:List Str}
def Yr(X:Cx)(k:Nat)(f:Addr)(fd:Ay)(ps:List Str)(t:TA):TE:=λσ H Q=>t σ H λvs H1=>∃D:List Addr,(∀a∈D,∃φ,H1 a=some (.ext φ))/\
 ∀base':Heap,Wide X σ D H1 base'->∃sp:Sp,aR X.prog X.w X.K X.mg base' bh k f fd ps sp/\sp vs (dk D H1) (λv H2=>(∀b∈D,H2 b=none)->Q v (fB D H1 H2)) E0
theorem r9(hfn:∀x,X.fn x=true)(hr:aL k X.A)(hg:Gl X x)(hm:X.mg x=some (.ref f))(hk:AL X.K (.ref f)=true)(hb:Binds X.K fd ps [])
  (ha:PA X (e::es) t) (hdb:(x == ("__debug__":Str))=false:=by decide) (he:BO (e::es) X.env=(false,eval e X.env)::BO es X.env:=by rfl) (hpl:(EH pos (BO es X.env)).any (·.1)=false:=by rfl):
  PE X (.Call (.Name x p) (e::es) [] pos) (Yr X k f fd ps t):=by
 intro pins s σ H Q I h
 refine CT (qH I hg hm ?_ hdb)
 refine Iw (h₀:=X.base) I.ok.mod.qZ hk (aK (ha pos pins s σ H _ I h) λus s1 ⟨vs,H1,I1,r,D,hD,q⟩=>⟨I1.gX,?_⟩) he hpl
 obtain⟨sp,F,hsp⟩:=q _ (MC I1 hfn hD)
 exact Wx I1 hfn hD F hr hb r hsp
end
def qK(ts:List Addr)(H:Hp):Prop:=(∀b,H b=none∨(∃o xs,H b=some (.jR o (.lst xs)))∨(b∈ts/\H b=some (.de #[])))/\∀b∈ts,H b=some (.de #[])
theorem qK.tab{ts:List Addr}{H:Hp}{T:Addr}{L:List (Pos×Str)}(x:qK ts H)(h:T∈ts):Tab H T L:=⟨#[],x.2 T h,trivial,λp _=>.inl rfl⟩
theorem P7{P:Af}{w:World}{K:AD}{mg mb:Str->Option Value}{CX:ub}{k:Nat}{fa a:Addr}{fd:Ay}{x:Str}{sp:Sp}{s₁:AH}{vs:List Value}{ns:List Int}{ts:List Addr}
  (KX:K.In s₁.heap) (hns:s₁.heap.Ns AX mg) (hb:s₁.heap.Ns HH mb) (hbb:∀x:Str,x≠"__name__"->mb x=Bj x) (hlim:s₁.heap.NoLimit) (hg:s₁.gens= #[])
  (ha:s₁.heap.get? a=some {cls:=.type "list",data:=.seq vs.toArray}) (hi:C2 vs ns) (hl:ns.length<=sizeLine) (hr:aL k IS)
  (hts:∀T∈ts,(∃c,E3 s₁.heap c T)/\s₁.heap.get? T=some (B1 #[])/\K.lookup T=none) (UN:fP mg s₁.heap)
  (F:∀base:Heap,K.In base->base.Ns AX mg->fP mg base->aR P w K mg base CX k fa fd [x] sp) (hbind:∀(s:AH) (u:Value),JG s fd ⟨[u],[]⟩ [(x,u)])
  (hsp:∀H:Hp,qK ts H->bG K H a (ns.map V.int)->sp [.ref a] H (λv _=>v=.bl true) λ_ _ _=>False)
  (hCX:∀H e s',CX [] H s₁ (λ_ _ _=>False) e s'->False):
  Em (model P w) IS (.call (.ref fa) ⟨[.ref a],[]⟩) (λr s'=>r=.ok (.ret (.bool true))/\OldK s₁.heap s'.heap/\s'.os=s₁.os/\GY s'.gens) s₁:=by
 have rv:=xc hi
 have lenV:=hi.length
 have aT:a ∉ ts:=λz=>by
  have:=(hts a z).2.1
  rw[ha] at this;cases this
 have core:∀H:Hp,qK ts H->bG K H a (ns.map V.int)->df P w H s₁.heap->(∀b,H b≠none->b=a∨b∈ts)->(H a≠none->K.lookup a=none)->
   Em (model P w) IS (.call (.ref fa) ⟨[.ref a],[]⟩) (λr s'=>r=.ok (.ret (.bool true))/\OldK s₁.heap s'.heap/\s'.os=s₁.os/\GY s'.gens) s₁:=by
  intro H hO hS hok hA hK
  have vC:∀{b:Addr} {o:Obj},s₁.heap.get? b=some o->H b=none->(kU s₁.heap H).get? b=some o:=λe n=>zi e n
  have mz:∀{b:Addr} {o:Obj},s₁.heap.get? b=some o->o≠{cls:=.type "list",data:=.seq vs.toArray}->o≠B1 #[]->H b=none:=λ{b o} e d1 d2=>by
   cases q:H b with
   | none=>rfl
   | some u=>
    rcases hA b (by rw[q];simp) with e' | e'
    ·subst e'
     rw[ha] at e;cases e
     exact absurd rfl d1
    ·have:=(hts b e').2.1
     rw[e] at this;cases this
     exact absurd rfl d2
  have UO:∀{b:Addr} {m:Str->Option Value},s₁.heap.Ns b m->(kU s₁.heap H).Ns b m:=λ{b m} ⟨o,es,ep,e,d,r⟩=>⟨o,es,ep,vC e (mz e (λz=>by rw[z] at d;cases d) λz=>by rw[z] at d;cases d),d,r⟩
  have hKb:K.In (kU s₁.heap H):=λb o e=>vC (KX b o e) (by
   cases q:H b with
   | none=>rfl
   | some u=>
    rcases hA b (by rw[q];simp) with e' | e'
    ·subst e'
     rw[hK (by rw[q];simp)] at e;cases e
    ·rw[(hts b e').2.2] at e;cases e)
  have hBb:fP mg (kU s₁.heap H):=by
   obtain⟨bm,o,h1,h2,h3,h4,h5,h6⟩:=UN
   exact⟨bm,o,h1,h2,vC h3 (mz h3 (λz=>by rw[z] at h4;exact absurd (Value.type.inj h4) (by decide)) λz=>by rw[z] at h4;cases h4),h4,h5,h6⟩
  have hM:Mod K mg (kU s₁.heap H):=⟨hKb,UO hns,⟨mb,UO hb,hbb⟩,let ⟨mc,h1,h2⟩:=hlim;⟨mc,UO h1,h2⟩⟩
  have e0:rS P w K mg (kU s₁.heap H) IS [] s₁ H:=⟨rfl,hM,λb o e=>L4 e,JN (wO _ _),trivial,λb hb=>absurd (show b∈([]:List Addr) from hb) (by simp),hok,.of_eq hg⟩
  refine Dd ((F _ hKb (UO hns) hBb).run IS [] s₁ H ⟨[.ref a],[]⟩ [.ref a] [.ref a] _ _ hr e0 (hbind s₁ (.ref a)) (.cons rfl .nil) (hsp H hO hS)) λr s' h=>?_
  cases r with
  | error e=>exact(hCX H e s' h).elim
  | ok fl=>
   cases fl with
   | next=>exact B9 h
   | brk=>exact B9 h
   | cont=>exact B9 h
   | ret u=>
    obtain⟨v,H',os,bare,un,hok',r',q⟩:=h
    have q':v=.bl true:=q
    subst q'
    obtain rfl:u=Fu true:=r'
    refine⟨rfl,⟨λb o e=>?_,λb o e=>un.there b o e (by simp)⟩,os,bare⟩
    cases q:H b with
    | none=>exact .inl (un.keep b o e q (by intro z;exact absurd (show b∈([]:List Addr) from z) (by simp)) (by simp))
    | some u=>
     rcases hO.1 b with z | ⟨ob,xs,z⟩ | ⟨hb,z⟩
     ·rw[q] at z;cases z
     ·have z2:=un.kS b ob _ z
      obtain⟨e1,_⟩:=hok b _ z
      obtain⟨e2,_⟩:=hok' b _ z2
      rw[e] at e1;cases e1
      exact .inl e2
     ·obtain⟨more,z2⟩:=un.kT b _ z
      have e2:s'.heap.get? b=some (B1 (#[]++more)):=hok' b _ z2
      obtain⟨⟨c,hc⟩,e3,_⟩:=hts b hb
      have e4:o=B1 #[]:=by rw[e] at e3;exact AN e3
      subst e4
      exact .inr (.inl ⟨(hc.tab e3).isCodeTable,rfl, #[],more,rfl,e2⟩)
 have tne:∀T∈ts,T≠a:=λT hT z=>aT (z▸hT)
 cases hk:K.lookup a with
 | some o=>
  have e:=KX a o hk
  rw[ha] at e
  cases e
  refine core (λb=>if b∈ts then some (.de #[]) else none) ⟨λb=>?_,λb hb=>if_pos hb⟩ (.inr ⟨_,vs.toArray,_,hk,rfl,rfl,rfl,by rw[AY,lenV];exact hl,by simpa using rv⟩) (λb u z=>?_) (λb z=>?_) λz=>absurd (if_neg aT) z
  ·by_cases hb:b∈ts
   ·exact .inr (.inr ⟨hb,if_pos hb⟩)
   ·exact .inl (if_neg hb)
  ·by_cases hb:b∈ts
   ·have z':=(if_pos hb).symm.trans z
    cases z'
    exact(hts b hb).2.1
   ·have z':=(if_neg hb).symm.trans z
    cases z'
  ·by_cases hb:b∈ts
   ·exact .inr hb
   ·exact absurd (if_neg hb) z
 | none=>
  have eA:∀b,b=a->(if b∈ts then some (HO.de #[]) else if b=a then some (HO.jR {cls:=.type "list",data:=.seq vs.toArray} (.lst (ns.map V.int))) else none)=some (HO.jR {cls:=.type "list",data:=.seq vs.toArray} (.lst (ns.map V.int))):=λb hb=>by
   rw[if_neg (hb▸aT),if_pos hb]
  have eN:∀b,b ∉ ts->b≠a->(if b∈ts then some (HO.de #[]) else if b=a then some (HO.jR {cls:=.type "list",data:=.seq vs.toArray} (.lst (ns.map V.int))) else none)=none:=λb h1 h2=>by
   rw[if_neg h1,if_neg h2]
  refine core (λb=>if b∈ts then some (.de #[]) else if b=a then some (.jR {cls:=.type "list",data:=.seq vs.toArray} (.lst (ns.map V.int))) else none) ⟨λb=>?_,λb hb=>if_pos hb⟩ (.inl (.inr ⟨{cls:=.type "list",data:=.seq vs.toArray},eA a rfl⟩)) (λb u z=>?_) (λb z=>?_) λ_=>hk
  ·by_cases hb:b∈ts
   ·exact .inr (.inr ⟨hb,if_pos hb⟩)
   by_cases hb2:b=a
   ·exact .inr (.inl ⟨_,_,eA b hb2⟩)
   ·exact .inl (eN b hb hb2)
  ·by_cases hb:b∈ts
   ·have z':=(if_pos hb).symm.trans z
    cases z'
    exact(hts b hb).2.1
   by_cases hb2:b=a
   ·have z':=(eA b hb2).symm.trans z
    cases z'
    subst hb2
    exact⟨ha,by rw[AB];exact hl,vs,_,rv,ha⟩
   ·have z':=(eN b hb hb2).symm.trans z
    cases z'
  ·by_cases hb:b∈ts
   ·exact .inr hb
   by_cases hb2:b=a
   ·exact .inl hb2
   ·exact absurd (eN b hb hb2) z
theorem SD{l:Hk}{n k:Nat}{q:Af}{loose:List Str}{XP:(Str->Option Value)->Heap->Prop}{YP:World->Heap->Prop}{d:DefRec}{K:Hz->AD}{sp:World->List Addr->Sp}{x:Str}
  (hn:l.most=some n) (hn2:n<=sizeLine) (hdf:d.params.defaults=[]) (hr:aL k IS)
  (hY:∀(w:World) (h:Heap),YP w h->(K w.params).In h)
  (F:∀(w:World) (mg:Str->Option Value) (fa:Addr) (h:Heap),(K w.params).In h->h.Ns AX mg->mg d.name=some (.ref fa)->YP w h->
   ∃(fd:Ay) (ts:List Addr),(∀T∈ts,(∃c,E3 h c T)/\h.get? T=some (B1 #[])/\(K w.params).lookup T=none)/\(∀(s:AH) (u:Value),JG s fd ⟨[u],[]⟩ [(x,u)])/\
    ∀base:Heap,(K w.params).In base->base.Ns AX mg->fP mg base->aR l.prog w (K w.params) mg base bh k fa fd [x] (sp w ts))
  (hsp:∀(w:World) (H:Hp) (a:Addr) (ns:List Int) (ts:List Addr),ns.length<=n->qK ts H->bG (K w.params) H a (ns.map V.int)->sp w ts [.ref a] H (λv _=>v=.bl true) λ_ _ _=>False):
  PySem.W.WalkO q loose XP YP l.row.toRowW d [] (λf vs=>Jd f vs):=by
 refine Att.Lr hn hdf λw s₀ s₁ mg mb fa o pm cd doc a vs ns G Y ho hd hcd hmg hobj hints hlen hg=>?_
 have KX:=hY w _ Y
 obtain⟨fd,ts,h1,hb,hF⟩:=F w mg fa _ KX G.T.g hmg Y
 obtain⟨bm,ob,b1,b2,b3,b4⟩:=G.T.bmain
 exact P7 KX G.T.g G.T.b G.T.builtins G.T.nolimit hg hobj hints (A1 hlen hn2) hr h1 ⟨bm,ob,b1,b2,b3,b4⟩ hF hb (λH hO hS=>hsp w H a ns ts hlen hO hS) λH e s'=>id
theorem kG:entryFor table "dict.update.loop"=some Builtin.«dict.update.loop» :=entryFor_of_tree (by kernel_rfl)
theorem ft:plainId "dict.update.loop"=true:=by decide+kernel
section
variable{P:Af}{w:World}{A:A0}{R:JS->AH->Prop}{I D:Addr}{fp wr:List Addr}{G:Array Fv->Array Fv->Prop}{n:Nat}{Pv:Nat->Value->Prop}{St:Nat->AH->Prop}
def Wy(P:Af)(w:World)(h:Heap)(D:Addr)(wr:List Addr)(Pv:Nat->Value->Prop)(more:List (Key×Value)):Prop:=∀i v,Pv i v->∃p k key u o m,v=.ref p/\more[i]? =some (k,u)/\(bb P w).is k key=true/\h.get? p=some o/\o.cls=.type "tuple"/\o.data=.seq #[key,u] m/\p≠D/\p ∉ wr
theorem P8(W:WalksS P w A.in1 I fp wr G n Pv St)(hDf:D ∉ fp)(more:List (Key×Value))(hml:more.length=n)(hb:n<sizeLine):
  ∀(k i:Nat) (j:Int) (s:AH),n-i=k->i<=n->St i s->Wy P w s.heap D wr Pv more->s.heap.DictOf (bb P w) D (I0 [] (more.take i))->
   (∀s',Moved (D::wr) G s s'->s'.heap.DictOf (bb P w) D (I0 [] more)->R (.ok (.ret .none)) s')->
   Em (model P w) A (.builtin "dict.update.loop" ⟨[.ref D,.ref I,Ap j,.none],[]⟩) R s:=by
 have hDw:D ∉ wr:=λz=>hDf (W.sub _ z)
 have sub:∀b∈wr,b∈D::wr:=λb z=>AM _ z
 intro k
 induction k with
 | zero=>
  intro i j s hk hi st hp hd hR
  have e:i=n:=by omega
  subst e
  refine Bx kG ?_
  rw[Bf ft]
  show wpAny (model P w) A.in1 (C1 (.ref I) >>= _) _ _ s
  refine AA (W.done s _ _ st λs' mv=>?_)
  show wpAny (model P w) A.in1 (Builtin.Dict.addKeywords D [] >>= _) _ _ s'
  refine AA (AG ?_)
  refine AG (hR s' (mv.mono sub) ?_)
  obtain⟨o,es,ep,ho,r⟩:=hd
  rw[BD (by omega)] at r
  exact⟨o,es,ep,mv.heap D o hDw ho,r⟩
 | succ k ih=>
  intro i j s hk hi st hp hd hR
  have lt:i<n:=by omega
  refine Bx kG ?_
  rw[Bf ft]
  show wpAny (model P w) A.in1 (C1 (.ref I) >>= _) _ _ s
  refine AA (W.item i s _ _ lt st λv s' hv st' mv=>?_)
  obtain⟨p,kk,key,u,o,m,rfl,em,hkey,ho,hc,hdat,pD,pw⟩:=hp i v hv
  have ho':=mv.heap p o pw ho
  have hd':s'.heap.DictOf (bb P w) D (I0 [] (more.take i)):=by
   obtain⟨od,es,ep,hod,r⟩:=hd
   exact⟨od,es,ep,mv.heap D od hDw hod,r⟩
  have hT:s'.TypeIs (.ref p) "tuple":=⟨o,ho',hc⟩
  have hl:(I0 [] (more.take i)).length<=sizeLine:=by
   have:=merged_length_le ([]:List (Key×Value)) (more.take i)
   rw[Az] at this
   simp at this
   omega
  refine AA (BE ?_)
  refine AA (wpAny_tryCatch ?_)
  unfold Builtin.Dict.pairItems
  refine AA (Cm hT ?_)
  show wpAny _ _ (FK (.ref p) >>= _) _ _ _
  refine AA (Cb ho' hdat (AG ?_))
  show wpAny _ _ (holding [key,u] (dictSet D key u)) _ _ _
  refine BE (wpAny_dictSet_pairs (hsz:=hl) hkey hd' λh' hd2 hs=>?_)
  refine AG ⟨CO ft _,ih (i+1) (j+1) _ (by omega) lt (W.frame _ s' h' _ st' (B8 _) λb hb o q=>(hs.2 b (λz=>hDf (z▸hb))).trans q) (λi2 v2 hv2=>?_) ?_ λs2 mv2 d2=>?_⟩
  ·obtain⟨p2,k2,key2,u2,o2,m2,e1,e2,e3,e4,e5,e6,e7,e8⟩:=hp i2 v2 hv2
   exact⟨p2,k2,key2,u2,o2,m2,e1,e2,e3,(hs.2 p2 e7).trans (mv.heap p2 o2 e8 e4),e5,e6,e7,e8⟩
  ·show h'.DictOf (bb P w) D (I0 [] (more.take (i+1)))
   rw[merged_take_succ [] more i (kk,u) em]
   exact hd2
  ·exact hR s2 (Gg W.gtrans ((mv.mono sub).then_heap (B8 _) λb o hb q=>(hs.2 b (λz=>hb (z▸AQ))).trans q) mv2) d2
end
section
variable{X:Cx}{o e f:Expr}{apos cpos:Pos}{td ty tx:TE}
def Ys(tk tv:TE):TE:=λσ H Q=>∀p,H p=none->tk σ (upd H p (.dT [])) λx H1=>tv σ H1 λy H2=>H2 p=some (.dT [])/\∃b ks,x=.ref b/\H2 b=some (.tup (ks.map kV))/\Q (.ref p) (upd H2 p (.dT [(ks,y)]))
theorem SE{pos:Pos}{k v:Expr}{tk tv:TE}(hu:X.A.units<cLine)(hk:PE X k tk)(hv:PE X v tv):PE X (.Dict [some k] [v] pos) (Ys tk tv):=by
 intro pins s σ H Q I q
 have hn:=I.hok.fresh (AK s.heap.objs.size)
 have I1:=I.laid (a:=s.heap.objs.size) (o:=.dT []) (h':=s.heap.push {cls:=.type "dict",data:=.dict #[]}) (t':=s.toks) (λ_ _ q=>AE _ q) (AK _) (zE s.heap I.big)
 have hall:([some k]:List (Option Expr)).all (·.isSome)=true:=rfl
 have hl:([some k]:List (Option Expr)).length=[v].length:=rfl
 rw[arm_eval_Dict,zip_pairTrees [some k] [v] X.env pos hall hl,dictDisplay_pairs _ (λz=>by
  have:=pairTrees_length [some k] [v] X.env pos hall hl
  rw[z] at this;cases this) (by rw[pairTrees_length [some k] [v] X.env pos hall hl];show 1<17;decide)]
 refine AA (Gp (AA ?_))
 unfold subDict
 refine AA (wpAny_alloc ?_)
 refine AA (BE ?_)
 rw[if_pos (by rw[pairTrees_length [some k] [v] X.env pos hall hl];show 1<=15;decide)]
 have hp:Pt X pos [some k] [v] [(tk,tv)]:=rW hk hv vp
 refine AA (aK (hp pins _ σ _ (λps H2=>match ps with | [(x,y)]=>H2 s.heap.objs.size=some (.dT [])/\∃b ks,x=.ref b/\H2 b=some (.tup (ks.map kV))/\Q (.ref s.heap.objs.size) (upd H2 s.heap.objs.size (.dT [(ks,y)])) | _=>False) I1 (q _ hn)) λws s2 ⟨ps,H2,I2,rel,q2⟩=>?_)
 cases rel with
 | nil=>exact B9 q2
 | @cons p0 w0 ps' ws' r0 rt=>
  cases rt with
  | cons r1 rt1=>exact B9 q2
  | nil=>
   obtain⟨e,b,ks,eb,hb,q3⟩:=q2
   obtain⟨x0,y0⟩:=p0
   obtain⟨kv,vv⟩:=w0
   cases eb
   cases(show kv=A5 b from r0.1)
   obtain⟨z,hd,xs,rx,dd⟩:=UD I2.hok e
   cases rx
   refine BE (AA ?_)
   rw[Dl]
   refine AA (AA (wpAny_dictSet_heap (knd:=FG (bb X.prog X.w)) (k:=ks) (xs:=[]) (show(FG (bb X.prog X.w)).room X.A from hu) (lu I2.hok hb) dd (λh' uh hs=>AG ?_) (BI _)))
   dsimp only
   rw[GO]
   refine AG (AG (AG (AG ?_)))
   obtain⟨q',es,ep,hq,h2,h3,h4,_,h5⟩:=uh
   have new:bA X.prog X.w (upd H2 s.heap.objs.size (.dT [(ks,y0)])) h' s.heap.objs.size (.dT [(ks,y0)]):=by
    refine⟨by show 1<=sizeLine;decide,hd,_,(KT.put (.nil:KT H2 [] []) ks hb r0.2).keeps λc ys ec=>?_,q',es,ep,hq,h2,h3,h4,h5⟩
    rw[aD (iV ec e (λz=>nomatch z))]
    exact ec
   exact⟨.ref s.heap.objs.size,_,qI I2 (by rw[e];exact By) hs ⟨q',hq⟩ new,rfl,q3⟩
end
theorem NY{K:AD}{a:Addr}{xs:List V}{g:TG}{tt:TT}{te:TE}{D:Addr}{σ:St}{H:Hp}{R:Hp->Prop}(Pv:Nat->St->Hp->Prop)(h0:Pv 0 σ H)(hl:∀i σ H,i<=xs.length->Pv i σ H->aY K H a xs)
  (hs:∀i x p σ H,xs[i]? =some x->Pv i σ H->H p=none->g (.ref p) σ (upd H p (.tup [.int i,x])) λσ2 H2=>tt σ2 H2 λb H3=>if b=true then te σ2 H3 λy H4=>∃ys,H4 D=some (.lst ys)/\ys.length<sizeLine/\Pv (i+1) σ2 (upd H4 D (.lst (ys++[y]))) else Pv (i+1) σ2 H3)
  (hd:∀σ H,Pv xs.length σ H->R H):oy (vA K a) g tt te D σ H R:=by
 refine⟨λi m σ H=>m=xs.length-i/\i<=xs.length/\Pv i σ H,⟨xs.length,by simp,BI _,h0⟩,?_⟩
 rintro i m σ H ⟨rfl,hi,p⟩
 have q:=hl i σ H hi p
 by_cases hlt:i<xs.length
 ·refine .inr ⟨⟨xs,xs[i],q,by simp[hlt]⟩,Pv (i+1),λσ' H' p'=>⟨xs.length-(i+1),by omega,rfl,hlt,p'⟩,λx H' y=>?_⟩
  obtain⟨z,pa,hz,hn,rfl,rfl⟩:=y
  exact hs i z pa σ H (hz xs q) p hn
 ·have e:i=xs.length:=by omega
  subst e
  exact .inl ⟨⟨xs,q,AK _⟩,hd σ H p⟩
theorem Yu{c:TT}{tb:TS}{D:Ends}{σ:St}{H:Hp}(W:Nat->St->Hp->Prop)(h0:∃m,W m σ H)
  (hs:∀m σ H,W m σ H->c σ H λb H1=>if b=true then tb {D with nx:=λσ' H'=>∃m',m'<m/\W m' σ' H',ct:=λσ' H'=>∃m',m'<m/\W m' σ' H',bk:=D.nx} σ H1 else D.nx σ H1)
  (mono:∀σ H Q Q',(∀b H1,Q b H1->Q' b H1)->c σ H Q->c σ H Q'):pX c tb D σ H:=by
 refine⟨W,h0,λm σ H w=>mono σ H _ _ (λb H1 q=>?_) (hs m σ H w)⟩
 cases b with
 | true=>exact⟨_,λσ' H' p=>p,q⟩
 | false=>exact q
structure js (K:AD)(x qual:Str)(st:Stmt)(f:Addr)(fd:Ay)(cd:Value):Prop where
 ex:∃(oc:Value) (od:Option Addr) (dV kV doc pm:Value) (an:Option Addr) (ct:Value) (osl:Array (Option Value)),
  fd=Aa x qual (aF st) (aE st) (ah st) dV kV doc pm an cd ct/\K.lookup f=some ⟨oc,od,.func fd,osl⟩/\Ab K cd qual=true
 kp:AL K (.ref f)=true
section
variable{P:Af}{w:World}{K:AD}{mg:Str->Option Value}{base:Heap}
theorem js.ok{x qual:Str}{st:Stmt}{f:Addr}{fd:Ay}{cd:Value}{N ps:List Str}{k:Nat}{sp:Sp}(F:js K x qual st f fd cd)(S:aN N ps (ah st))(len:∀vs H Q E,sp vs H Q E->vs.length=ps.length)
  (hbody:∀(A:A0) (outer:List Env) (s:AH) (H:Hp) (vs:List V) (Q:VK) (E:XK),aL k (A.deeper (Fe qual (ah st) s.heap.objs.size f cd))->sp vs H Q E->
   ∃t,mx (kZ bh P w K mg base N qual (ah st) f cd A outer s H E).q_ (aE st) t/\t {nx:=λ_ H'=>Q .non H',rt:=Q} (start N vs) H):aR P w K mg base bh (k+1) f fd ps sp:=by
 obtain⟨oc,od,dV,kV,doc,pm,an,ct,osl,rfl,lk,hcd⟩:=F.ex
 refine UA lk hcd S len λA outer s H vs Q E hr hsp=>?_
 obtain⟨t,h,q⟩:=hbody A outer s H vs Q E hr hsp
 exact⟨t,h.q_,q⟩
theorem iP{x qual:Str}{st:Stmt}{f:Addr}{oc:Value}{od an:Option Addr}{osl:Array (Option Value)}{dV kV doc pm cd ct:Value}(l:K.lookup f=some ⟨oc,od,.func (Aa x qual (aF st) (aE st) (ah st) dV kV doc pm an cd ct),osl⟩)
  (c:Ab K cd qual=true) (k:AL K (.ref f)=true):js K x qual st f (Aa x qual (aF st) (aE st) (ah st) dV kV doc pm an cd ct) cd:=⟨⟨oc,od,dV,kV,doc,pm,an,ct,osl,rfl,l,c⟩,k⟩
end
section
variable{X:Cx}{pos:Pos}{params:Dn}{body:Expr}{scope:Scope}{c T:Addr}{clos:List (Str×Addr)}{L:List (Pos×Str)}
theorem kO(hcode:X.env.code=.ref c)(hC:CV X.K c T=true)(hB:fP X.mg X.base)(hcl:I_ scope X.env=pure clos)(hdef:defaultsOf params X.env=([],[]))(hL:(pos,X.env.qual++"<lambda>")∈L)(ap:Apart L)(hfs:X.ex=[]):
  PE X (.Lambda params body scope pos) (Yo X params body scope clos T L):=λpins s σ H Q I h=>Yp hcode (Cf I.ok.mod.qZ hC) hB hcl hdef hL ap hfs pins s σ H Q I h
theorem iQ{K:AD}{c T:Addr}{od:Option Addr}{vs:Array Value}{sl:Array (Option Value)}(lc:K.lookup c=some ⟨.type "code",od,.fields vs,sl⟩)
  (e:((match (vs[11]? :Option Value) with | some (.ref P')=>P' == T | _=>false)&&(match vs.getD 18 .none with | .str _ _=>true | _=>false)&&(match vs.getD 7 .none with | .int _ _=>true | _=>false)&&
   (match vs.getD 9 .none with | .bool _=>true | _=>false)&&(match vs.getD 10 .none with | .int _ _=>true | _=>false)&&c != T)=true):CV K c T=true:=by
 unfold CV
 rw[lc]
 exact e
end
def kvsOf{α κ:Type}(key:α->κ)(xs:List α):List (κ×V):=xs.zipIdx.map λp=>(key p.1,V.int ((p.2:Nat):Int))
section
variable{α κ:Type}[DecidableEq κ]{key:α->κ}
theorem xy(xs:List α):(kvsOf key xs).length=xs.length:=by unfold kvsOf;rw[AB,List.length_zipIdx]
theorem oG(xs:List α)(x:α):kvsOf key (xs++[x])=kvsOf key xs++[(key x,V.int ((xs.length:Nat):Int))]:=by
 unfold kvsOf
 rw[List.zipIdx_append,AW]
 simp
theorem qi:∀{kvs:List (κ×V)} {k:κ},(∀p∈kvs,p.1≠k)->bC kvs k=none
 | [],_,_=>rfl
 | p::r,k,h=>by rw[b_ (h p AQ)];exact qi λq hq=>h q (AM _ hq)
theorem i5(inj:∀a b,key a=key b->a=b){xs:List α}{x:α}(h:x ∉ xs):bC (kvsOf key xs) (key x)=none:=by
 refine qi λp hp e=>h ?_
 unfold kvsOf at hp
 obtain⟨q,hq,rfl⟩:=As.mp hp
 obtain⟨y,i⟩:=q
 have:=(List.mem_zipIdx hq).2.2
 have e':=inj _ _ e
 rw[<-e',this]
 exact Cj ..
theorem sj{kvs more:List (κ×V)}{k:κ}(h:bC kvs k=none):bC (kvs++more) k=bC more k:=by
 induction kvs with
 | nil=>rfl
 | cons p r ih=>
  by_cases e:p.1=k
  ·rw[cy e] at h;cases h
  ·rw[b_ e] at h
   show bC (p::(r++more)) k=_
   rw[b_ e];exact ih h
theorem sk{kvs more:List (κ×V)}{k:κ}{v:V}(h:bC kvs k=some v):bC (kvs++more) k=some v:=by
 induction kvs with
 | nil=>cases h
 | cons p r ih=>
  by_cases e:p.1=k
  ·rw[cy e] at h
   show bC (p::(r++more)) k=_
   rw[cy e];exact h
  ·rw[b_ e] at h
   show bC (p::(r++more)) k=_
   rw[b_ e];exact ih h
theorem oH(inj:∀a b,key a=key b->a=b):∀(n:Nat) {xs:List α} {i:Nat} {x:α},xs.length=n->xs.Nodup->xs[i]? =some x->bC (kvsOf key xs) (key x)=some (.int ((i:Nat):Int))
 | 0,xs,i,x,hl,_,h=>by
  have:=(AF.mp h).1
  omega
 | n+1,xs,i,x,hl,nd,h=>by
  rcases List.eq_nil_or_concat xs with rfl | ⟨ys,y,e⟩
  ·simp at hl
  rw[List.concat_eq_append] at e
  subst e
  rw[oG]
  have hy:y ∉ ys:=λz=>((Cs.mp nd).2.2 y z y (Ad.mpr rfl)) rfl
  by_cases hi:i<ys.length
  ·rw[Am hi] at h
   exact sk (oH inj n (by simpa using hl) (Cs.mp nd).1 h)
  ·have hb:=(AF.mp h).1
   rw[AR] at hb
   have hi2:i=ys.length:=by simp at hb;omega
   subst hi2
   rw[Ag (AK _),B_] at h
   have:=AN h
   subst this
   rw[sj (i5 inj hy)]
   exact cy rfl
end
structure qL (α:Type) where
 Rep:α->V->Hp->Prop
 Num:Hp->Addr->List α->Prop
 same:∀{x:α} {v:V} {H H':Hp},Rep x v H->bq H H'->Rep x v H'
 keep:∀{H H':Hp} {D:Addr} {xs:List α},Num H D xs->H' D=H D->Num H' D xs
 isD:∀{H:Hp} {D:Addr} {xs:List α},Num H D xs->∃o,H D=some o/\(∀l,o≠.lst l)/\(∀l,o≠.tup l)
 there:∀{H:Hp} {D:Addr} {xs:List α} {i:Nat} {x:α} {v:V},Num H D xs->Rep x v H->xs.Nodup->xs[i]? =some x->gU H D v (some (.int ((i:Nat):Int)))
 miss:∀{H:Hp} {D:Addr} {xs:List α} {x:α} {v:V},Num H D xs->Rep x v H->x ∉ xs->gU H D v none
 put:∀{H:Hp} {D:Addr} {xs:List α} {x:α} {v:V},Num H D xs->Rep x v H->x ∉ xs->xs.length<sizeLine->∃H',j_ H D v (.int ((xs.length:Nat):Int)) H'/\KB D H H'/\Num H' D (xs++[x])
 vD:∀{X:Cx} {pos kpos cpos:Pos} {x:Str} {i j:Nat},X.A.units+1<cLine->PE X (.Name x kpos) (Ni i)->PE X (.Constant (.int 0) j cpos) (tC (.int 0))->PE X (.Dict [some (.Name x kpos)] [.Constant (.int 0) j cpos] pos)
  (λσ H Q=>∃y v,σ[i]? =some (some v)/\Rep y v H/\∀D H',H D=none->Same H H'->Num H' D [y]->Q (.ref D) H')
theorem qM(a b:Nat)(h:(DK (a:Int):Key)=DK (b:Int)):a=b:=by injection h with h;omega
def NZ:qL Nat where
 Rep:=λx v _=>v=.int (x:Int)
 Num:=λH D xs=>H D=some (.dK (kvsOf (λ(x:Nat)=>(DK (x:Int):Key)) xs))
 same:=λh _=>h
 keep:=λh e=>e.trans h
 isD:=λh=>⟨_,h,(λl z=>by cases z),(λl z=>by cases z)⟩
 there:=λ{H D xs i x v} h r nd e=>by
  subst r
  exact .inl ⟨_,DK (x:Int),.inl h,rfl,(oH qM _ rfl nd e).symm⟩
 miss:=λ{H D xs x v} h r n=>by
  subst r
  exact .inl ⟨_,DK (x:Int),.inl h,rfl,(i5 qM n).symm⟩
 put:=λ{H D xs x v} h r n hl=>by
  subst r
  refine⟨_,j_.k (k:=DK (x:Int)) h (by rw[xy];exact hl),KB.write,?_⟩
  rw[af,zD _ (i5 qM n),oG]
 vD:=λ{X pos kpos cpos x i j} hu h1 h2 pins s σ H Q I q=>by
  obtain⟨y,v,hv,rfl,q⟩:=q
  refine Mj (rW h1 h2 vp) rfl rfl (λz=>nomatch z) (show 1<=15 by decide) pins s σ H Q I λp hp=>⟨_,hv,?_⟩
  refine⟨af,[(DK (y:Int),.int 0)],rfl,(show 1<=15 by decide),q p _ hp ((Same.new hp).kbn hp KB.write) ?_⟩
  rw[af];rfl
def mU(l:List Nat):List Key:=l.map λ(x:Nat)=>(DK (x:Int):Key)
theorem sr(a b:List Nat)(h:mU a=mU b):a=b:=by
 unfold mU at h
 induction a generalizing b with
 | nil=>cases b with
  | nil=>rfl
  | cons y b=>cases h
 | cons x a ih=>cases b with
  | nil=>cases h
  | cons y b=>
   rw[Aw,Aw] at h
   injection h with h1 h2
   rw[qM _ _ h1,ih b h2]
theorem qN(l:List Nat):(mU l).map kV=(l.map λ(x:Nat)=>V.int (x:Int)):=by unfold mU;rw[B'];rfl
def qj:qL (List Nat) where
 Rep:=λx v H=>∃p,v=.ref p/\H p=some (.tup (x.map λ(z:Nat)=>V.int (z:Int)))
 Num:=λH D xs=>H D=some (.dT (kvsOf mU xs))
 same:=λ{x v H H'} ⟨p,e,h⟩ k=>⟨p,e,k _ _ h⟩
 keep:=λh e=>e.trans h
 isD:=λh=>⟨_,h,(λl z=>by cases z),(λl z=>by cases z)⟩
 there:=λ{H D xs i x v} h ⟨p,r,hp⟩ nd e=>by
  subst r
  exact .inr ⟨_,mU x,p,.inl h,rfl,by rw[qN];exact hp,(oH sr _ rfl nd e).symm⟩
 miss:=λ{H D xs x v} h ⟨p,r,hp⟩ n=>by
  subst r
  exact .inr ⟨_,mU x,p,.inl h,rfl,by rw[qN];exact hp,(i5 sr n).symm⟩
 put:=λ{H D xs x v} h ⟨p,r,hp⟩ n hl=>by
  subst r
  refine⟨_,j_.t (k:=mU x) h (by rw[qN];exact hp) (by rw[xy];exact hl),KB.write,?_⟩
  rw[af,zD _ (i5 sr n),oG]
 vD:=λ{X pos kpos cpos x i j} hu h1 h2 pins s σ H Q I q=>by
  obtain⟨y,v,hv,⟨p,rfl,hp⟩,q⟩:=q
  refine SE (Nat.lt_of_succ_lt hu) h1 h2 pins s σ H Q I λD hD=>⟨_,hv,?_⟩
  have sD:=Same.new (o:=.dT []) hD
  refine⟨af,p,mU y,rfl,by rw[qN];exact sD _ _ hp,q D _ hD (sD.kbn hD KB.write) ?_⟩
  rw[af];rfl
theorem dR.mk'{ps aI:List Str}{scope:Scope}(h1:scope.kind=.function)(h2:scope.isCoroutine=false)(h3:scope.isGenerator=false)(h4:∀x∈scope.names,x.2≠.cell)(h5:∀x∈ps,scope.names.lookup x=some .local)(h6:∀x∈aI,scope.names.lookup x=some .free)
  (h7:∀p∈scope.names,p.2=.free->p.1∈aI) (h8:(ps++aI).Nodup):dR ps aI scope:=⟨h1,h2,h3,h4,h5,h6,λx e=>h7 (x,.free) (A9 e) rfl,h8⟩
def FnAt(P:Af)(w:World)(K:AD)(mg:Str->Option Value)(base:Heap)(k:Nat)(f:Addr)(n:Nat)(sp:Sp):Prop:=
 ∃(o:Obj) (fd:Ay) (ps:List Str),base.get? f=some o/\o.data=.func fd/\ps.length=n/\(∀us:List Value,us.length=ps.length->G4 fd ⟨us,[]⟩=pure (ps.zip us))/\aR P w K mg base bh k f fd ps sp
theorem FnAt.lam{X:Cx}{σ:St}{D:List Addr}{H:Hp}{base':Heap}{params:Dn}{body:Expr}{scope:Scope}{clos:List (Str×Addr)}{c' f:Addr}{ctv:Value}{ps aI:List Str}{fvs:List V}{k:Nat}{sp:Sp}(W:Wide X σ D H base')
  (hf:H f=some (uz f (lamO X params body scope clos c' ctv))) (P9:f∈D) (hc:H c'=some (rq c' (X.env.qual++"<lambda>"))) (hcD:c'∈D) (S:dR ps aI scope) (sub:∀p∈clos,X.env.cells.lookup p.1=some p.2)
  (vals:BV (λ(x:Str) (v:V)=>∃i:Nat,X.N[i]? =some x/\σ[i]? =some (some v)/\X.env.scope.names.lookup x=some .cell/\clos.lookup x=X.env.cells.lookup x) aI fvs)
  (hb:∀(us:List Value),us.length=ps.length->G4 (E1 "<lambda>" (X.env.qual++"<lambda>") params body scope clos ((X.mg "__name__").getD .none) (.ref c') ctv) ⟨us,[]⟩=pure (ps.zip us)) (len:∀vs H Q E,sp vs H Q E->vs.length=ps.length)
  (hbody:∀(A:A0) (outer:List Env) (s:AH) (H:Hp) (vs:List V) (Q:VK) (E:XK),aL k (A.deeper (Co (X.env.qual++"<lambda>") scope s.heap.objs.size f (.ref c') clos))->sp vs H Q E->
   ∃t,PE (MA X.prog X.w X.K X.mg base' (ps++aI) (X.env.qual++"<lambda>") scope f (.ref c') clos A outer s H) body t/\t (vs.map some++fvs.map some) H Q):FnAt X.prog X.w X.K X.mg base' (k+1) f ps.length sp:=by
 have ho:base'.get? f=some (lamO X params body scope clos c' ctv):=W.ext f _ P9 hf
 have uy:base'.CodeRec (.ref c') (X.env.qual++"<lambda>"):=W.ext c' _ hcD hc
 have sub':∀x c,clos.lookup x=some c->X.env.cells.lookup x=some c:=λx c e=>sub (x,c) (A9 e)
 have C:iE base' clos aI fvs:=by
  refine⟨λx y c h1 h2=>W.inj x y c (sub' x c h1) (sub' y c h2),λx c h=>W.cell x c (sub' x c h),Paired.og vals λx v ⟨i,h1,h2,h3,h4⟩=>?_⟩
  obtain⟨c,u,e1,e2,e3⟩:=W.val i x v h1 h2 h3
  exact⟨c,u,h4.trans e1,e2,e3⟩
 exact⟨_,_,ps,ho,rfl,rfl,hb,P2 ho uy S C len hbody⟩
theorem mE{D:List Addr}{H1 H2:Hp}(s:Same (dk D H1) H2):Same H1 (fB D H1 H2):=λb o e=>by
 by_cases hb:b∈D
 ·rw[MB hb];exact e
 ·rw[dS hb];exact s _ _ (by rw[iF hb];exact e)
theorem lC{D:List Addr}{H:Hp}{b:Addr}{o:HO}(hD:∀a∈D,∃φ,H a=some (.ext φ))(e:H b=some o)(hn:∀φ,o≠.ext φ):dk D H b=some o:=by
 rw[iF λz=>?_]
 ·exact e
 ·obtain⟨φ,q⟩:=hD b z
  rw[e] at q
  exact hn φ (AN q)
section
variable{X:Cx}
theorem zZ:∀{a b:List Int},a.map V.int=b.map V.int->a=b
 | [],[],_=>rfl
 | [],_::_,h=>by cases h
 | _::_,[],h=>by cases h
 | x::a,y::b,h=>by
  rw[Aw,Aw] at h
  injection h with h1 h2
  injection h1 with h1
  rw[h1,zZ h2]
end
def uB(c:Addr)(v:V):HO:=.ext λh=>∃u,h.IsCell c (some u)/\RelV v u
theorem SF{P:Af}{w:World}{H:Hp}{h:Heap}{c:Addr}{v:V}{u:Value}(e:h.IsCell c (some u))(r:RelV v u):bA P w H h c (uB c v):=
 ⟨⟨u,e,r⟩,(let ⟨o,ho,_⟩:=e;⟨o,ho⟩),λh1 h2 ⟨u,⟨o,ho,hd⟩,r⟩ k=>⟨u,⟨o,k o ho,hd⟩,r⟩⟩
def lG(cs:List (Addr×V))(H:Hp):Hp:=λb=>match cs.lookup b with
 | some v=>some (uB b v)
 | none=>H b
theorem ME{cs:List (Addr×V)}{H:Hp}{b:Addr}{v:V}(h:cs.lookup b=some v):lG cs H b=some (uB b v):=by unfold lG;rw[h]
theorem sv{cs:List (Addr×V)}{H:Hp}{b:Addr}(h:cs.lookup b=none):lG cs H b=H b:=by unfold lG;rw[h]
theorem qk{cs:List (Addr×V)}{H:Hp}(h:∀c v,cs.lookup c=some v->H c=none):Same H (lG cs H):=λb o e=>by
 cases q:cs.lookup b with
 | none=>rw[sv q];exact e
 | some v=>rw[h b v q] at e;cases e
def iR(X:Cx)(σ:St)(cs:List (Addr×V)):Prop:=∀c v,cs.lookup c=some v->∃(i:Nat) (x:Str),X.N[i]? =some x/\σ[i]? =some (some v)/\X.env.scope.names.lookup x=some .cell/\X.env.cells.lookup x=some c
section
variable{X:Cx}{pins:List (Addr×Obj)}{σ:St}{H:Hp}{s:AH}{cs:List (Addr×V)}
theorem iR.free(C:iR X σ cs)(I:Inv X pins σ H s):∀c v,cs.lookup c=some v->H c=none:=λc v e=>by
 obtain⟨i,x,_,_,_,h⟩:=C c v e
 exact I.gG x c h
theorem iR.hok(C:iR X σ cs)(I:Inv X pins σ H s):df X.prog X.w (lG cs H) s.heap:=λb u e=>by
 have sm:=qk (C.free I)
 cases q:cs.lookup b with
 | some v=>
  rw[ME q] at e
  cases e
  obtain⟨i,x,h1,h2,h3,h4⟩:=C b v q
  obtain⟨m,_,hl⟩:=I.loc
  obtain⟨u,r,l⟩:=hl i x v h1 h2 (.inr (.inl h3))
  rcases l with⟨z,_⟩ | ⟨_,c,e,z⟩
  ·have z':X.env.scope.names.lookup x=some .local:=z
   rw[h3] at z';cases z'
  ·rw[h4] at e;cases e
   exact SF z r
 | none=>
  rw[sv q] at e
  exact(I.hok b u e).stay (λ_ _ _ z=>z) (λd z=>sm _ _ z) λd xs z=>sm _ _ z
theorem iR.un(C:iR X σ cs)(I:Inv X pins σ H s)(hfn:∀x,X.fn x=true)(hex:X.ex=[]):Un X.fs [] X.H₀ (lG cs H) X.s₀.heap s.heap:=by
 have B:=I.base
 rw[hex] at B
 have sm:=qk (C.free I)
 refine⟨B.keep,B.slot,λb o e n hx=>?_,B.there,λb xs e=>sm _ _ (B.tups b xs e),λb o xs e=>sm _ _ (B.kS b o xs e),λb ps e=>?_⟩
 ·cases q:cs.lookup b with
  | none=>rw[sv q];exact B.free b o e n hx
  | some v=>
   obtain⟨i,x,_,_,_,h4⟩:=C b v q
   exact absurd (AZ (AU e) (I.ok.cab x b (hfn x) h4)) (Bm _)
 ·obtain⟨m,z⟩:=B.kT b ps e
  exact⟨m,sm _ _ z⟩
end
abbrev TB:=(St->V->Hp->Prop)->St->Hp->Prop
def SPR(X:Cx)(pins:List (Addr×Obj))(R:St->V->Hp->Prop)(f:Flow)(s':AH):Prop:=
 match f with
 | .ret u=>∃v σ' H',Inv X pins σ' H' s'/\RelV v u/\R σ' v H'
 | _=>False
def oJ(X:Cx)(st:List Stmt)(t:TB):Prop:=
 ∀(pins:List (Addr×Obj)) (s:AH) (σ:St) (H:Hp) (R:St->V->Hp->Prop),Inv X pins σ H s->t R σ H->wpAny (model X.prog X.w) X.A (execs st X.env) (SPR X pins R) X.xe s
section
variable{X:Cx}{st:Stmt}{rest:List Stmt}{t:TS}{u:TB}{e:Expr}{te:TE}{pos:Pos}
theorem Yv(he:PE X e te):oJ X [.Return (some e) pos] (λR σ H=>te σ H (R σ)):=by
 intro pins s σ H R I h
 refine FH (wpAny_Return_some (aK (he pins s σ H _ I h) λv s1 ⟨x,H1,I1,r1,q1⟩=>?_))
 exact⟨x,σ,H1,I1,r1,q1⟩
theorem nJ(h1:PS X st t)(h2:oJ X rest u):oJ X (st::rest) (λR σ H=>t {nx:=u R,rt:=λ_ _=>False} σ H):=by
 intro pins s σ H R I h
 refine FH (aK (h1 pins s σ H {nx:=u R,rt:=λ_ _=>False} I h) λf s1 q=>?_)
 cases f with
 | next=>
  obtain⟨σ',H',I',q⟩:=q
  exact h2 pins s1 σ' H' R I' q
 | ret v=>obtain⟨_,_,_,_,_,z⟩:=q;exact z.elim
 | brk=>obtain⟨_,_,_,z⟩:=q;exact z.elim
 | cont=>obtain⟨_,_,_,z⟩:=q;exact z.elim
theorem oJ.q_{st:List Stmt}(h:oJ X.q_ st u):oJ X st u:=λpins s σ H R I hw=>
 CC (h pins s σ H R (I.wish _) hw) (λf s' q=>by
  cases f with
  | ret v=>obtain⟨x,σ',H',J,r,z⟩:=q;exact⟨x,σ',H',J.iX,r,z⟩
  | next=>exact q
  | brk=>exact q
  | cont=>exact q) λ_ _ z=>B9 z
end
theorem js.okR{P:Af}{w:World}{K:AD}{mg:Str->Option Value}{base:Heap}{x qual:Str}{st:Stmt}{f:Addr}{fd:Ay}{cd:Value}{N ps:List Str}{k:Nat}{sp:Sp}(F:js K x qual st f fd cd)(S:aN N ps (ah st))(len:∀vs H Q E,sp vs H Q E->vs.length=ps.length)
  (hbody:∀(A:A0) (outer:List Env) (s:AH) (H:Hp) (vs:List V) (Q:VK) (E:XK),(∀x y c,(Fe qual (ah st) s.heap.objs.size f cd).cells.lookup x=some c->(Fe qual (ah st) s.heap.objs.size f cd).cells.lookup y=some c->x=y)->aL k (A.deeper (Fe qual (ah st) s.heap.objs.size f cd))->sp vs H Q E->
   ∃t,oJ (kZ bh P w K mg base N qual (ah st) f cd A outer s H E).q_ (aE st) t/\t (λσ v H2=>∃cs,iR (kZ bh P w K mg base N qual (ah st) f cd A outer s H E) σ cs/\((∀c v,cs.lookup c=some v->H2 c=none)->Q v (lG cs H2))) (start N vs) H):aR P w K mg base bh (k+1) f fd ps sp:=by
 obtain⟨oc,od,dV,kV,doc,pm,an,ct,osl,rfl,lk,hcd⟩:=F.ex
 refine⟨len,λA outer s H args us vs Q E hr e0 hb r hsp=>?_⟩
 have hl:=len _ _ _ _ hsp
 have KX:K.In s.heap:=e0.mod.qZ.keeps λb o e=>(e0.bs b o e).1
 have lim:s.heap.NoLimit:=e0.mod.nolimit.keeps λb o e=>(e0.bs b o e).1
 have hkind:∀y∈ps.zip us,(ah st).names.lookup y.1=some .local∨((ah st).names.lookup y.1=some .cell/\((cellsFrom (s.heap.objs.size+1) (ah st).names []).lookup y.1).isSome=true):=λ⟨n,v⟩ hy=>by
  rcases S.par n (Cv hy).1 with q | q
  ·exact .inl q
  ·exact .inr ⟨q,Eo _ _ _ (.inl q)⟩
 refine codeAny_call_function hr.depth (KX _ _ lk) rfl S.co S.gen rfl (Iy KX hcd) (hb _ _ _ _ ?_)
 refine GA S.kind hkind λenv he s1 x=>?_
 subst he
 refine⟨lim.keeps x.toInCall.keep,codeAny_func ?_⟩
 have I:Inv (kZ bh P w K mg base N qual (ah st) f cd A outer s H E) [] (start N vs) H s1:=xa S hr.hd e0 hl r x
 obtain⟨t,ht,hq⟩:=hbody A outer s H vs Q E I.ok.inj (hr.deeper _) hsp
 refine CC (ht.q_ [] s1 (start N vs) H _ I hq) (λfl s' hs=>?_) λe s' hs=>hs
 cases fl with
 | ret u=>
  obtain⟨v,σ',H',J,rv,cs,C,q⟩:=hs
  exact⟨v,lG cs H',J.os,J.bare,C.un J (λ_=>rfl) rfl,C.hok J,rv,q (C.free J)⟩
 | next=>exact B9 hs
 | brk=>exact B9 hs
 | cont=>exact B9 hs
structure N_ (K:AD)(mg:Str->Option Value)(base:Heap)(D:List Addr)(H:Hp)(base':Heap):Prop where
 sub:∀b o,base.get? b=some o->base'.get? b=some o
 mod:Mod K mg base'
 ext:∀a φ,a∈D->H a=some (.ext φ)->φ base'
theorem Wide.b{X:Cx}{σ:St}{D:List Addr}{H:Hp}{base':Heap}(W:Wide X σ D H base'):N_ X.K X.mg X.base D H base':=⟨W.sub,W.mod,W.ext⟩
def jt(P:Af)(w:World)(K:AD)(mg:Str->Option Value)(base:Heap)(H:Hp)(D:List Addr)(k:Nat)(f:Addr)(n:Nat)(sp:Sp):Prop:=∀base',N_ K mg base D H base'->FnAt P w K mg base' k f n sp
theorem jt.same{P:Af}{w:World}{K:AD}{mg:Str->Option Value}{base:Heap}{H H':Hp}{D:List Addr}{k:Nat}{f:Addr}{n:Nat}{sp:Sp}(F:jt P w K mg base H D k f n sp)(k':∀b φ,b∈D->H b=some (.ext φ)->H' b=some (.ext φ)):jt P w K mg base H' D k f n sp:=
 λbase' W=>F base' ⟨W.sub,W.mod,λa φ ha e=>W.ext a φ ha (k' a φ ha e)⟩
theorem jt.lam{X:Cx}{D:List Addr}{H:Hp}{params:Dn}{body:Expr}{scope:Scope}{clos:List (Str×Addr)}{c' f:Addr}{ctv:Value}{ps aI:List Str}{fvs:List V}{k:Nat}{sp:Sp}
  (hf:H f=some (uz f (lamO X params body scope clos c' ctv))) (P9:f∈D) (hc:H c'=some (rq c' (X.env.qual++"<lambda>"))) (hcD:c'∈D) (S:dR ps aI scope) (afh:∀x y c,X.env.cells.lookup x=some c->X.env.cells.lookup y=some c->x=y) (sub:∀p∈clos,X.env.cells.lookup p.1=some p.2/\p.1∈aI)
  (vals:BV (λ(x:Str) (v:V)=>∃c,clos.lookup x=X.env.cells.lookup x/\X.env.cells.lookup x=some c/\c∈D/\H c=some (uB c v)) aI fvs)
  (hb:∀(us:List Value),us.length=ps.length->G4 (E1 "<lambda>" (X.env.qual++"<lambda>") params body scope clos ((X.mg "__name__").getD .none) (.ref c') ctv) ⟨us,[]⟩=pure (ps.zip us)) (len:∀vs H Q E,sp vs H Q E->vs.length=ps.length)
  (hbody:∀(base':Heap),N_ X.K X.mg X.base D H base'->∀(A:A0) (outer:List Env) (s:AH) (H:Hp) (vs:List V) (Q:VK) (E:XK),aL k (A.deeper (Co (X.env.qual++"<lambda>") scope s.heap.objs.size f (.ref c') clos))->sp vs H Q E->
   ∃t,PE (MA X.prog X.w X.K X.mg base' (ps++aI) (X.env.qual++"<lambda>") scope f (.ref c') clos A outer s H) body t/\t (vs.map some++fvs.map some) H Q):jt X.prog X.w X.K X.mg X.base H D (k+1) f ps.length sp:=λbase' W=>by
 have ho:base'.get? f=some (lamO X params body scope clos c' ctv):=W.ext f _ P9 hf
 have uy:base'.CodeRec (.ref c') (X.env.qual++"<lambda>"):=W.ext c' _ hcD hc
 have vals':BV (λ(x:Str) (v:V)=>∃c u,clos.lookup x=some c/\base'.IsCell c (some u)/\RelV v u) aI fvs:=Paired.og vals λx v ⟨c,h0,h1,h2,h3⟩=>by
  obtain⟨u,e,r⟩:=W.ext c _ h2 h3
  exact⟨c,u,h0.trans h1,e,r⟩
 have sub':∀x c,clos.lookup x=some c->X.env.cells.lookup x=some c/\x∈aI:=λx c e=>sub (x,c) (A9 e)
 have C:iE base' clos aI fvs:=by
  refine⟨λx y c h1 h2=>afh x y c (sub' x c h1).1 (sub' y c h2).1,λx c h=>?_,vals'⟩
  obtain⟨i,hi⟩:=Ak (sub' x c h).2
  obtain⟨v,_,c2,u,h1,h2,_⟩:=gK vals' hi
  rw[h] at h1;cases h1
  exact⟨_,h2⟩
 exact⟨_,_,ps,ho,rfl,rfl,hb,P2 ho uy S C len (hbody base' W)⟩
section
variable{X:Cx}{o e:Expr}{es:List Expr}{apos cpos:Pos}{T:String}{name:Str}{id:String}{r:V->List V->Hp->VK->Prop}{to:TE}{t:TA}
theorem Yw(K:AD)(pa:PlainAttrs T)(slot:Slot T name id)(hty:typeOf (.builtin id)=pure (.type "method_descriptor"))(hm:XG X id r)(ho:PE X o to)(ha:PA X (e::es) t)
  (hbase:Gs o name X.env (eval o X.env)=eval o X.env:=by rfl)
  (hfew:((EH cpos (BO (e::es) X.env)).all (λx=> !x.1)&&(backToKw cpos (keywordEach [] X.env)).all (λx=>x.1.isSome)
   &&decide ((e::es).length+([]:List JH).length+(if([]:List JH).isEmpty then 0 else 1)<30))=true:=by rfl)
  (hline:(apos.endLine == cpos.line)=true:=by rfl) (hs:BO (e::es) X.env=(false,eval e X.env)::BO es X.env:=by rfl) (hplain:(EH cpos (BO es X.env)).any (·.1)=false:=by rfl) (hK:X.K=K:=by rfl):
  PE X (.Call (.Attribute o name apos) (e::es) [] cpos) (tBM K T r to t):=by
 subst hK
 exact fq pa slot hty hm ho ha hbase hfew hline hs hplain
end
theorem z_{α β:Type}[BEq α][LawfulBEq α]:∀{l:List (α×β)} {a:α} {b:β},l.lookup a=some b->(a,b)∈l
 | (x,y)::l,a,b,h=>by
  rw[DW] at h
  by_cases e:a=x
  ·subst e
   rw[beq_self_eq_true] at h
   cases h
   exact AQ
  ·rw[show(a == x)=false from beq_false_of_ne e] at h
   exact AM _ (z_ h)
structure Jg (X:Cx)(σ:St)(l:List (Nat×Str×Addr×V)):Prop where
 at':∀q∈l,X.N[q.1]? =some q.2.1/\σ[q.1]? =some (some q.2.2.2)/\X.env.scope.names.lookup q.2.1=some .cell/\X.env.cells.lookup q.2.1=some q.2.2.1
 nd:(l.map (·.2.1)).Nodup
def ql(l:List (Nat×Str×Addr×V)):List (Addr×V):=l.map λq=>(q.2.2.1,q.2.2.2)
theorem Jg.cells{X:Cx}{σ:St}{l:List (Nat×Str×Addr×V)}(C:Jg X σ l):iR X σ (ql l):=λc v h=>by
 obtain⟨q,hq,e⟩:=As.mp (show(c,v)∈ql l from z_ h)
 cases e
 obtain⟨h1,h2,h3,h4⟩:=C.at' q hq
 exact⟨q.1,q.2.1,h1,h2,h3,h4⟩
theorem nK{α β:Type}[BEq α][LawfulBEq α]:∀{l:List (α×β)} {a:α} {b:β},(a,b)∈l->∃b',l.lookup a=some b'
 | (x,y)::l,a,b,h=>by
  rw[DW]
  by_cases e:a=x
  ·subst e;rw[beq_self_eq_true];exact⟨y,rfl⟩
  ·rw[show(a == x)=false from beq_false_of_ne e]
   rcases AV.mp h with z | z
   ·cases z;exact absurd rfl e
   ·exact nK z
theorem MF:∀{l:List (Nat×Str×Addr×V)},(l.map (·.2.1)).Nodup->∀q∈l,∀p∈l,q.2.1=p.2.1->q=p
 | [],_=>λ_ h=>by cases h
 | x::l,nd=>λq hq p hp e=>by
  rw[Aw,B4] at nd
  rcases AV.mp hq with z | z
  ·rcases AV.mp hp with y | y
   ·rw[z,y]
   ·exact absurd (As.mpr ⟨p,y,by rw[<-e,z]⟩) nd.1
  ·rcases AV.mp hp with y | y
   ·exact absurd (As.mpr ⟨q,z,by rw[e,y]⟩) nd.1
   ·exact MF nd.2 q z p y e
theorem Jg.look{X:Cx}{σ:St}{l:List (Nat×Str×Addr×V)}(C:Jg X σ l)(inj:∀x y c,X.env.cells.lookup x=some c->X.env.cells.lookup y=some c->x=y){q:Nat×Str×Addr×V}(hq:q∈l):(ql l).lookup q.2.2.1=some q.2.2.2:=by
 obtain⟨v,hv⟩:=nK (l:=ql l) (As.mpr ⟨q,hq,rfl⟩)
 obtain⟨p,hp,e⟩:=As.mp (show(q.2.2.1,v)∈ql l from z_ hv)
 injection e with e1 e2
 have:=MF C.nd q hq p hp (inj _ _ _ (C.at' q hq).2.2.2 (by rw[<-e1];exact(C.at' p hp).2.2.2))
 rw[hv,<-e2,this]
theorem Jg.got{X:Cx}{σ:St}{l:List (Nat×Str×Addr×V)}(C:Jg X σ l)(inj:∀x y c,X.env.cells.lookup x=some c->X.env.cells.lookup y=some c->x=y)(H:Hp){q:Nat×Str×Addr×V}(hq:q∈l):lG (ql l) H q.2.2.1=some (uB q.2.2.1 q.2.2.2):=ME (C.look inj hq)
theorem aW{t u:TS}{D:Ends}{σ:St}{H:Hp}(h:∀R:St->Hp->Prop,R=u D->t {D with nx:=R} σ H):zo t u D σ H:=h _ rfl
theorem xA{t u:TS}{D:Ends}{σ:St}{H:Hp}(Pv:St->Hp->Prop)(h1:∀σ H,Pv σ H->u D σ H)(h2:∀R:St->Hp->Prop,(∀σ H,Pv σ H->R σ H)->t {D with nx:=R} σ H):zo t u D σ H:=h2 _ h1
def N0(J:It)(g:TG)(tb:TS)(D:Ends)(σ:St)(H:Hp):Prop:=∃W:Nat->Nat->St->Hp->Prop,(∃m,W 0 m σ H)/\∀i m σ H,W i m σ H->
 (J.stop i H/\D.nx σ H)∨(J.go i H/\∃N:St->Hp->Prop,(∀σ' H',N σ' H'->∃m',m'<m/\W (i+1) m' σ' H')/\∀x H',J.t7 i H x H'->g x σ H' λσ2 H2=>tb {D with nx:=N,ct:=N,bk:=D.nx} σ2 H2)
theorem Qa{K:AD}{a:Addr}{xs:List V}{g:TG}{tb:TS}{D:Ends}{σ:St}{H:Hp}(Pv:Nat->St->Hp->Prop)(h0:Pv 0 σ H)(hl:∀i σ H,i<=xs.length->Pv i σ H->bG K H a xs)
  (hs:∀i x σ H (N:St->Hp->Prop),(∀σ H,Pv (i+1) σ H->N σ H)->xs[i]? =some x->Pv i σ H->g x σ H λσ2 H2=>tb {D with nx:=N,ct:=N,bk:=D.nx} σ2 H2) (hd:∀σ H,Pv xs.length σ H->D.nx σ H):N0 (zp K a) g tb D σ H:=
 iA Pv h0 hl (λi x σ H e p=>hs i x σ H _ (λ_ _ z=>z) e p) hd
theorem SH{K:AD}{a:Addr}{xs:List V}{g:TG}{tb:TS}{D:Ends}{σ:St}{H:Hp}(Pv:Nat->St->Hp->Prop)(h0:Pv 0 σ H)(hl:∀i σ H,i<=xs.length->Pv i σ H->aY K H a xs)
  (hs:∀i x σ H (N:St->Hp->Prop),(∀σ H,Pv (i+1) σ H->N σ H)->xs[i]? =some x->Pv i σ H->g x σ H λσ2 H2=>tb {D with nx:=N,ct:=N,bk:=D.nx} σ2 H2) (hd:∀σ H,Pv xs.length σ H->D.nx σ H):N0 (zq K a) g tb D σ H:=
 L7 Pv h0 hl (λi x σ H e p=>hs i x σ H _ (λ_ _ z=>z) e p) hd
theorem i6{lo:Int}{n:Nat}{g:TG}{tb:TS}{D:Ends}{σ:St}{H:Hp}(Pv:Nat->St->Hp->Prop)(h0:Pv 0 σ H)
  (hs:∀i σ H (N:St->Hp->Prop),(∀σ H,Pv (i+1) σ H->N σ H)->i<n->Pv i σ H->g (.int (lo+i)) σ H λσ2 H2=>tb {D with nx:=N,ct:=N,bk:=D.nx} σ2 H2) (hd:∀σ H,Pv n σ H->D.nx σ H):N0 (t8 lo n) g tb D σ H:=
 jS (lo:=lo) Pv h0 (λi σ H e p=>hs i σ H _ (λ_ _ z=>z) e p) hd
theorem Wz{c:TT}{tb:TS}{D:Ends}{σ:St}{H:Hp}(W:Nat->St->Hp->Prop)(h0:∃m,W m σ H)
  (hs:∀m σ H (N:St->Hp->Prop),(∀σ' H' m',m'<m->W m' σ' H'->N σ' H')->W m σ H->c σ H λb H1=>if b=true then tb {D with nx:=N,ct:=N,bk:=D.nx} σ H1 else D.nx σ H1)
  (mono:∀σ H Q Q',(∀b H1,Q b H1->Q' b H1)->c σ H Q->c σ H Q'):pX c tb D σ H:=Yu W h0 (λm σ H w=>hs m σ H _ (λ_ _ m' h w'=>⟨m',h,w'⟩) w) mono
theorem MG{X:Cx}{tg:Expr}(K:AD){l:Expr}{tl:TE}(hl:PE X l tl)(hK:X.K=K:=by rfl):PI X tg l (Xs K tl):=by subst hK;exact kY hl
theorem gq:∀(names:List (Str×Cz)) (n:Nat) (acc:List (Str×Addr)),cellsFrom n names acc=cellsFrom n names []++acc
 | [],_,_=>rfl
 | (name,kind)::r,n,acc=>by
  unfold cellsFrom
  split
  ·rw[gq r (n+1) ((name,n)::acc),gq r (n+1) [(name,n)],DN];rfl
  ·exact gq r n acc
theorem qm:∀{names:List (Str×Cz)} {n:Nat} {acc:List (Str×Addr)} {x:Str} {c:Addr},(x,c)∈cellsFrom n names acc->(x,FR)∈names∨(x,c)∈acc
 | [],_,_,_,_,h=>.inr h
 | (name,kind)::r,n,acc,x,c,h=>by
  unfold cellsFrom at h
  split at h
  ·rename_i hk
   rcases qm h with z | z
   ·exact .inl (AM _ z)
   ·rcases AV.mp z with z | z
    ·cases z
     refine .inl ?_
     rw[show kind=FR by simpa using hk]
     exact AQ
    ·exact .inr z
  ·rcases qm h with z | z
   ·exact .inl (AM _ z)
   ·exact .inr z
def vE(scope:Scope)(x:Str):Bool:=match scope.names.lookup x with | some .cell=>true | _=>false
def Qb(P:Af)(w:World)(K:AD)(mg:Str->Option Value)(base:Heap)(N:List Str)(qual:Str)(scope:Scope)(f:Addr)(cd:Value)(cl:List (Str×Addr))(A:A0)(outer:List Env)(s:AH)(H:Hp):Cx where
 prog:=P
 w:=w
 K:=K
 mg:=mg
 base:=base
 A:=A.deeper (Co qual scope s.heap.objs.size f cd (cellsFrom (s.heap.objs.size+1) scope.names cl))
 N:=N
 s₀:=s
 H₀:=H
 env:=Co qual scope s.heap.objs.size f cd (cellsFrom (s.heap.objs.size+1) scope.names cl)
 outer:=outer
 stack:=Co qual scope s.heap.objs.size f cd (cellsFrom (s.heap.objs.size+1) scope.names cl)::outer
 ex:=[]
 calm:=true
 fn:=vE scope
 pn:=[]
 xe:=λ_ _=>False
theorem i7{n:Nat}{names:List (Str×Cz)}{cl:List (Str×Addr)}{x:Str}{c:Addr}(h:(cellsFrom n names cl).lookup x=some c):(cellsFrom n names []).lookup x=some c∨((cellsFrom n names []).lookup x=none/\cl.lookup x=some c):=by
 rw[gq,Eb] at h
 cases e:(cellsFrom n names []).lookup x with
 | none=>rw[e] at h;exact .inr ⟨rfl,h⟩
 | some d=>rw[e] at h;exact .inl h
def Jh(P:Af)(w:World)(H:Hp)(a:Addr)(y:V)(o:Option V):Prop:=∀(X:Cx) (pins:List (Addr×Obj)) (σ:St) (s:AH) (u:Value),X.prog=P->X.w=w->Inv X pins σ H s->RelV y u->s.TypeIs (.ref a) "dict"/\
 ∀(A:A0) (E:Value->AH->Prop),A.units+1<cLine->
  (∀(v:V) (Q:Value->AH->Prop),o=some v->(∀w' s',Inv X pins σ H s'->RelV v w'->Q w' s')->wpAny (model X.prog X.w) A (EV (.ref a) u) Q E s)/\
  (∀Q:Value->AH->Prop,(∀s',Inv X pins σ H s'->Q (.bool o.isSome) s')->wpAny (model X.prog X.w) A (Bl .In u (.ref a)) Q E s)/\
  ∀Q:Value->AH->Prop,(∀s',Inv X pins σ H s'->Q (.bool (!o.isSome)) s')->wpAny (model X.prog X.w) A (Bl .NotIn u (.ref a)) Q E s
def SJ(P:Af)(w:World)(H:Hp)(a:Addr)(y v:V)(H':Hp):Prop:=∀(X:Cx) (pins:List (Addr×Obj)) (σ:St) (s:AH) (u r:Value),X.prog=P->X.w=w->Inv X pins σ H s->RelV y u->RelV v r->
 ∀(A:A0) (E:Value->AH->Prop) (Q:Unit->AH->Prop),A.units+1<cLine->(∀s',Inv X pins σ H' s'->Q () s')->wpAny (model X.prog X.w) A (setItem (.ref a) u r) Q E s
theorem gU.toS{P:Af}{w:World}{H:Hp}{a:Addr}{y:V}{o:Option V}(g:gU H a y o):Jh P w H a y o:=λ_ _ _ _ _ _ _ I ry=>
 ⟨rf I g,λ_ _ hu=>⟨λ_ _ e h=>xh hu I (e▸g) ry h,λ_ h=>ae9 hu I g ry h,λ_ h=>Wh hu I g ry h⟩⟩
theorem j_.toS{P:Af}{w:World}{H H':Hp}{a:Addr}{y v:V}(g:j_ H a y v H'):SJ P w H a y v H':=λ_ _ _ _ _ _ _ _ I ry rv _ _ _ hu h=>xi hu I g ry rv h
def ab8(P:Af)(w:World)(td ty:TE):TE:=λσ H Q=>td σ H λx H1=>ty σ H1 λy H2=>∃a v,x=.ref a/\Jh P w H2 a y (some v)/\Q v H2
def WA(P:Af)(w:World)(ty td:TE):TE:=λσ H Q=>ty σ H λy H1=>td σ H1 λx H2=>∃a o,x=.ref a/\Jh P w H2 a y o/\Q (.bl (!o.isSome)) H2
def ab9(P:Af)(w:World)(td ty tv:TE):TS:=λD σ H=>tv σ H λv H1=>td σ H1 λx H2=>ty σ H2 λy H3=>∃a H4,x=.ref a/\SJ P w H3 a y v H4/\D.nx σ H4
section
variable{X:Cx}{P:Af}{w:World}{o i e value:Expr}{pos pos' tpos:Pos}{td ty tv:TE}
theorem WB(hu:X.A.units+1<cLine)(ho:PE X o td)(hi:PE X i ty)(hs:Sg i)(hP:X.prog=P:=by rfl)(hw:X.w=w:=by rfl):PE X (.Subscript o i pos) (ab8 P w td ty):=by
 intro pins s σ H Q I h
 refine Mi GS.lookup hs (aK (ho pins s σ H _ I h) λu s1 ⟨x,H1,I1,rx,q1⟩=>aK (hi pins s1 σ H1 _ I1 q1) λiv s2 ⟨y,H2,I2,ry,a,v,ex,g,q2⟩=>?_)
 subst ex
 obtain rfl:u=A5 a:=rx
 obtain⟨t1,g1⟩:=g X pins σ s2 iv hP hw I2 ry
 exact⟨t1,(g1 _ _ hu).1 v _ rfl λw' s3 I3 i3=>⟨v,H2,I3,i3,q2⟩⟩
theorem Qc(hu:X.A.units+1<cLine)(hi:PE X i ty)(ho:PE X o td)(hP:X.prog=P:=by rfl)(hw:X.w=w:=by rfl):PC X .NotIn i o (WA P w ty td):=by
 intro pins s σ H Q I h
 refine aK (hi pins s σ H _ I h) λiv s1 ⟨y,H1,I1,ry,q1⟩=>aK (ho pins s1 σ H1 _ I1 q1) λu s2 ⟨x,H2,I2,rx,a,ov,ex,g,q2⟩=>?_
 subst ex
 obtain rfl:u=A5 a:=rx
 obtain⟨t1,g1⟩:=g X pins σ s2 iv hP hw I2 ry
 exact(g1 _ _ hu).2.2 _ λs3 I3=>⟨.bl (!ov.isSome),H2,I3,rfl,q2⟩
theorem WC(hu:X.A.units+1<cLine)(ho:PE X o td)(hi:PE X i ty)(hv:PE X value tv)(hs:IP value (some (.Subscript o i pos')) pos.line X.env=pure false)(hP:X.prog=P:=by rfl)(hw:X.w=w:=by rfl):
  PS X (.Assign [.Subscript o i pos'] value pos) (ab9 P w td ty tv):=by
 intro pins s σ H D I h
 refine wpAny_Assign_Subscript (aK (hv pins s σ H _ I h) λr s1 ⟨v,H1,I1,rv,q1⟩=>aK (ho pins s1 σ H1 _ I1 q1) λu s2 ⟨x,H2,I2,rx,q2⟩=>aK (hi pins s2 σ H2 _ I2 q2) λiv s3 ⟨y,H3,I3,ry,a,H4,ex,g,q3⟩=>?_) hs
 subst ex
 obtain rfl:u=A5 a:=rx
 exact g X pins σ s3 iv r hP hw I3 ry rv _ _ _ hu λs4 I4=>⟨σ,H4,I4,q3⟩
end
structure oK (P:Af)(w:World)(α:Type) where
 Rep:α->V->Hp->Prop
 Num:Hp->Addr->List α->Prop
 same:∀{x:α} {v:V} {H H':Hp},Rep x v H->bq H H'->Rep x v H'
 keep:∀{H H':Hp} {D:Addr} {xs:List α},Num H D xs->H' D=H D->Num H' D xs
 isD:∀{H:Hp} {D:Addr} {xs:List α},Num H D xs->∃o,H D=some o/\(∀l,o≠.lst l)/\(∀l,o≠.tup l)
 there:∀{H:Hp} {D:Addr} {xs:List α} {i:Nat} {x:α} {v:V},Num H D xs->Rep x v H->xs.Nodup->xs[i]? =some x->Jh P w H D v (some (.int ((i:Nat):Int)))
 miss:∀{H:Hp} {D:Addr} {xs:List α} {x:α} {v:V},Num H D xs->Rep x v H->x ∉ xs->Jh P w H D v none
 put:∀{H:Hp} {D:Addr} {xs:List α} {x:α} {v:V},Num H D xs->Rep x v H->x ∉ xs->xs.length<sizeLine->∃H',SJ P w H D v (.int ((xs.length:Nat):Int)) H'/\KB D H H'/\Num H' D (xs++[x])
 vD:∀{X:Cx} {pos kpos cpos:Pos} {x:Str} {i j:Nat},X.A.units+1<cLine->PE X (.Name x kpos) (Ni i)->PE X (.Constant (.int 0) j cpos) (tC (.int 0))->X.prog=P->X.w=w->PE X (.Dict [some (.Name x kpos)] [.Constant (.int 0) j cpos] pos)
  (λσ H Q=>∃y v,σ[i]? =some (some v)/\Rep y v H/\∀D H',H D=none->Same H H'->Num H' D [y]->Q (.ref D) H')
def qL.toS{α:Type}(P:Af)(w:World)(R:qL α):oK P w α where
 Rep:=R.Rep
 Num:=R.Num
 same:=R.same
 keep:=R.keep
 isD:=R.isD
 there:=λh r nd e=>(R.there h r nd e).toS
 miss:=λh r n=>(R.miss h r n).toS
 put:=λh r n hl=>let ⟨H',g,k,z⟩:=R.put h r n hl;⟨H',g.toS,k,z⟩
 vD:=λhu h1 h2 _ _=>R.vD hu h1 h2
theorem mF:HL (.type "tuple") "keys"=pure none:=by rw[EW,DH];kernel_rfl
section
variable{P:Af}{w:World}{A:A0}{E:Value->AH->Prop}{s:AH}
theorem yn{a:Addr}{xs:Array Value}{k:Nat}{sl:Array (Option Value)}{Q:Option Value->AH->Prop}(hx:s.heap.get? a=some ⟨.type "tuple",none,.seq xs k,sl⟩)(hA:A.handled=none)
  (h:∀h' tk,(∀b o,s.heap.get? b=some o->h'.get? b=some o)->Q none {s with heap:=h',toks:=tk}):wpAny (model P w) A (getAttr? (.ref a) "keys") Q E s:=by
 obtain⟨hp,g,d,tk,os⟩:=s
 have hT:∀tk',(⟨hp,g,d,tk',os⟩:AH).TypeIs (.ref a) "tuple":=λ_=>⟨_,hx,rfl⟩
 have f1:=sub_AttributeError
 have f3:=EF.lookup
 have f4:=EF.bind (.ref a)
 have f5:=am_tuple_getattr_none
 have f6:=mF
 unfold getAttr? getAttrBy? getAttrBy
 repeat (any_goals (first | assumption | exact hT _ | ((with_reducible show wpAny _ _ (call (Value.builtin "tuple.__getattribute__") _ _) _ _ _);refine FI EF (hT _) am_entry_tuple_getattribute (F.args_tuple_getattribute_2 _ _) (meets_getattribute_miss_tuple a xs k sl "keys" _ mF (by decide+kernel) (by size_fits)) ⟨hx,hA,λh' tk' e hx'=>?_⟩) | wp_step))
 obtain⟨t',u',he⟩:=hx'.there
 show wpAny _ _ (getattributeRaised _ _ _ _ _ _ _) _ _ _
 unfold getattributeRaised
 repeat (any_goals (first | assumption | wp_step))
 exact h _ _ hx'.keeps
theorem vF{l:Addr}{its:Array Value}{nl:Nat}{sl:Array (Option Value)}{more:List (Key×Value)}{Q:Value->AH->Prop}(hh:A.handled=none)(hl:s.heap.get? l=some ⟨.type "tuple",none,.seq its nl,sl⟩)
  (hp:∀(i:Nat) (v:Value),its[i]? =some v->∃p k key u o m,v=.ref p/\more[i]? =some (k,u)/\(bb P w).is k key=true/\s.heap.get? p=some o/\o.cls=.type "tuple"/\o.data=.seq #[key,u] m) (hml:more.length=its.size) (hb:its.size<sizeLine)
  (h:∀h' tk,h'.DictOf (bb P w) s.heap.objs.size (I0 [] more)->(∀b o,s.heap.get? b=some o->h'.get? b=some o)->Q (.ref s.heap.objs.size) {s with heap:=h',toks:=tk}):
  wpAny (model P w) A (call (.type "dict") [.ref l]) Q E s:=by
 refine callType_codes (Q₁:=λobj s₁=>obj=.ref s.heap.objs.size/\s₁={s with heap:=s.heap.push {cls:=.type "dict",data:=.dict #[]}}) F.kt_called_dict (F.kt_typeCall_dict_1 _) F.entry_dict_init (kt_code_dict_new _ ⟨rfl,rfl⟩) ?_
 rintro obj s₁ ⟨rfl,rfl⟩
 have hnew:(s.heap.push {cls:=.type "dict",data:=.dict #[]}).DictOf (bb P w) s.heap.objs.size []:=Ja s.heap
 have hl1:(s.heap.push {cls:=.type "dict",data:=.dict #[]}).get? l=some ⟨.type "tuple",none,.seq its nl,sl⟩:=AE _ hl
 have lS:l<s.heap.objs.size:=AU hl
 refine⟨hnew.typeIs,F.args_dict_init_2 _ _,?_⟩
 unfold Builtin.«dict.__init__»
 refine AA ?_
 unfold Builtin.Dict.selfAndRest
 refine AA (wpAny_notOrdered_dict hnew.typeIs ?_)
 show wpAny _ _ (pure (s.heap.objs.size,[A5 l])) _ _ _
 refine AG ?_
 show wpAny _ _ (HC "dict.__init__" s.heap.objs.size (.ref l) [] .none) _ _ _
 unfold HC
 refine AA (Cm (show FU {s with heap:=s.heap.push {cls:=.type "dict",data:=.dict #[]}} (.ref l) "tuple" from⟨_,hl1,rfl⟩) ?_)
 rw[if_pos (by decide)]
 refine AA (yn hl1 (by simp[hh]) λh1 tk1 k1=>?_)
 rw[show(none:Option Value).isNone=true from rfl,if_pos rfl]
 refine AA (Cw ?_)
 have hl2:h1.IsTuple l its:=⟨_,k1 _ _ hl1,rfl,nl,rfl⟩
 refine AA (C9 hl2 ?_)
 refine AG ⟨CO ft _,?_⟩
 have lh1:l<h1.objs.size:=AU (k1 _ _ hl1)
 have qf:l≠h1.objs.size:=Ac lh1
 have Yx:s.heap.objs.size<h1.objs.size:=by
  obtain⟨o,es,ep,ho,_⟩:=hnew
  exact AU (k1 _ _ ho)
 have nf:s.heap.objs.size ∉ [h1.objs.size,l]:=by
  simp only[AV,CU,or_false,not_or]
  exact⟨Ac Yx,CQ lS⟩
 have hh3:A.in1.in1.handled=none:=by simp[hh]
 refine P8 ((Walks.tuple hh3 _ l qf its).toS) nf more hml hb (its.size-0) 0 0 _ (by omega) (BI _) ⟨⟨_,AO _ rfl,rfl,rfl⟩,hl2.push _⟩ (λi v hv=>?_) ?_ λs' mv hd=>?_
 ·obtain⟨p,k,key,u,o,m,e1,e2,e3,e4,e5,e6⟩:=hp i v hv
  have lp:=AU e4
  refine⟨p,k,key,u,o,m,e1,e2,e3,AE _ (k1 _ _ (AE _ e4)),e5,e6,Ac lp,λz=>?_⟩
  have e9:p=h1.objs.size:=Ad.mp z
  rw[e9] at lp
  exact absurd (Es lp Yx) (Bm _)
 ·show Heap.DictOf _ _ _ (I0 [] (more.take 0))
  obtain⟨o,es,ep,ho,r⟩:=hnew
  exact⟨o,es,ep,AE _ (k1 _ _ ho),r⟩
 ·obtain⟨h',g',d',tk',os'⟩:=s'
  have eg:g'=s.gens:=mv.gens
  have ed:d'=s.drawn:=mv.drawn
  have eo:os'=s.os:=mv.os
  subst eg ed eo
  refine⟨rfl,h h' tk' hd λb o e=>mv.heap b o (λz=>?_) (AE _ (k1 _ _ (AE _ e)))⟩
  have lb:=AU e
  simp only[AV,CU,or_false] at z
  rcases z with z | z
  ·rw[z] at lb;exact Bm _ lb
  ·rw[z] at lb;exact Bm _ (Es lb Yx)
end
section
variable{X:Cx}
def Yy:List V->Hp->VK->Prop:=λvs H Q=>∃(l:Addr) (ps:List Addr) (kvs:List (Key×V)),vs=[.ref l]/\H l=some (.tup (ps.map V.ref))/\BV (λ(p:Addr) (q:Key×V)=>H p=some (.tup [kV q.1,q.2])) ps kvs/\kvs.length<sizeLine/\∀D,H D=none->Q (.ref D) (upd H D (.dK (c_ [] kvs)))
theorem N1(hA:X.A.handled=none):cK X (.type "dict") Yy:=by
 intro pins s σ H xs us Q I r h
 obtain⟨l,ps,kvs,rfl,hl,hp,hb,q⟩:=h
 obtain⟨u,rfl,ru⟩:=vals1 r
 cases ru
 obtain⟨⟨z,o0,ho0,hd0⟩,its,rv,⟨o1,ho1,hc1,n,hd1⟩⟩:=I.hok l _ hl
 rw[ho0] at ho1
 cases ho1
 obtain⟨am2,dd0,amZ,sl0⟩:=o0
 simp only at hc1 hd1 hd0
 subst hc1 hd1 hd0
 have e:=ho0
 have key:∀(ps:List Addr) (kvs:List (Key×V)) (its:List Value),BV (λ(p:Addr) (q:Key×V)=>H p=some (.tup [kV q.1,q.2])) ps kvs->Vals (ps.map V.ref) its->
   ∃more:List (Key×Value),KV kvs more/\∀(i:Nat) (v:Value),its[i]? =some v->∃p k key u o m,v=.ref p/\more[i]? =some (k,u)/\(bb X.prog X.w).is k key=true/\s.heap.get? p=some o/\o.cls=.type "tuple"/\o.data=.seq #[key,u] m:=by
  intro ps kvs its a
  induction a generalizing its with
  | nil=>intro b;cases b;exact⟨[],.nil,λi v hv=>by simp at hv⟩
  | @cons p q ps kvs h t ih=>
   intro b
   cases b with
   | cons rp rt=>
    obtain⟨more,m1,m2⟩:=ih _ rt
    obtain⟨z2,its2,Ji,o,ho,hc,m,hd⟩:=I.hok p _ h
    cases Ji with
    | cons r1 r2=>
     cases r2 with
     | cons r2 r3=>
      cases r3
      cases(show _=A5 p from rp)
      refine⟨(q.1,_)::more,.cons ⟨rfl,r2⟩ m1,λi v hv=>?_⟩
      cases i with
      | zero=>
       have e:A5 p=v:=by simpa using hv
       exact⟨p,q.1,_,_,o,m,e.symm,rfl,mB r1,ho,hc,hd⟩
      | succ i=>exact m2 i v (by simpa using hv)
 obtain⟨more,m1,m2⟩:=key ps kvs its hp rv
 have len1:more.length=its.length:=by rw[<-Aq m1,<-Aq hp,<-rv.length,AB]
 have len2:its.length=kvs.length:=by rw[<-len1,<-Aq m1]
 refine vF (nl:=n) (its:=its.toArray) (more:=more) hA e (λi v hv=>m2 i v (by simpa using hv)) (by simpa using len1) (by rw[AY,len2];exact hb) λh' tk dd kp=>?_
 have bg:(s.heap.objs.size == CS)=false:=beq_eq_false_iff_ne.mpr (C0 (Ac I.big))
 have hz:(c_ [] kvs).length<=sizeLine:=by
  have h1:=j1 kvs []
  rw[B5] at h1
  omega
 exact⟨.ref s.heap.objs.size,_,I.laid (a:=s.heap.objs.size) (o:=.dK (c_ [] kvs)) (t':=tk) kp (AK _) ⟨hz,bg,_,m1.merge .nil,dd⟩,rfl,q _ (I.hok.fresh (AK _))⟩
end
section
variable{prog:Af}{w:World}{A:A0}{E:Value->AH->Prop}{s:AH}
theorem Qd{z TI TO i1 i2 l1 l2:Addr}{k:Nat}{xs ys:Array Value}{x y a b:Value}{Q:Value->AH->Prop}(D:JO z TI TO i1 i2 l1 l2)(gz:IsZip s.heap z TI TO .none)(gI:DZ s.heap TI (.ref i1) (.ref i2))(gO:DZ s.heap TO a b)
  (g1:s.heap.IsTupleIter i1 l1 k) (g2:s.heap.IsListIter i2 l2 k) (m1:s.heap.IsTuple l1 xs) (m2:s.heap.IsList l2 ys) (ex:xs[k]? =some x) (ey:ys[k]? =some y)
  (q:∀h',IsZip h' z TI TO (Ap s.heap.objs.size)->DZ h' TO x y->h'.IsTupleIter i1 l1 (k+1)->h'.IsListIter i2 l2 (k+1)->DZ h' s.heap.objs.size x y->h'.objs.size=s.heap.objs.size+1->
   (∀c o,c≠z->c≠TO->c≠i1->c≠i2->s.heap.get? c=some o->h'.get? c=some o)->Q (.ref s.heap.objs.size) {s with heap:=h'}):
  wpAny (model prog w) A (Builtin.«zip.__next__» ⟨[.ref z],[]⟩) (λfin s'=>∃v,fin=.done (.ret v)/\Q v s') E s:=by
 show wpAny _ _ (field (.ref z) 2 >>= _) _ _ _;refine AA (B2 gz rfl (x:=.bool false) rfl ?_)
 show wpAny _ _ (field (.ref z) 3 >>= _) _ _ _;refine AA (B2 gz rfl (x:=.ref TI) rfl ?_);refine AA (Cb gI rfl ?_)
 show wpAny _ _ (CP (.ref z) >>= _) _ _ _;refine AA ?_;unfold CP
 refine AA (B2 gz rfl (x:=.none) rfl (AG ?_));simp only[if_true];refine AA (Cw ?_)
 refine AA (B2 gz rfl (x:=.ref TO) rfl ?_);refine AA (Bi gz (by simp) λh1 z1 s1=>?_)
 replace z1:IsZip h1 z TI TO .ellipsis:=z1
 refine AA ?_;simp only[List.zipIdx_cons,List.zipIdx_nil,Dl,GO];refine AA (AA (Il ?_))
 show wpAny _ _ (B3 (.ref i1) >>= _) _ _ _;refine AA (rj (g_ g1 s1.extBut D.i1z) (xx m1 s1.extBut D.l1z) ex λh2 it2 s2=>AG ?_)
 have O2:DZ h2 TO a b:=s2.extBut _ _ D.TOi1 (s1.extBut _ _ D.TOz gO)
 refine AA (Cb O2 rfl ?_);refine AA (wpAny_updateSeq_pair O2 λh3 O3 s3=>?_)
 replace O3:DZ h3 TO x b:=O3
 refine AA (wpAny_letGo (AG ?_));refine AA (AA (Il ?_))
 show wpAny _ _ (B3 (.ref i2) >>= _) _ _ _;refine AA (wpAny_nextOf_list_item (((g2.extBut s1.extBut D.i2z).extBut s2.extBut D.i12.symm).extBut s3.extBut D.TOi2.symm) (((m2.extBut s1.extBut D.l2z).extBut s2.extBut D.l2i1).extBut s3.extBut D.l2TO) ey λh4 it4 s4=>AG ?_)
 have O4:DZ h4 TO x b:=s4.extBut _ _ D.TOi2 O3
 refine AA (Cb O4 rfl ?_);refine AA (wpAny_updateSeq_pair O4 λh5 O5 s5=>?_)
 replace O5:DZ h5 TO x y:=O5
 refine AA (wpAny_letGo (AG (AG ?_)));refine AA (Cb O5 rfl ?_);refine AA (IH ?_)
 have sz:h5.objs.size=s.heap.objs.size:=by rw[s5.1,s4.1,s3.1,s2.1,s1.1]
 have z5:IsZip h5 z TI TO .ellipsis:=s5.extBut _ _ D.TOz.symm (s4.extBut _ _ D.i2z.symm (s3.extBut _ _ D.TOz.symm (s2.extBut _ _ D.i1z.symm z1)))
 have k5:∀c o,c≠z->c≠TO->c≠i1->c≠i2->s.heap.get? c=some o->h5.get? c=some o:=λc o c1 c2 c3 c4 e=>s5.extBut _ _ c2 (s4.extBut _ _ c4 (s3.extBut _ _ c2 (s2.extBut _ _ c3 (s1.extBut _ _ c1 e))))
 have a5:h5.IsTupleIter i1 l1 (k+1):=g_ (g_ (g_ it2 s3.extBut D.TOi1.symm) s4.extBut D.i12) s5.extBut D.TOi1.symm
 have b5:h5.IsListIter i2 l2 (k+1):=it4.extBut s5.extBut D.TOi2.symm
 have zlt:z<h5.objs.size:=AU z5
 show wpAny _ _ (EI (.ref z) (.ref h5.objs.size) >>= _) _ _ _
 refine AA ?_;unfold EI
 have z6:IsZip (h5.push {cls:=.type "tuple",data:=.seq #[x,y]}) z TI TO .ellipsis:=AE _ z5
 refine AA (Bi z6 (by simp) λh7 z7 s7=>?_)
 replace z7:IsZip h7 z TI TO (Ap h5.objs.size):=z7
 refine Bi z7 (by simp) λh8 z8 s8=>?_
 replace z8:IsZip h8 z TI TO (Ap h5.objs.size):=z8
 have up:∀c o,c≠z->h5.get? c=some o->h8.get? c=some o:=λc o c1 e=>s8.extBut _ _ c1 (s7.extBut _ _ c1 (AE _ e))
 have T8:DZ h8 h5.objs.size x y:=s8.extBut _ _ (CQ zlt) (s7.extBut _ _ (CQ zlt) (AO _ rfl))
 have e8:h8.objs.size=h5.objs.size+1:=by rw[s8.1,s7.1,Ax]
 rw[sz] at z8 T8 e8
 refine AG ⟨_,rfl,?_⟩;show Q (.ref h5.objs.size) _;rw[sz]
 exact q h8 z8 (up _ _ D.TOz O5) (let ⟨o,ho,r⟩:=a5;⟨o,up _ _ D.i1z ho,r⟩) (b5.at λo e=>up _ o D.i2z e) T8 e8 λc o c1 c2 c3 c4 e=>up c o c1 (k5 c o c1 c2 c3 c4 e)
theorem SK{z TI TO i1 i2 l1 l2:Addr}{k:Nat}{xs ys:Array Value}{a b:Value}{Q:Fin->AH->Prop}(hh:A.handled=none)(D:JO z TI TO i1 i2 l1 l2)(gz:IsZip s.heap z TI TO .none)(gI:DZ s.heap TI (.ref i1) (.ref i2))(gO:DZ s.heap TO a b)
  (g1:s.heap.IsTupleIter i1 l1 k) (g2:s.heap.IsListIter i2 l2 k) (m1:s.heap.IsTuple l1 xs) (m2:s.heap.IsList l2 ys) (ex:xs[k]? =none)
  (q:∀h' e,(∀c o,c≠z->c≠TO->c≠i1->c≠i2->s.heap.get? c=some o->h'.get? c=some o)->(∃o,h'.get? e=some o/\o.cls=.type "StopIteration")->E (.ref e) {s with heap:=h'}):
  wpAny (model prog w) A (Builtin.«zip.__next__» ⟨[.ref z],[]⟩) Q E s:=by
 show wpAny _ _ (field (.ref z) 2 >>= _) _ _ _;refine AA (B2 gz rfl (x:=.bool false) rfl ?_)
 show wpAny _ _ (field (.ref z) 3 >>= _) _ _ _;refine AA (B2 gz rfl (x:=.ref TI) rfl ?_);refine AA (Cb gI rfl ?_)
 show wpAny _ _ (CP (.ref z) >>= _) _ _ _;refine AA ?_;unfold CP
 refine AA (B2 gz rfl (x:=.none) rfl (AG ?_));simp only[if_true];refine AA (Cw ?_)
 refine AA (B2 gz rfl (x:=.ref TO) rfl ?_);refine AA (Bi gz (by simp) λh1 z1 s1=>?_)
 replace z1:IsZip h1 z TI TO .ellipsis:=z1
 refine AA ?_;simp only[List.zipIdx_cons,List.zipIdx_nil,Dl,GO];refine AA (AA (Il ?_))
 show wpAny _ _ (B3 (.ref i1) >>= _) _ _ _;refine AA (mT hh (g_ g1 s1.extBut D.i1z) (xx m1 s1.extBut D.l1z) ex λh2 e s2 he=>?_)
 obtain⟨oe,hoe,hce⟩:=he
 have z2:IsZip h2 z TI TO .ellipsis:=s2 _ _ D.i1z.symm z1
 have nez:e≠z:=λx=>by subst x;rw[z2] at hoe;cases hoe;simp at hce
 refine Bi z2 (by simp) λh3 _ s3=>q h3 e (λc o c1 _ c3 _ x=>s3.extBut _ _ c1 (s2 _ _ c3 (s1.extBut _ _ c1 x))) ⟨oe,s3.extBut _ _ nez hoe,hce⟩
theorem Qe{z TI TO i1 i2 l1 l2:Addr}{k:Nat}{xs ys:Array Value}{x y a b:Value}{Q:Option Value->AH->Prop}(D:JO z TI TO i1 i2 l1 l2)(gz:IsZip s.heap z TI TO .none)(gI:DZ s.heap TI (.ref i1) (.ref i2))(gO:DZ s.heap TO a b)
  (g1:s.heap.IsTupleIter i1 l1 k) (g2:s.heap.IsListIter i2 l2 k) (m1:s.heap.IsTuple l1 xs) (m2:s.heap.IsList l2 ys) (ex:xs[k]? =some x) (ey:ys[k]? =some y)
  (q:∀h',IsZip h' z TI TO (Ap s.heap.objs.size)->DZ h' TO x y->h'.IsTupleIter i1 l1 (k+1)->h'.IsListIter i2 l2 (k+1)->DZ h' s.heap.objs.size x y->h'.objs.size=s.heap.objs.size+1->
   (∀c o,c≠z->c≠TO->c≠i1->c≠i2->s.heap.get? c=some o->h'.get? c=some o)->Q (some (.ref s.heap.objs.size)) {s with heap:=h'}):wpAny (model prog w) A (C1 (.ref z)) Q E s:=by
 have ty:s.TypeIs (.ref z) "zip":=⟨_,gz,rfl⟩
 unfold C1
 exact AA (C5 (BF (name:=CH "__next__") ty Du (BK Du ty HV (Qd D gz gI gO g1 g2 m1 m2 ex ey λh' a1 a2 a3 a4 a5 a6 a7=>AG (q h' a1 a2 a3 a4 a5 a6 a7)) (HD _))))
theorem N3{z TI TO i1 i2 l1 l2:Addr}{k:Nat}{xs ys:Array Value}{a b:Value}{Q:Option Value->AH->Prop}(hh:A.handled=none)(D:JO z TI TO i1 i2 l1 l2)(gz:IsZip s.heap z TI TO .none)(gI:DZ s.heap TI (.ref i1) (.ref i2))(gO:DZ s.heap TO a b)
  (g1:s.heap.IsTupleIter i1 l1 k) (g2:s.heap.IsListIter i2 l2 k) (m1:s.heap.IsTuple l1 xs) (m2:s.heap.IsList l2 ys) (ex:xs[k]? =none)
  (q:∀h',(∀c o,c≠z->c≠TO->c≠i1->c≠i2->s.heap.get? c=some o->h'.get? c=some o)->Q none {s with heap:=h'}):wpAny (model prog w) A (C1 (.ref z)) Q E s:=by
 have ty:s.TypeIs (.ref z) "zip":=⟨_,gz,rfl⟩
 unfold C1
 refine AA (C5 (BF (name:=CH "__next__") ty Du (BK Du ty HV (SK hh D gz gI gO g1 g2 m1 m2 ex λh' e hk he=>?_) (HD _))))
 obtain⟨o,ho,hc⟩:=he
 exact AA (D' (T:="StopIteration") (b:=true) ⟨o,ho,hc⟩ isSubtype_stop (AG (q _ hk)))
abbrev Qf (h:Heap)(l1 l2:Addr):Heap:=(h.push (P0 l1)).push (itL l2)
abbrev UP (h:Heap)(l1 l2:Addr):Heap:=(Qf h l1 l2).push {cls:=.type "tuple",data:=.seq #[.ref h.objs.size,.ref (h.push (P0 l1)).objs.size]}
abbrev Qg (h:Heap)(l1 l2:Addr):Heap:=(UP h l1 l2).push {cls:=.type "tuple",data:=.seq #[.none,.none]}
abbrev xB (h:Heap)(l1 l2:Addr):Heap:=(Qg h l1 l2).push {cls:=.type "zip",data:=.fields #[.none,.bool false,.bool false,.ref (Qf h l1 l2).objs.size,.ref (UP h l1 l2).objs.size]}
theorem N4(l1 l2:Addr)(xs ys:Array Value):Meets (Builtin.«zip.__new__» ⟨[.type "zip",.ref l1,.ref l2],[]⟩) (λ_ R s=>s.heap.IsTuple l1 xs/\s.heap.IsList l2 ys/\R (.ok (.ret (.ref (Qg s.heap l1 l2).objs.size))) {s with heap:=xB s.heap l1 l2}):=
 .of_wp λprog w A R s h=>by
  obtain⟨hp,g,d,tk,os⟩:=s;obtain⟨m1,m2,h⟩:=h
  have hsub:=PySem.sub_zip
  have L1:Heap.IsTuple (JX ⟨hp,g,d,tk,os⟩) l1 xs:=m1
  have L2:Heap.IsList (JX ⟨hp.push (P0 l1),g,d,tk,os⟩) l2 ys:=let ⟨o,ho,r⟩:=m2;⟨o,AE _ ho,r⟩
  wp_walk using C9 L1,Dv L2
  exact⟨_,rfl,h⟩
theorem Qh{l1 l2:Addr}{xs ys:Array Value}{Q:Value->AH->Prop}(m1:s.heap.IsTuple l1 xs)(m2:s.heap.IsList l2 ys)
  (q:∀h',IsZip h' (s.heap.objs.size+4) (s.heap.objs.size+2) (s.heap.objs.size+3) .none->DZ h' (s.heap.objs.size+2) (.ref s.heap.objs.size) (.ref (s.heap.objs.size+1))->
   DZ h' (s.heap.objs.size+3) .none .none->h'.IsTupleIter s.heap.objs.size l1 0->h'.IsListIter (s.heap.objs.size+1) l2 0->
   (∀c o,s.heap.get? c=some o->h'.get? c=some o)->Q (.ref (s.heap.objs.size+4)) {s with heap:=h'}):wpAny (model prog w) A (call (.type "zip") [.ref l1,.ref l2]) Q E s:=by
 refine callType_new PySem.F.called_zip (by decide) (PySem.F.typeCall_zip_2 _ _) (PySem.F.newCall_zip_2 _ _) (λobj=>PySem.F.args_object_init_3 obj _ _) PySem.F.entry_zip_new (N4 l1 l2 xs ys) ⟨m1,m2,?_⟩
 have e1:(s.heap.push (P0 l1)).objs.size=s.heap.objs.size+1:=Ax ..
 have e2:(Qf s.heap l1 l2).objs.size=s.heap.objs.size+2:=by rw[Ax,e1]
 have e3:(UP s.heap l1 l2).objs.size=s.heap.objs.size+3:=by rw[Ax,e2]
 have e4:(Qg s.heap l1 l2).objs.size=s.heap.objs.size+4:=by rw[Ax,e3]
 have p5:(xB s.heap l1 l2).get? (Qg s.heap l1 l2).objs.size=some _:=AO _ rfl
 have up:∀{c:Addr} {o:Obj},(Qg s.heap l1 l2).get? c=some o->(xB s.heap l1 l2).get? c=some o:=λx=>AE _ x
 have p4:(xB s.heap l1 l2).get? (UP s.heap l1 l2).objs.size=some _:=up (AO _ rfl)
 have p3:(xB s.heap l1 l2).get? (Qf s.heap l1 l2).objs.size=some _:=up (AE _ (AO _ rfl))
 have Yz:∀{c:Addr} {o:Obj},(Qf s.heap l1 l2).get? c=some o->(xB s.heap l1 l2).get? c=some o:=λx=>up (AE _ (AE _ x))
 have p2:(xB s.heap l1 l2).get? (s.heap.push (P0 l1)).objs.size=some _:=Yz (AO _ rfl)
 have p1:(xB s.heap l1 l2).get? s.heap.objs.size=some _:=Yz (AE _ (AO _ rfl))
 show _/\_
 rw[e2,e3,e4] at p5
 rw[e1,e2] at p3
 rw[e3] at p4
 rw[e1] at p2
 rw[e4]
 exact⟨⟨_,p5,rfl⟩,q _ p5 p3 p4 ⟨_,p1,rfl,rfl⟩ ⟨_,p2,rfl,rfl⟩ λc o x=>Yz (AE _ (AE _ x))⟩
end
def SM(K:AD)(a b:Addr):It:=
 ⟨λi H=>∃xs ys x y,aY K H a xs/\bG K H b ys/\xs[i]? =some x/\ys[i]? =some y,
  λi H v H'=>∃x y p,(∀xs,aY K H a xs->xs[i]? =some x)/\(∀ys,bG K H b ys->ys[i]? =some y)/\H p=none/\v=.ref p/\H'=upd H p (.tup [x,y]),
  λi H=>∃xs ys,aY K H a xs/\bG K H b ys/\xs.length<=i⟩
theorem Qi{P:Af}{w:World}{K:AD}{elts:List Expr}{x1}{tpos:Pos}(a b z TI TO i1 i2:Addr)(D:JO z TI TO i1 i2 a b):
  Turn P w K (.Tuple elts x1 tpos) (SM K a b) [z,TO,i1,i2,TI] z (λi h=>IsZip h z TI TO .none/\DZ h TI (.ref i1) (.ref i2)/\(∃x y,DZ h TO x y)/\h.IsTupleIter i1 a i/\h.IsListIter i2 b i) where
 mem:=by simp
 obj:=λi h st c hc=>by
  obtain⟨hz,hTI,⟨x,y,hTO⟩,h1,h2⟩:=st
  have hc':c=z∨c=TO∨c=i1∨c=i2∨c=TI:=by simpa using hc
  rcases hc' with q | q | q | q | q
  ·subst q;exact⟨_,hz,λv e=>nomatch e⟩
  ·subst q;exact⟨_,hTO,λv e=>nomatch e⟩
  ·subst q
   obtain⟨o,e,_,d⟩:=h1
   exact⟨o,e,λv q=>by rw[d] at q;cases q⟩
  ·subst q
   obtain⟨o,e,_,d⟩:=h2
   exact⟨o,e,λv q=>by rw[d] at q;cases q⟩
  ·subst q;exact⟨_,hTI,λv e=>nomatch e⟩
 keep:=λi h h' st k=>by
  obtain⟨hz,hTI,⟨x,y,hTO⟩,h1,h2⟩:=st
  exact⟨k z (by simp) _ hz,k TI (by simp) _ hTI,⟨x,y,k TO (by simp) _ hTO⟩,let ⟨o,ho,r⟩:=h1;⟨o,k i1 (by simp) o ho,r⟩,h2.at λo q=>k i2 (by simp) o q⟩
 item:=by
  intro X hP hw hK hc i pins s σ H E I hf st hg
  subst hP hw hK
  obtain⟨hz,hTI,⟨u1,u2,hTO⟩,h1,h2⟩:=st
  obtain⟨xs,ys,x,y,hq,hq2,hx,hy⟩:=hg
  obtain⟨its,rv,p,_⟩:=I.tuple hq
  obtain⟨its2,Ji,p2,_⟩:=I.list hq2
  obtain⟨u,hu,ru⟩:=rv.get hx
  obtain⟨v,hv,rv'⟩:=Ji.get hy
  refine Qe D hz hTI hTO h1 h2 (show s.heap.IsTuple a its.toArray from p) p2.isList (x:=u) (y:=v) (by simpa using hu) (by simpa using hv) λh1' a1 a2 a3 a4 a5 a6 kk=>?_
  have nn:H s.heap.objs.size=none:=I.hok.fresh (AK _)
  have YA:∀c∈[z,TO,i1,i2],iY X pins H c:=λc hc=>hf c (by
   have hc':c=z∨c=TO∨c=i1∨c=i2:=by simpa using hc
   rcases hc' with q | q | q | q<;>simp[q])
  have I1:Inv X pins σ (upd H s.heap.objs.size (.tup [x,y])) {s with heap:=h1',toks:=s.toks}:=
   I.rX (ch:=[z,TO,i1,i2]) YA (λc o hc q=>kk c o (λe=>hc (by simp[e])) (λe=>hc (by simp[e])) (λe=>hc (by simp[e])) (λe=>hc (by simp[e])) q) (AK _)
    ⟨⟨by show 2<=sizeLine;decide,_,a5,rfl⟩,[u,v],.cons ru (.cons rv' .nil),⟨_,a5,rfl,_,rfl⟩⟩
  have lz:z<s.heap.objs.size:=AU hz
  have lTI:TI<s.heap.objs.size:=AU hTI
  have lTO:TO<s.heap.objs.size:=AU hTO
  have l1:i1<s.heap.objs.size:=by obtain⟨o,q,_⟩:=id h1;exact AU q
  have l2:i2<s.heap.objs.size:=by obtain⟨o,q,_⟩:=id h2;exact AU q
  refine⟨_,rfl,wpAny_letOwnedTupleGo_zip a1 λh2' e2 sb=>?_⟩
  obtain⟨f0,f1,f2,f3,f4,f5⟩:=hf z (by simp)
  have I2:=I1.turned (h':=h2') (t':=s.toks) (it:=z) (λc o hc q=>(sb.2 c hc).trans q) (by rw[aD (Ac lz)];exact f0) f1 f3 f4 f5
  refine⟨.ref s.heap.objs.size,_,I2,rfl,⟨x,y,s.heap.objs.size,λzs hy=>by rw[I.my hy hq];exact hx,λzs hz'=>by rw[I.oi hz' hq2];exact hy,nn,rfl,rfl⟩,
   ⟨e2,(sb.2 TI D.TIz).trans (kk _ _ D.TIz D.TITO D.TIi1 D.TIi2 hTI),⟨_,_,(sb.2 TO D.TOz).trans a2⟩,let ⟨o,ho,r⟩:=a3;⟨o,(sb.2 i1 D.i1z).trans ho,r⟩,a4.at λo q=>(sb.2 i2 D.i2z).trans q⟩,λc hc=>?_⟩
  have hlt:c<s.heap.objs.size:=by
   have hc':c=z∨c=TO∨c=i1∨c=i2∨c=TI:=by simpa using hc
   rcases hc' with q | q | q | q | q
   ·rw[q];exact lz
   ·rw[q];exact lTO
   ·rw[q];exact l1
   ·rw[q];exact l2
   ·rw[q];exact lTI
  rw[aD (Ac hlt)]
  exact(hf c hc).1
 done:=by
  intro X hP hw hK hc i pins s σ H E I hf st hg
  subst hP hw hK
  obtain⟨hz,hTI,⟨u1,u2,hTO⟩,h1,h2⟩:=st
  obtain⟨xs,ys,hq,hq2,hx⟩:=hg
  obtain⟨its,rv,p,_⟩:=I.tuple hq
  obtain⟨its2,Ji,p2,_⟩:=I.list hq2
  have hl:=rv.length
  have YA:∀c∈[z,TO,i1,i2],iY X pins H c:=λc hc=>hf c (by
   have hc':c=z∨c=TO∨c=i1∨c=i2:=by simpa using hc
   rcases hc' with q | q | q | q<;>simp[q])
  exact N3 (I.ok.hd hc) D hz hTI hTO h1 h2 (show s.heap.IsTuple a its.toArray from p) p2.isList (by simp;omega) λh' kk=>
   ⟨rfl,I.Wn (t':=s.toks) (ch:=[z,TO,i1,i2]) YA (λc o hc q=>kk c o (λe=>hc (by simp[e])) (λe=>hc (by simp[e])) (λe=>hc (by simp[e])) (λe=>hc (by simp[e])) q)⟩
 self:=λ_ _ _ _ _ st h=>wpAny_pyIter_zip st.1 h
def ab'(K:AD)(ta:TA):TI:=λσ H R=>ta σ H λvs H1=>∃a b,vs=[.ref a,.ref b]/\(∃xs,aY K H1 a xs)/\(∃ys,bG K H1 b ys)/\R (SM K a b) H1
theorem WD{X:Cx}{elts:List Expr}{x1}{tpos:Pos}{a b:Expr}{ta:TA}{p pos:Pos}(hg:Gl X "zip")(hm:X.mg "zip"=none)(ha:PA X [a,b] ta)
  (hs:BO [a,b] X.env=[(false,eval a X.env),(false,eval b X.env)]:=by rfl) (hs2:BO [b] X.env=[(false,eval b X.env)]:=by rfl):
  PI X (.Tuple elts x1 tpos) (.Call (.Name "zip" p) [a,b] [] pos) (ab' X.K ta):=by
 intro pins s σ H R I h
 refine Call_ (gY I hg hm boot_zip (Bd (aK (ha pos pins s σ H _ I h) λus s1 ⟨vs,H1,I1,r1,q1⟩=>?_) (by rw[hs,hs2]) (by rw[hs2];rfl)))
 obtain⟨l1,l2,e,⟨xs,hq⟩,⟨ys,hq2⟩,q⟩:=q1
 subst e
 cases r1 with
 | cons r rr=>
  cases rr with
  | cons r' rr=>
   cases rr
   cases r
   cases r'
   obtain⟨its,rv,pl,_⟩:=I1.tuple hq
   obtain⟨its2,Ji,pl2,_⟩:=I1.list hq2
   have a1:l1<s1.heap.objs.size:=by obtain⟨_,e,_⟩:=(show s1.heap.IsTuple l1 its.toArray from pl);exact AU e
   have a2:l2<s1.heap.objs.size:=by obtain⟨_,e,_⟩:=pl2.isList;exact AU e
   refine Qh (show s1.heap.IsTuple l1 its.toArray from pl) pl2.isList λh' hz hTI hTO hi1 hi2 kk=>?_
   have I2:Inv X pins σ H1 {s1 with heap:=h'}:=I1.kept (t':=s1.toks) kk
   refine wpAny_pyIter_zip hz ?_
   refine⟨s1.heap.objs.size+4,[s1.heap.objs.size+4,s1.heap.objs.size+3,s1.heap.objs.size,s1.heap.objs.size+1,s1.heap.objs.size+2],_,_,H1,rfl,I2,Qi l1 l2 _ _ _ _ _ (zipApart_new a1 a2),⟨hz,hTI,⟨_,_,hTO⟩,hi1,hi2⟩,λc hc=>?_,q⟩
   have hle:s1.heap.objs.size<=c:=by
    have hc':c=s1.heap.objs.size+4∨c=s1.heap.objs.size+3∨c=s1.heap.objs.size∨c=s1.heap.objs.size+1∨c=s1.heap.objs.size+2:=by simpa using hc
    rcases hc' with q | q | q | q | q<;>(rw[q];first | exact Nat.le_add_right _ _ | exact AK _)
   exact I1.mS hle (I1.hok.fresh hle)
theorem Qj{K:AD}{a b:Addr}{xs ys:List V}{g:TG}{tt:TT}{te:TE}{D:Addr}{σ:St}{H:Hp}{R:Hp->Prop}(Pv:Nat->St->Hp->Prop)(hlen:xs.length=ys.length)(h0:Pv 0 σ H)(hl:∀i σ H,i<=xs.length->Pv i σ H->aY K H a xs/\bG K H b ys)
  (hs:∀i x y p σ H,xs[i]? =some x->ys[i]? =some y->Pv i σ H->H p=none->g (.ref p) σ (upd H p (.tup [x,y])) λσ2 H2=>tt σ2 H2 λb H3=>if b=true then te σ2 H3 λy H4=>∃ys,H4 D=some (.lst ys)/\ys.length<sizeLine/\Pv (i+1) σ2 (upd H4 D (.lst (ys++[y]))) else Pv (i+1) σ2 H3)
  (hd:∀σ H,Pv xs.length σ H->R H):oy (SM K a b) g tt te D σ H R:=by
 refine⟨λi m σ H=>m=xs.length-i/\i<=xs.length/\Pv i σ H,⟨xs.length,by simp,BI _,h0⟩,?_⟩
 rintro i m σ H ⟨rfl,hi,p⟩
 obtain⟨q1,q2⟩:=hl i σ H hi p
 by_cases hlt:i<xs.length
 ·refine .inr ⟨⟨xs,ys,xs[i],ys[i]'(by omega),q1,q2,by simp[hlt],by simp[hlen▸hlt]⟩,Pv (i+1),λσ' H' p'=>⟨xs.length-(i+1),by omega,rfl,hlt,p'⟩,λv H' y=>?_⟩
  obtain⟨x,y,p',e1,e2,e3,rfl,rfl⟩:=y
  exact hs i x y p' σ H (e1 xs q1) (e2 ys q2) p e3
 ·have e:i=xs.length:=by omega
  subst e
  exact .inl ⟨⟨xs,ys,q1,q2,AK _⟩,hd σ H p⟩
section
variable{X:Cx}
def aca(K:AD):R2:=λx y H Q=>∃(a b:Addr) (xs ys:List V),x=.ref a/\y=.ref b/\H a=some (.tup xs)/\H b=some (.tup ys)/\xs.length+ys.length<=sizeLine/\∀u H',Same H H'->H' u=some (.tup (xs++ys))->Q (.ref u) H'
theorem vG(K:AD)(hK:X.K=K:=by rfl):cL X (DL .Add) (aca K):=by
 subst hK
 intro pins s σ H x y v u Q I rx ry h
 obtain⟨a,b,xs,ys,rfl,rfl,ha,hb,hz,q⟩:=h
 by_cases hx:xs=[]
 ·subst hx
  exact Mn pins s σ H _ _ v u Q I rx ry ⟨a,b,ys,rfl,rfl,.of ha,.of hb,q b H (.refl _) hb⟩
 ·exact Mf pins s σ H _ _ v u Q I rx ry ⟨a,b,xs,ys,rfl,rfl,.of ha,.of hb,hx,hz,λz=>q a H (.refl _) (by rw[z,Bg];exact ha),λ_ p hp=>q p _ (Same.new hp) af⟩
end
section
variable{X:Cx}{pins:List (Addr×Obj)}{σ:St}{H:Hp}{s:AH}
theorem xC(n:Nat){v:Value}{A:A0}{E:Value->AH->Prop}{P:Af}{w:World}{s:AH}{Q:Bool->AH->Prop}(h:carriedByValue v=true)(q:Q true s):wpAny (model P w) A (IV n v) Q E s:=by
 rw[eqIsQuiet_byValue n h];exact AG q
theorem xD{n:Nat}{a:Addr}{vs:List Value}{A:A0}{E:Value->AH->Prop}{P:Af}{w:World}{s:AH}{Q:Bool->AH->Prop}(ht:IsTup s.heap a vs.toArray)(hq:∀v∈vs,∀Q':Bool->AH->Prop,Q' true s->wpAny (model P w) A (IV n v) Q' E s)(q:Q true s):wpAny (model P w) A (IV (n+1) (.ref a)) Q E s:=by
 obtain⟨o,ho,hc,m,hd⟩:=ht
 have hT:s.TypeIs (.ref a) "tuple":=⟨o,ho,hc⟩
 unfold IV
 refine AA (Dk hT PySem.F.slot_tuple_eq.lookup (show wpAny _ _ (isInstance (.ref a) (.type "tuple") >>= _) _ _ s from AA (D' hT isSubtype_tuple_tuple ?_)))
 simp only[C6,A',if_false]
 refine AA (Cb ho hd (AA ?_))
 show wpAny _ _ (forIn vs.toArray _ _) _ _ s
 rw[<-Ec]
 refine D_ _ (λrest r s'=>r.1=none/\s'=s/\∀v∈rest,v∈vs) _ (λv rest r s' ⟨hr,hs,hall⟩=>?_) (λ⟨r1,r2⟩ s' ⟨hr,hs,_⟩=>?_) _ _ ⟨rfl,rfl,λv hv=>hv⟩
 ·subst hs
  refine AA (hq v (hall v AQ) _ ?_)
  simp only[C6,A',if_false]
  exact AG ⟨rfl,rfl,λz hz=>hall z (AM _ hz)⟩
 ·subst hs
  simp only at hr
  subst hr
  exact AG q
end
end L2
set_option maxHeartbeats 8000000
set_option maxHeartbeats 8000000
namespace L2
open PySem PySem.Spec PyProof.Rows
theorem Jj{v v':V}{u:Value}(h:RelV v u)(h':RelV v' u):v=v':=by
 cases v<;>cases v'<;>simp only[RelV] at h h'<;>first
  | (subst h;obtain⟨t,e⟩:=h';cases e;done)
  | (obtain⟨t,rfl⟩:=h;obtain⟨t',e⟩:=h';cases e;done)
  | (obtain⟨t,rfl⟩:=h;obtain⟨t',e⟩:=h';cases e;rfl)
  | (obtain⟨t,rfl⟩:=h;cases h';done)
  | (subst h;cases h';done)
  | (subst h;cases h';rfl)
  | rfl
end L2
set_option maxHeartbeats 8000000
set_option maxHeartbeats 8000000
set_option maxHeartbeats 8000000
set_option maxHeartbeats 8000000
set_option maxHeartbeats 8000000
namespace L2
open PySem PySem.Spec PyProof.Rows
theorem jJ{α β:Type}{R:α->β->Prop}:∀{l:List α} {m:List β} {i:Nat} {x:β},BV R l m->m[i]? =some x->∃y,l[i]? =some y/\R y x
 | _,_,_,_,.nil,e=>by simp at e
 | _,_,0,_,.cons r _,e=>by simp at e;subst e;exact⟨_,rfl,r⟩
 | _,_,i+1,_,.cons _ t,e=>by
  simp only[B0] at e ⊢
  exact jJ t e
theorem cX{α β:Type}{R:α->β->Prop}:∀{l:List α} {m:List β},BV R l m->l.length=m.length
 | _,_,.nil=>rfl
 | _,_,.cons _ t=>by rw[Aj,Aj,cX t]
end L2
namespace L2
open PySem
namespace ST
abbrev Pr:=SetTable.Probe
def nL(m:Nat)(p:Pr):Pr:=if p.more>0 then {p with j:=p.j+1,more:=p.more-1} else {p with j:=(C7 m p.i p.perturb).1,more:=BA m (C7 m p.i p.perturb).1-(C7 m p.i p.perturb).1,i:=(C7 m p.i p.perturb).1,perturb:=(C7 m p.i p.perturb).2}
theorem uC(t:SetTable)(p:Pr):t.advance p=nL t.mask p:=by unfold SetTable.advance nL;rfl
def at_(m i b:Nat):Pr:=⟨i,BA m i-i,i,b,none⟩
def aU(m:Nat)(h:Int):Nat->Pr
 | 0=>at_ m (Bn h % (m+1)) (Bn h)
 | n+1=>nL m (aU m h n)
def go(m:Nat)(p:Pr):Nat->Pr
 | 0=>p
 | n+1=>go m (nL m p) n
theorem go_succ(m:Nat):∀(n:Nat) (p:Pr),go m p (n+1)=nL m (go m p n)
 | 0,p=>rfl
 | n+1,p=>go_succ m n (nL m p)
theorem Jk(m:Nat)(h:Int):∀n k,aU m h (k+n)=go m (aU m h k) n
 | 0,k=>rfl
 | n+1,k=>by rw[go_succ,<-Jk m h n k];rfl
theorem YB(m i:Nat):BA m i-i<=9:=by unfold BA;split<;>omega
theorem Jl(m i b:Nat):∀k,k<=BA m i-i->go m (at_ m i b) k=⟨i+k,BA m i-i-k,i,b,none⟩
 | 0,_=>by show at_ m i b=_;unfold at_;simp
 | k+1,hk=>by
  rw[go_succ,Jl m i b k (by omega)]
  unfold nL
  rw[if_pos (show(⟨i+k,BA m i-i-k,i,b,none⟩:Pr).more>0 by show BA m i-i-k>0;omega)]
  show(⟨i+k+1,BA m i-i-k-1,i,b,none⟩:Pr)=_
  rw[show i+k+1=i+(k+1) by omega,show BA m i-i-k-1=BA m i-i-(k+1) by omega]
theorem SN(m i b:Nat):go m (at_ m i b) (BA m i-i+1)=at_ m (C7 m i b).1 (C7 m i b).2:=by
 rw[go_succ,Jl m i b _ (AK _)]
 unfold nL
 rw[if_neg (by show ¬(BA m i-i-(BA m i-i)>0);omega)]
 rfl
def lp(m:Nat)(h:Int):Nat->Nat×Nat
 | 0=>(Bn h % (m+1),Bn h)
 | k+1=>C7 m (lp m h k).1 (lp m h k).2
def cnt(m:Nat)(h:Int):Nat->Nat
 | 0=>0
 | k+1=>cnt m h k+(BA m (lp m h k).1-(lp m h k).1+1)
theorem Qk(m:Nat)(h:Int):∀k,cnt m h k<=10*k
 | 0=>AK _
 | k+1=>by have:=Qk m h k;have:=YB m (lp m h k).1;unfold cnt;omega
theorem vH(m:Nat)(h:Int):∀k,aU m h (cnt m h k)=at_ m (lp m h k).1 (lp m h k).2
 | 0=>rfl
 | k+1=>by
  unfold cnt
  rw[Jk,vH m h k,SN];rfl
theorem uD(m:Nat)(h:Int):∀k,(lp m h k).2=Bn h / 32 ^ k
 | 0=>by simp[lp]
 | k+1=>by
  show(lp m h k).2 / 32=_
  rw[uD m h k,Nat.div_div_eq_div_mul,Cp]
theorem WE(h:Int):Bn h<2 ^ 64:=by
 unfold Bn
 have h1:=DF h (show(0:Int)<2 ^ 64 by decide)
 have h2:=Cy h (show(2 ^ 64:Int)≠0 by decide)
 omega
theorem SO(m:Nat)(h:Int)(k:Nat)(hk:13<=k):(lp m h k).2=0:=by
 rw[uD]
 refine Nat.div_eq_of_lt (AZ (WE h) ?_)
 calc(2:Nat) ^ 64<=32 ^ 13:=by decide
  _<=32 ^ k:=BP (by decide) hk
def f5(m i:Nat):Nat:=(i*5+1) % (m+1)
def lH(m:Nat):Nat->Nat->Nat
 | 0,i=>i
 | n+1,i=>f5 m (lH m n i)
theorem qO(m:Nat)(a:Nat)(i:Nat):∀b,lH m (a+b) i=lH m b (lH m a i)
 | 0=>rfl
 | b+1=>by show f5 m (lH m (a+b) i)=_;rw[qO m a i b];rfl
theorem UQ(m:Nat)(h:Int):∀q,(lp m h (13+q)).1=lH m q (lp m h 13).1
 | 0=>rfl
 | q+1=>by
  show((lp m h (13+q)).1*5+1+(lp m h (13+q)).2 / 32) % (m+1)=_
  rw[SO m h (13+q) (by omega),UQ m h q]
  rfl
theorem UR(m:Nat)(h:Int):∀k,(lp m h k).1<=m
 | 0=>by show Bn h % (m+1)<=m;have:=DQ (Bn h) (show 0<m+1 by omega);omega
 | k+1=>by
  show((lp m h k).1*5+1+(lp m h k).2 / 32) % (m+1)<=m
  have:=DQ ((lp m h k).1*5+1+(lp m h k).2 / 32) (show 0<m+1 by omega);omega
def Mk(m:Nat):Prop:=m=7∨m=31∨m=127
theorem period{m:Nat}(hm:Mk m):lH m (m+1) 0=0/\∀j,j<=m->∃b,b<=m/\lH m b 0=j:=by
 have key:∀M:Nat,lH M (M+1) 0=0/\(∀j:Fin (M+1),(Ao (M+1)).any (λb=>lH M b 0 == j.val)=true)->lH M (M+1) 0=0/\∀j,j<=M->∃b,b<=M/\lH M b 0=j:=λM h=>⟨h.1,λj hj=>by
  have:=h.2 ⟨j,by omega⟩
  obtain⟨b,hb,e⟩:=List.any_eq_true.mp this
  have:=A4.mp hb
  exact⟨b,by omega,by simpa using e⟩⟩
 rcases hm with rfl | rfl | rfl
 ·exact key 7 (by decide+kernel)
 ·exact key 31 (by decide+kernel)
 ·exact key 127 (by decide+kernel)
theorem N5{m:Nat}(hm:Mk m)(n:Nat):lH m (n+(m+1)) 0=lH m n 0:=by
 rw[JP,qO,(period hm).1]
theorem Ql{m i j:Nat}(hm:Mk m)(hi:i<=m)(hj:j<=m):∃q,q<=m/\lH m q i=j:=by
 obtain⟨a,ha,ea⟩:=(period hm).2 i hi
 obtain⟨b,hb,eb⟩:=(period hm).2 j hj
 by_cases h:a<=b
 ·refine⟨b-a,by omega,?_⟩
  rw[<-ea,<-qO,show a+(b-a)=b by omega,eb]
 ·refine⟨b+(m+1)-a,by omega,?_⟩
  rw[<-ea,<-qO,show a+(b+(m+1)-a)=b+(m+1) by omega,N5 hm,eb]
theorem xE{m j:Nat}(hm:Mk m)(h:Int)(hj:j<=m):∃k,k<=13+m/\(lp m h k).1=j:=by
 obtain⟨q,hq,e⟩:=Ql hm (UR m h 13) hj
 exact⟨13+q,by omega,by rw[UQ,e]⟩
theorem SQ{m j:Nat}(hm:Mk m)(h:Int)(hj:j<=m):∃n,n<=10*(13+m)/\(aU m h n).j=j:=by
 obtain⟨k,hk,e⟩:=xE hm h hj
 have:=Qk m h k
 exact⟨cnt m h k,by omega,by rw[vH];exact e⟩
theorem sx(m:Nat)(h:Int):∀n,(aU m h n).dummy=none
 | 0=>rfl
 | n+1=>by
  show(nL m (aU m h n)).dummy=none
  unfold nL
  split
  ·exact sx m h n
  ·exact sx m h n
end ST
namespace ST
theorem gs{xs:List Nat}(hs:xs.Pairwise (· < ·)){i k a b:Nat}(hik:i<k)(ha:xs[i]? =some a)(hb:xs[k]? =some b):a<b:=by
 obtain⟨h1,e1⟩:=AF.mp ha
 obtain⟨h2,e2⟩:=AF.mp hb
 have:=List.pairwise_iff_getElem.mp hs i k h1 h2 hik
 rw[e1,e2] at this
 exact this
theorem sE{xs:Array Nat}{j:Nat}(hs:xs.toList.Pairwise (· < ·)):∀(fuel lo hi:Nat),lo<=hi->hi<=xs.size->hi-lo<=fuel->(∀i a,i<lo->xs.toList[i]? =some a->a<j)->(∀i a,hi<=i->xs.toList[i]? =some a->j<=a)->
  Ct xs j fuel lo hi<=xs.size/\(∀i a,i<Ct xs j fuel lo hi->xs.toList[i]? =some a->a<j)/\(∀i a,Ct xs j fuel lo hi<=i->xs.toList[i]? =some a->j<=a)
 | 0,lo,hi,h1,h2,h3,h4,h5=>by
  have:lo=hi:=by omega
  subst this
  unfold Ct
  exact⟨h2,h4,h5⟩
 | fuel+1,lo,hi,h1,h2,h3,h4,h5=>by
  unfold Ct
  by_cases hl:lo<hi
  ·rw[if_pos hl]
   have hm:(lo+hi) / 2<xs.size:=by omega
   have em:xs.toList[(lo+hi) / 2]? =some (xs.getD ((lo+hi) / 2) j):=by
    rw[A_,Bt,Av hm];rfl
   dsimp only
   by_cases hv:xs.getD ((lo+hi) / 2) j<j
   ·rw[if_pos hv]
    refine sE hs fuel _ hi (by omega) h2 (by omega) (λi a hi' ea=>?_) h5
    by_cases hq:i=(lo+hi) / 2
    ·rw[hq,em] at ea
     rw[<-AN ea];exact hv
    ·have:=gs hs (show i<(lo+hi) / 2 by omega) ea em
     omega
   ·rw[if_neg hv]
    refine sE hs fuel lo _ (by omega) (by omega) (by omega) h4 (λi a hi' ea=>?_)
    by_cases hq:i=(lo+hi) / 2
    ·rw[hq,em] at ea
     rw[<-AN ea];omega
    ·have:=gs hs (show(lo+hi) / 2<i by omega) em ea
     omega
  ·rw[if_neg hl]
   have:lo=hi:=by omega
   subst this
   exact⟨h2,h4,h5⟩
theorem uE{xs:Array Nat}(j:Nat)(hs:xs.toList.Pairwise (· < ·)):BL xs j<=xs.size/\(∀i a,i<BL xs j->xs.toList[i]? =some a->a<j)/\(∀i a,BL xs j<=i->xs.toList[i]? =some a->j<=a):=
 sE hs xs.size 0 xs.size (BI _) (AK _) (by omega) (λi a h=>by omega) (λi a h e=>by
  have:=(AF.mp e).1
  rw[Au] at this
  omega)
abbrev En:=Nat×(Int×Value)
structure TI (t:SetTable)(E:List En):Prop where
 ms:Mk t.mask
 pl:t.place=(E.map (·.1)).toArray
 dm:t.dummies= #[]
 up:(E.map (·.1)).Pairwise (· < ·)
 le:∀e∈E,e.1<=t.mask
 lt:E.length<=t.mask
 rc:∀e∈E,∃n,(aU t.mask e.2.1 n).j=e.1/\∀k,k<n->∃e'∈E,e'.1=(aU t.mask e.2.1 k).j
theorem TI.split{t:SetTable}{E:List En}(I:TI t E)(j:Nat):∃A B,E=A++B/\BL t.place j=A.length/\(∀e∈A,e.1<j)/\(∀e∈B,j<=e.1):=by
 have hs:t.place.toList.Pairwise (· < ·):=by rw[I.pl];exact I.up
 obtain⟨h1,h2,h3⟩:=uE j hs
 have hp:t.place.toList=E.map (·.1):=by rw[I.pl]
 have hz:t.place.size=E.length:=by rw[I.pl];simp
 refine⟨E.take (BL t.place j),E.drop (BL t.place j),(FE _ _).symm,by rw[Az];omega,λe he=>?_,λe he=>?_⟩
 ·obtain⟨i,hi⟩:=Ak he
  have hi2:i<BL t.place j:=by have:=(AF.mp hi).1;rw[Az] at this;omega
  rw[EN hi2] at hi
  exact h2 i e.1 hi2 (by rw[hp,AJ,hi];rfl)
 ·obtain⟨i,hi⟩:=Ak he
  rw[GP] at hi
  exact h3 (BL t.place j+i) e.1 (by omega) (by rw[hp,AJ,hi];rfl)
theorem TI.Jm{t:SetTable}{E:List En}(I:TI t E)(j:Nat):SetTable.has t.dummies j=false:=by rw[I.dm];rfl
theorem TI.Qm{t:SetTable}{E:List En}(I:TI t E){j:Nat}(h:∀e∈E,e.1≠j):t.slot j=.empty:=by
 obtain⟨A,B,e,hb,ha,hb2⟩:=I.split j
 unfold SetTable.slot
 dsimp only
 rw[hb,I.Jm,I.pl]
 have:((E.map (·.1)).toArray[A.length]? == some j)=false:=by
  rw[beq_eq_false_iff_ne]
  intro z
  rw[Bu,AJ] at z
  cases q:E[A.length]? with
  | none=>rw[q] at z;cases z
  | some x=>
   rw[q] at z
   exact h x (AI q) (AN z)
 rw[this];rfl
theorem TI.uniq{t:SetTable}{E:List En}(I:TI t E){i k:Nat}{a b:En}(ha:E[i]? =some a)(hb:E[k]? =some b)(h:a.1=b.1):i=k:=by
 have e1:(E.map (·.1))[i]? =some a.1:=by rw[AJ,ha];rfl
 have e2:(E.map (·.1))[k]? =some b.1:=by rw[AJ,hb];rfl
 rcases Gj i k with q | q | q
 ·have:=gs I.up q e1 e2;omega
 ·exact q
 ·have:=gs I.up q e2 e1;omega
theorem TI.xF{t:SetTable}{E:List En}(I:TI t E){i:Nat}{e:En}(h:E[i]? =some e):t.slot e.1=.live i:=by
 obtain⟨A,B,eE,hb,ha,hb2⟩:=I.split e.1
 have hi:i=A.length:=by
  by_cases q:i<A.length
  ·rw[eE,Am q] at h
   have:=ha e (AI h)
   omega
  ·by_cases q2:i=A.length
   ·exact q2
   ·
    have hil:=(AF.mp h).1
    have hAl:A.length<E.length:=by omega
    obtain⟨x,e2⟩:∃x,E[A.length]? =some x:=⟨_,Al hAl⟩
    have m2:x∈B:=by
     have e3:=e2
     rw[eE,Ag (AK _),B_] at e3
     exact AI e3
    have h1:=hb2 _ m2
    have h2:=gs I.up (show A.length<i by omega) (show(E.map (·.1))[A.length]? =some x.1 by rw[AJ,e2];rfl) (show(E.map (·.1))[i]? =some e.1 by rw[AJ,h];rfl)
    omega
 unfold SetTable.slot
 dsimp only
 rw[hb,<-hi,I.pl]
 have:((E.map (·.1)).toArray[i]? == some e.1)=true:=by
  rw[Bu,AJ,h];simp
 rw[this];rfl
def hAt(es:Array (Int×Value))(i:Nat):Int:=(es[i]?.map (·.1)).getD 0
theorem TI.WG{E:List En}{i:Nat}{e:En}(h:E[i]? =some e):hAt (E.map (·.2)).toArray i=e.2.1:=by
 unfold hAt
 rw[Bu,AJ,h];rfl
theorem TI.Jn{t:SetTable}{E:List En}(I:TI t E)(h:Int):∀(fuel n:Nat),(∃n',n<=n'/\n'<n+fuel/\∀e∈E,e.1≠(aU t.mask h n').j)->
  (∃n',n<=n'/\(∀e∈E,e.1≠(aU t.mask h n').j)/\(∀k,n<=k->k<n'->∃e∈E,e.1=(aU t.mask h k).j/\e.2.1≠h)/\Gk t (hAt (E.map (·.2)).toArray) h fuel (aU t.mask h n)=some (.empty (aU t.mask h n').j none))∨
  (∃n' i e,n<=n'/\(∀k,n<=k->k<n'->∃e∈E,e.1=(aU t.mask h k).j/\e.2.1≠h)/\E[i]? =some e/\e.1=(aU t.mask h n').j/\e.2.1=h/\Gk t (hAt (E.map (·.2)).toArray) h fuel (aU t.mask h n)=some (.candidate (aU t.mask h n').j i (aU t.mask h (n'+1))))
 | 0,n,hx=>by obtain⟨n',h1,h2,_⟩:=hx;omega
 | fuel+1,n,hx=>by
  unfold Gk
  by_cases hn:∀e∈E,e.1≠(aU t.mask h n).j
  ·refine .inl ⟨n,AK _,hn,λk a b=>by omega,?_⟩
   rw[I.Qm hn,sx]
  ·have:∃e∈E,e.1=(aU t.mask h n).j:=by
    simp only[Classical.not_forall,Classical.not_not] at hn
    obtain⟨e,he,q⟩:=hn
    exact⟨e,he,q⟩
   obtain⟨e,he,ej⟩:=this
   obtain⟨i,hi⟩:=Ak he
   have hl:=I.xF hi
   rw[ej] at hl
   rw[hl]
   dsimp only
   rw[TI.WG hi]
   by_cases hh:e.2.1=h
   ·refine .inr ⟨n,i,e,AK _,λk a b=>by omega,hi,ej,hh,?_⟩
    rw[if_pos (by simpa using hh),uC];rfl
   ·rw[if_neg (by simpa using hh),uC]
    have ih:=I.Jn h fuel (n+1) (by
     obtain⟨n',h1,h2,h3⟩:=hx
     refine⟨n',?_,by omega,h3⟩
     by_cases q:n'=n
     ·rw[q] at h3;exact absurd h3 hn
     ·omega)
    have pre:∀n',(∀k,n+1<=k->k<n'->∃e∈E,e.1=(aU t.mask h k).j/\e.2.1≠h)->∀k,n<=k->k<n'->∃e∈E,e.1=(aU t.mask h k).j/\e.2.1≠h:=λn' q k a b=>by
     by_cases z:k=n
     ·rw[z];exact⟨e,he,ej,hh⟩
     ·exact q k (by omega) b
    rcases ih with⟨n',a1,a2,a3,a4⟩ | ⟨n',i',e',a1,a2,a3,a4,a5,a6⟩
    ·exact .inl ⟨n',by omega,a2,pre n' a3,a4⟩
    ·exact .inr ⟨n',i',e',by omega,pre n' a2,a3,a4,a5,a6⟩
end ST
namespace ST
theorem gp{α:Type}[DecidableEq α]:∀{l m:List α},l.Nodup->(∀x∈l,x∈m)->l.length<=m.length
 | [],m,_,_=>BI _
 | a::l,m,nd,h=>by
  rw[B4] at nd
  have ha:=h a AQ
  have:=gp (l:=l) (m:=m.erase a) nd.2 λx hx=>(D5 (λ(z:x=a)=>nd.1 (by rw[<-z];exact hx))).mpr (h x (AM _ hx))
  rw[ET ha] at this
  have hp:0<m.length:=Dg ha
  rw[Aj];omega
theorem TI.Jo{t:SetTable}{E:List En}(I:TI t E)(h:Int):∃n,n<=10*(13+t.mask)/\∀e∈E,e.1≠(aU t.mask h n).j:=by
 have:∃j,j<=t.mask/\j ∉ E.map (·.1):=by
  apply BW
  intro hx
  have hall:∀j,j<=t.mask->j∈E.map (·.1):=λj hj=>BW λz=>hx ⟨j,hj,z⟩
  have:=gp (l:=Ao (t.mask+1)) (m:=E.map (·.1)) EC λx hx=>hall x (by have:=A4.mp hx;omega)
  rw[A2,AB] at this
  have:=I.lt
  omega
 obtain⟨j,hj,hn⟩:=this
 obtain⟨n,h1,h2⟩:=SQ I.ms h hj
 exact⟨n,h1,λe he q=>hn (As.mpr ⟨e,he,by rw[q,h2]⟩)⟩
theorem TI.SU{t:SetTable}{E:List En}(I:TI t E)(h:Int)(n:Nat)(hn:∀k,k<n->∃e∈E,e.1=(aU t.mask h k).j):
  (∃n',n<=n'/\(∀e∈E,e.1≠(aU t.mask h n').j)/\(∀k,n<=k->k<n'->∃e∈E,e.1=(aU t.mask h k).j/\e.2.1≠h)/\t.probe (hAt (E.map (·.2)).toArray) h (aU t.mask h n)=some (.empty (aU t.mask h n').j none))∨
  (∃n' i e,n<=n'/\(∀k,n<=k->k<n'->∃e∈E,e.1=(aU t.mask h k).j/\e.2.1≠h)/\E[i]? =some e/\e.1=(aU t.mask h n').j/\e.2.1=h/\t.probe (hAt (E.map (·.2)).toArray) h (aU t.mask h n)=some (.candidate (aU t.mask h n').j i (aU t.mask h (n'+1)))):=by
 refine I.Jn h _ n ?_
 obtain⟨n0,h1,h2⟩:=I.Jo h
 refine⟨n0,?_,?_,h2⟩
 ·apply BW
  intro q
  obtain⟨e,he,z⟩:=hn n0 (by omega)
  exact h2 e he z
 ·unfold D6
  omega
theorem TI.Qn{t:SetTable}{E:List En}(I:TI t E){h:Int}{n:Nat}{US:En->Prop}(he:∀e∈E,e.1≠(aU t.mask h n).j)(hn:∀k,k<n->∃e∈E,e.1=(aU t.mask h k).j/\¬US e)(hh:∀e∈E,US e->e.2.1=h):∀e∈E,¬US e:=λe hm hit=>by
 obtain⟨k,hk1,hk2⟩:=I.rc e hm
 rw[hh e hm hit] at hk1 hk2
 rcases Gj k n with q | q | q
 ·obtain⟨e',hm',e1,nh⟩:=hn k q
  obtain⟨i1,q1⟩:=Ak hm
  obtain⟨i2,q2⟩:=Ak hm'
  have:=I.uniq q1 q2 (by rw[<-hk1,e1])
  subst this
  rw[q1] at q2
  exact nh (AN q2▸hit)
 ·exact he e hm (by rw[<-hk1,q])
 ·obtain⟨e',hm',z⟩:=hk2 n q
  exact he e' hm' z
theorem rA{α:Type}(xs:Array α)(p:Nat)(x:α):(E4 xs p x).toList=xs.toList.take p++x::xs.toList.drop p:=by
 unfold E4
 rw[Array.toList_append,Ge,IK,IK,GW,GW]
 simp
 exact BD (by rw[CG,Au];exact AK _)
theorem TI.put{t:SetTable}{E:List En}(I:TI t E){h:Int}{x:Value}{n:Nat}(he:∀e∈E,e.1≠(aU t.mask h n).j)(hn:∀k,k<n->∃e∈E,e.1=(aU t.mask h k).j)(hl:E.length+1<=t.mask)(hj:(aU t.mask h n).j<=t.mask):
  ∃E',E'.Perm (((aU t.mask h n).j,(h,x))::E)/\TI (t.put (aU t.mask h n).j).1 E'/\E4 (E.map (·.2)).toArray (t.put (aU t.mask h n).j).2 (h,x)=(E'.map (·.2)).toArray/\(t.put (aU t.mask h n).j).1={t with place:=(E'.map (·.1)).toArray}:=by
 obtain⟨A,B,eE,hb,ha,hb2⟩:=I.split (aU t.mask h n).j
 have ep:(t.put (aU t.mask h n).j).2=A.length:=hb
 have tA:E.take A.length=A:=by rw[eE,List.take_left' rfl]
 have dA:E.drop A.length=B:=by rw[eE,List.drop_left' rfl]
 have e1:(t.put (aU t.mask h n).j).1={t with place:=((A++((aU t.mask h n).j,(h,x))::B).map (·.1)).toArray}:=by
  unfold SetTable.put
  rw[hb,I.Jm]
  have:E4 t.place A.length (aU t.mask h n).j=((A++((aU t.mask h n).j,(h,x))::B).map (·.1)).toArray:=by
   apply FN.mp
   rw[rA,I.pl]
   show(E.map (·.1)).take A.length++_::(E.map (·.1)).drop A.length=(A++_::B).map (·.1)
   rw[<-Im,<-FV,tA,dA,AW];rfl
  dsimp only
  rw[this,if_neg (by decide)]
 refine⟨A++((aU t.mask h n).j,(h,x))::B,?_,?_,?_,e1⟩
 ·rw[eE];exact G_
 ·rw[e1]
  have sub:∀e∈E,e∈A++((aU t.mask h n).j,(h,x))::B:=λe hm=>by
   rw[eE] at hm
   rcases A6.mp hm with q | q
   ·exact Cq _ q
   ·exact BR _ (AM _ q)
  have sup:∀e∈A++((aU t.mask h n).j,(h,x))::B,e=((aU t.mask h n).j,(h,x))∨e∈E:=λe hm=>by
   rw[eE]
   rcases A6.mp hm with q | q
   ·exact .inr (Cq _ q)
   ·rcases AV.mp q with q | q
    ·exact .inl q
    ·exact .inr (BR _ q)
  refine⟨I.ms,rfl,I.dm,?_,λe hm=>?_,?_,λe hm=>?_⟩
  ·have up:=I.up
   rw[eE,AW,IL] at up
   rw[AW,Aw,IL,List.pairwise_cons]
   refine⟨up.1,⟨λb hb'=>?_,up.2.1⟩,λa ha' b hb'=>?_⟩
   ·obtain⟨e,hm,rfl⟩:=As.mp hb'
    have h1:=hb2 e hm
    have h2:=he e (by rw[eE];exact BR _ hm)
    show(aU t.mask h n).j<e.1
    omega
   ·obtain⟨e,hm,rfl⟩:=As.mp ha'
    rcases AV.mp hb' with q | q
    ·rw[q];exact ha e hm
    ·exact up.2.2 _ ha' b q
  ·rcases sup e hm with rfl | q
   ·exact hj
   ·exact I.le e q
  ·rw[AR,Aj]
   have:=congrArg JV eE
   rw[AR] at this
   show A.length+(B.length+1)<=t.mask
   omega
  ·rcases sup e hm with rfl | q
   ·refine⟨n,rfl,λk hk=>?_⟩
    obtain⟨e',h1,h2⟩:=hn k hk
    exact⟨e',sub e' h1,h2⟩
   ·obtain⟨n',h1,h2⟩:=I.rc e q
    refine⟨n',h1,λk hk=>?_⟩
    obtain⟨e',h3,h4⟩:=h2 k hk
    exact⟨e',sub e' h3,h4⟩
 ·apply FN.mp
  rw[ep,rA]
  show(E.map (·.2)).take A.length++_::(E.map (·.2)).drop A.length=(A++_::B).map (·.2)
  rw[<-Im,<-FV,tA,dA,AW];rfl
end ST
namespace ST
structure OI (m:Nat)(hs:List Int)(ow:Array (Option Nat))(F:List Nat):Prop where
 size:ow.size=m+1
 own:∀j:Nat,j<=m->∀k:Nat,ow[j]? =some (some k)↔F[k]? =some j
 le:∀j∈F,j<=m
 nd:F.Nodup
 rc:∀(k j:Nat) (h:Int),F[k]? =some j->hs[k]? =some h->∃n,(aU m h n).j=j/\∀i,i<n->(aU m h i).j∈F
theorem OI.oM{m:Nat}{hs:List Int}{ow:Array (Option Nat)}{F:List Nat}(I:OI m hs ow F){j:Nat}(hj:j<=m):(ow.getD j (some 0)).isNone=decide (j ∉ F):=by
 have hz:j<ow.size:=by rw[I.size];omega
 rw[Bt,Av hz]
 show(ow[j]).isNone=_
 cases e:ow[j] with
 | none=>
  refine(decide_eq_true (p:=j ∉ F) λq=>?_).symm
  obtain⟨k,hk⟩:=Ak q
  have:=(I.own j hj k).mpr hk
  rw[Av hz,e] at this
  cases this
 | some k=>
  have:=(I.own j hj k).mp (by rw[Av hz,e])
  exact(decide_eq_false (p:=j ∉ F) λq=>q (AI this)).symm
theorem MH{m i:Nat}(hi:i<=m):BA m i<=m/\i<=BA m i:=by unfold BA;split<;>omega
theorem nN(m:Nat)(h:Int)(k q:Nat)(hq:q<=BA m (lp m h k).1-(lp m h k).1):(aU m h (cnt m h k+q)).j=(lp m h k).1+q:=by
 rw[Jk,vH,Jl m _ _ q hq]
theorem OI.free{m:Nat}{hs:List Int}{ow:Array (Option Nat)}{F:List Nat}(I:OI m hs ow F)(h:Int):∀(fuel k:Nat),(∃k1,k<=k1/\k1<k+fuel/\(lp m h k1).1 ∉ F)->(∀i,i<cnt m h k->(aU m h i).j∈F)->
  ∃n,C4 m ow fuel (lp m h k).1 (lp m h k).2=some (aU m h n).j/\(aU m h n).j ∉ F/\(aU m h n).j<=m/\∀i,i<n->(aU m h i).j∈F
 | 0,k,hx,_=>by obtain⟨k1,a,b,_⟩:=hx;omega
 | fuel+1,k,hx,hp=>by
  have hi:=UR m h k
  obtain⟨r1,r2⟩:=MH hi
  unfold C4
  have fr:∀q,q<BA m (lp m h k).1+1-(lp m h k).1->(ow.getD ((lp m h k).1+q) (some 0)).isNone=decide ((lp m h k).1+q ∉ F):=λq hq=>I.oM (by omega)
  cases ef:(Ao (BA m (lp m h k).1+1-(lp m h k).1)).find? (λq=>(ow.getD ((lp m h k).1+q) (some 0)).isNone) with
  | some q=>
   obtain⟨a1,a2,a3⟩:=List.find?_range_eq_some.mp ef
   have a2:=A4.mp a2
   rw[fr q a2] at a1
   have a1:=of_decide_eq_true a1
   refine⟨cnt m h k+q,?_,?_,?_,λi hlt=>?_⟩
   ·dsimp only
    rw[nN m h k q (by omega)]
   ·rw[nN m h k q (by omega)];exact a1
   ·rw[nN m h k q (by omega)];omega
   ·by_cases c:i<cnt m h k
    ·exact hp i c
    ·have e:i=cnt m h k+(i-cnt m h k):=by omega
     rw[e,nN m h k _ (by omega)]
     have:=a3 (i-cnt m h k) (by omega)
     rw[fr _ (by omega)] at this
     simp at this
     exact this
  | none=>
   have a:=List.find?_range_eq_none.mp ef
   have occ:∀q,q<BA m (lp m h k).1+1-(lp m h k).1->(lp m h k).1+q∈F:=λq hq=>by
    have:=a q hq
    rw[fr q hq] at this
    simp at this
    exact this
   dsimp only
   refine I.free h fuel (k+1) ?_ (λi hlt=>?_)
   ·obtain⟨k1,b1,b2,b3⟩:=hx
    refine⟨k1,?_,by omega,b3⟩
    by_cases z:k1=k
    ·rw[z] at b3
     exact absurd (by have:=occ 0 (by omega);rwa [E5] at this) b3
    ·omega
   ·unfold cnt at hlt
    by_cases c:i<cnt m h k
    ·exact hp i c
    ·have e:i=cnt m h k+(i-cnt m h k):=by omega
     rw[e,nN m h k _ (by omega)]
     exact occ _ (by omega)
theorem OI.more{m:Nat}{hs:List Int}{ow:Array (Option Nat)}{F:List Nat}(I:OI m hs ow F)(hm:Mk m)(hl:F.length<=m){h:Int}(hh:hs[F.length]? =some h):
  ∃j,C4 m ow (D6 m) (Bn h % (m+1)) (Bn h)=some j/\OI m hs (ow.setIfInBounds j (some F.length)) (F++[j]):=by
 have:∃j,j<=m/\j ∉ F:=by
  apply BW
  intro hx
  have hall:∀j,j<=m->j∈F:=λj hj=>BW λz=>hx ⟨j,hj,z⟩
  have:=gp (l:=Ao (m+1)) (m:=F) EC λx hx=>hall x (by have:=A4.mp hx;omega)
  rw[A2] at this
  omega
 obtain⟨j0,hj0,hn0⟩:=this
 obtain⟨k1,hk1,e1⟩:=xE hm h hj0
 obtain⟨n,a1,a2,a3,a4⟩:=I.free h (D6 m) 0 ⟨k1,BI _,by unfold D6;omega,by rw[e1];exact hn0⟩ (λi hi=>by cases hi)
 refine⟨_,a1,by rw[Array.size_setIfInBounds];exact I.size,λj hj k=>?_,λj YC=>?_,?_,λk j h' hk hh'=>?_⟩
 ·have hz:j<ow.size:=by rw[I.size];omega
  rw[Array.getElem?_setIfInBounds]
  by_cases c:(aU m h n).j=j
  ·rw[if_pos c,if_pos (by rw[c];exact hz)]
   constructor
   ·intro z
    have:F.length=k:=AN (AN z)
    rw[<-this,Ag (AK _),B_,<-c];rfl
   ·intro z
    by_cases ck:k<F.length
    ·rw[Am ck] at z
     exact absurd (AI z) (by rw[<-c];exact a2)
    ·have:=(AF.mp z).1
     rw[AR,Dq] at this
     rw[show k=F.length by omega]
  ·rw[if_neg c,I.own j hj k]
   constructor
   ·intro z
    rw[Am (AF.mp z).1];exact z
   ·intro z
    by_cases ck:k<F.length
    ·rwa [Am ck] at z
    ·have:=(AF.mp z).1
     rw[AR,Dq] at this
     rw[show k=F.length by omega,Ag (AK _),B_] at z
     exact absurd (AN z) c
 ·rcases A6.mp YC with q | q
  ·exact I.le j q
  ·rw[Ad.mp q];exact a3
 ·rw[Cs]
  exact⟨I.nd,by simp,λa ha b hb z=>a2 (by rw[<-Ad.mp hb,<-z];exact ha)⟩
 ·by_cases ck:k<F.length
  ·rw[Am ck] at hk
   obtain⟨n',b1,b2⟩:=I.rc k j h' hk hh'
   exact⟨n',b1,λi hi=>Cq _ (b2 i hi)⟩
  ·have:=(AF.mp hk).1
   rw[AR,Dq] at this
   have ek:k=F.length:=by omega
   subst ek
   rw[Ag (AK _),B_] at hk
   rw[hh] at hh'
   cases hh'
   exact⟨n,AN hk,λi hi=>Cq _ (a4 i hi)⟩
end ST
namespace ST
def stp(m:Nat)(acc:Option (Array (Option Nat)×Nat))(h:Int):Option (Array (Option Nat)×Nat):=do
 let (owner,k) <-acc
 let j <-C4 m owner (D6 m) (Bn h % (m+1)) (Bn h)
 pure (owner.setIfInBounds j (some k),k+1)
theorem YD(m:Nat)(hashes:Array Int):Gm m hashes=(hashes.toList.foldl (stp m) (some (Hl (m+1) none,0))).map (·.1):=by
 unfold Gm
 rw[<-Array.foldl_toList]
 rfl
theorem Jp{m:Nat}(hm:Mk m){hs:List Int}(hl:hs.length<=m):∀(suf pre:List Int) (ow:Array (Option Nat)) (F:List Nat),OI m hs ow F->hs=pre++suf->F.length=pre.length->
  ∃ow' F',suf.foldl (stp m) (some (ow,F.length))=some (ow',hs.length)/\OI m hs ow' F'/\F'.length=hs.length
 | [],pre,ow,F,I,e,el=>⟨ow,F,by rw[List.foldl_nil,el,e,Bg],I,by rw[el,e,Bg]⟩
 | h::suf,pre,ow,F,I,e,el=>by
  have hh:hs[F.length]? =some h:=by rw[e,el,Ag (AK _),B_];rfl
  have hF:F.length<=m:=by have:=(AF.mp hh).1;omega
  obtain⟨j,ej,I'⟩:=I.more hm hF hh
  have ih:=Jp hm hl suf (pre++[h]) _ (F++[j]) I' (by rw[e];simp) (by rw[AR,AR,el];rfl)
  rw[List.foldl_cons]
  have es:stp m (some (ow,F.length)) h=some (ow.setIfInBounds j (some F.length),(F++[j]).length):=by
   unfold stp
   show(C4 m ow (D6 m) (Bn h % (m+1)) (Bn h)).bind _=_
   rw[ej,AR];rfl
  rw[es]
  exact ih
theorem YE(m:Nat)(hs:List Int):OI m hs (Hl (m+1) none) [] where
 size:=by simp
 own:=λj hj k=>by
  constructor
  ·intro z
   rw[Array.getElem?_replicate] at z
   split at z
   ·cases z
   ·cases z
  ·intro z;simp at z
 le:=λj h=>by cases h
 nd:=List.nodup_nil
 rc:=λk j h hk=>by simp at hk
def lives(m:Nat)(ow:Array (Option Nat)):List (Nat×Nat):=(Ao (m+1)).filterMap λj=>(ow.getD j none).map (j, ·)
theorem gu{m:Nat}{hs:List Int}{ow:Array (Option Nat)}{F:List Nat}(I:OI m hs ow F){p:Nat×Nat}:p∈lives m ow↔F[p.2]? =some p.1:=by
 unfold lives
 rw[Fz]
 have gd:∀j,j<=m->ow.getD j none=(ow[j]?).getD none:=λj hj=>Bt ..
 constructor
 ·rintro⟨j,hj,e⟩
  have hj:=A4.mp hj
  rw[gd j (by omega)] at e
  cases q:ow[j]? with
  | none=>rw[q] at e;cases e
  | some o=>
   rw[q] at e
   cases o with
   | none=>cases e
   | some k=>
    have:(j,k)=p:=AN e
    subst this
    exact(I.own j (by omega) k).mp q
 ·intro h
  have hj:=I.le p.1 (AI h)
  refine⟨p.1,A4.mpr (by omega),?_⟩
  rw[gd p.1 hj,(I.own p.1 hj p.2).mpr h];rfl
theorem Jq(m:Nat)(ow:Array (Option Nat)):((lives m ow).map (·.1)).Pairwise (· < ·):=by
 unfold lives
 rw[Gn,List.pairwise_filterMap]
 refine(List.pairwise_lt_range (n:=m+1)).imp λ{a b} hab x hx y hy=>?_
 cases q:ow.getD a none with
 | none=>rw[q] at hx;cases hx
 | some k=>
  cases q2:ow.getD b none with
  | none=>rw[q2] at hy;cases hy
  | some k2=>
   rw[q] at hx
   rw[q2] at hy
   have hx:(a,k)=x:=AN hx
   have hy:(b,k2)=y:=AN hy
   rw[<-hx,<-hy];exact hab
theorem SV{l:List Nat}(h:l.Pairwise (· < ·)):l.Nodup:=by
 rw[D7]
 exact h.imp λq=>by omega
theorem rB{m:Nat}{hs:List Int}{ow:Array (Option Nat)}{F:List Nat}(I:OI m hs ow F):((lives m ow).map (·.2)).Perm (Ao F.length):=by
 have zY:((lives m ow).map (·.2)).Nodup:=by
  rw[D7,Gn]
  have up:=SV (Jq m ow)
  rw[D7,Gn] at up
  refine List.Pairwise.imp_of_mem (λ{a b} ha hb hne q=>?_) up
  have h1:=(gu I).mp ha
  have h2:=(gu I).mp hb
  rw[q,h2] at h1
  exact hne (AN h1).symm
 rw[List.perm_ext_iff_of_nodup zY EC]
 intro k
 rw[A4,As]
 constructor
 ·rintro⟨p,hp,rfl⟩
  exact(AF.mp ((gu I).mp hp)).1
 ·intro hk
  exact⟨(F[k],k),(gu I).mpr (Al hk),rfl⟩
theorem Qo{m fg mv:Nat}{ld pn:Bool}(hm:Mk m){L:List (Int×Value)}(hl:L.length<=m):
  ∃t' order E',Gx m fg mv ld pn (L.map (·.1)).toArray=some (t',order)/\TI t' E'/\t'.mask=m/\t'.finger=fg/\t'.moves=mv/\t'.led=ld/\t'.plain=pn/\order.filterMap (L.toArray[·]?)=(E'.map (·.2)).toArray/\(E'.map (·.2)).Perm L:=by
 have hl':(L.map (·.1)).length<=m:=by rw[AB];exact hl
 obtain⟨ow,F,ef,I,lF⟩:=Jp hm hl' (L.map (·.1)) [] _ [] (YE m _) rfl rfl
 have ef:(L.map (·.1)).foldl (stp m) (some (Hl (m+1) none,0))=some (ow,(L.map (·.1)).length):=ef
 have afi:Gm m (L.map (·.1)).toArray=some ow:=by
  rw[YD]
  show((L.map (·.1)).foldl (stp m) _).map (·.1)=_
  rw[ef];rfl
 rw[AB] at lF
 have inL:∀p∈lives m ow,∃x,L[p.2]? =some x:=λp hp=>by
  have:=(AF.mp ((gu I).mp hp)).1
  exact⟨_,Al (by omega)⟩
 let g:Nat×Nat->En:=λp=>(p.1,L.getD p.2 (0,.none))
 have hg:∀p∈lives m ow,L[p.2]? =some (g p).2:=λp hp=>by
  obtain⟨x,hx⟩:=inL p hp
  show _=some (L.getD p.2 (0,.none))
  rw[BB,hx];rfl
 refine⟨{mask:=m,place:=((lives m ow).map (·.1)).toArray,dummies:= #[],finger:=fg,led:=ld,moves:=mv,plain:=pn},((lives m ow).map (·.2)).toArray,(lives m ow).map g,?_,?_,rfl,rfl,rfl,rfl,rfl,?_,?_⟩
 ·unfold Gx
  rw[afi];rfl
 ·have e1:((lives m ow).map g).map (·.1)=(lives m ow).map (·.1):=by rw[B'];rfl
  refine⟨hm,by rw[e1],rfl,by rw[e1];exact Jq m ow,λe he=>?_,?_,λe he=>?_⟩
  ·obtain⟨p,hp,rfl⟩:=As.mp he
   exact I.le _ (AI ((gu I).mp hp))
  ·rw[AB]
   have:=(rB I).length_eq
   rw[AB,A2] at this
   show _<=m
   omega
  ·obtain⟨p,hp,rfl⟩:=As.mp he
   have hF:=(gu I).mp hp
   obtain⟨n,h1,h2⟩:=I.rc p.2 p.1 (g p).2.1 hF (by rw[AJ,hg p hp];rfl)
   refine⟨n,h1,λk hk=>?_⟩
   obtain⟨i,hi⟩:=Ak (h2 k hk)
   exact⟨g ((aU m (g p).2.1 k).j,i),As.mpr ⟨_,(gu I).mpr hi,rfl⟩,rfl⟩
 ·apply FN.mp
  rw[Array.toList_filterMap]
  show((lives m ow).map (·.2)).filterMap (L.toArray[·]?)=((lives m ow).map g).map (·.2)
  rw[GC,B']
  have:∀(l:List (Nat×Nat)),(∀p∈l,L[p.2]? =some (g p).2)->l.filterMap ((L.toArray[·]?)∘(·.2))=l.map ((·.2)∘g):=λl=>by
   induction l with
   | nil=>intro _;rfl
   | cons p l ih=>
    intro h
    rw[List.filterMap_cons_some (b:=(g p).2) (by show L.toArray[p.2]? =_;rw[Bu];exact h p AQ),ih λq hq=>h q (AM _ hq)];rfl
  exact this _ hg
 ·have e2:((lives m ow).map g).map (·.2)=((lives m ow).map (·.2)).map λk=>L.getD k (0,.none):=by rw[B',B'];rfl
  rw[e2]
  refine((rB I).map _).trans ?_
  rw[lF]
  have:(Ao L.length).map (λk=>L.getD k (0,.none))=L:=by
   apply Cc
   intro i
   rw[AJ]
   by_cases hi:i<L.length
   ·rw[Ce hi,Al hi]
    show some (L.getD i _)=_
    rw[BB,Al hi];rfl
   ·rw[BC (by rw[A2];omega),BC (by omega)];rfl
  rw[this]
theorem TI.grow{t:SetTable}{E:List En}(I:TI t E)(hs:E.length<=70)(hf:E.length*5 ≥ t.mask*3)(hb:(E.length-1)*5<t.mask*3)(h0:1<=E.length):
  Mk (Ee (Bh E.length)-1)/\E.length*5<(Ee (Bh E.length)-1)*3:=by
 have:E.length=5∨E.length=19:=by
  rcases I.ms with e | e | e<;>rw[e] at hf hb<;>omega
 rcases this with e | e<;>rw[e]
 ·exact⟨.inr (.inl (by decide+kernel)),by decide+kernel⟩
 ·exact⟨.inr (.inr (by decide+kernel)),by decide+kernel⟩
end ST
end L2
namespace L2
open PySem PyProof.Rows
namespace SR
section
variable{prog:Af}{w:World}{A:A0}{E:Value->AH->Prop}{s:AH}{a₀:Array Keyed}{κ:JQ}
def sG(prog:Af)(w:World)(A:A0)(s:AH)(κ:JQ)(a₀:Array Keyed):Prop:=∀p∈a₀.toList,∀q∈a₀.toList,∃b:Bool,∀(Q:Bool->AH->Prop) (E:Value->AH->Prop),Q b s->wpAny (model prog w) A (keyLt' κ p.1 q.1) Q E s
structure SP (a₀:Array Keyed)(κ:JQ)(pd:Array (Nat×Nat×Nat))(st:DS):Prop where
 perm:(arrOf st).Perm a₀
 kind:kindOf st=κ
 failed:failedOf st=none
 pend:pendingOf st=pd
theorem SP.size{pd:Array (Nat×Nat×Nat)}{st:DS}(h:SP a₀ κ pd st):(arrOf st).size=a₀.size:=h.perm.size_eq
theorem SP.setArr{pd:Array (Nat×Nat×Nat)}{st:DS}(h:SP a₀ κ pd st){xs:Array Keyed}(hp:xs.Perm (arrOf st)):SP a₀ κ pd (setArr st xs):=⟨hp.trans h.perm,h.kind,h.failed,h.pend⟩
def In(a₀ arr:Array Keyed):Prop:=∀p∈arr.toList,p∈a₀.toList
theorem SP.in{pd:Array (Nat×Nat×Nat)}{st:DS}(h:SP a₀ κ pd st):In a₀ (arrOf st):=λ_ hp=>(GQ.mp h.perm).mem_iff.mp hp
theorem In.at{arr:Array Keyed}(h:In a₀ arr){i:Nat}(hi:i<arr.size):∃p,arr[i]? =some p/\p∈a₀.toList:=⟨arr[i],getElem?_pos arr i hi,h _ (by simp)⟩
theorem MI{arr:Array Keyed}(h:In a₀ arr){i:Nat}(hi:i<arr.size){Q:Keyed->DS->Prop}{st:DS}(hq:∀p,arr[i]? =some p->p∈a₀.toList->Q p st):wpS (model prog w) A E s (elem' arr i) Q st:=by
 obtain⟨p,e,hp⟩:=h.at hi
 rw[elem'_eq,e]
 exact CK (hq p e hp)
theorem acb(L:sG prog w A s κ a₀){p q:Keyed}(hp:p∈a₀.toList)(hq:q∈a₀.toList){st:DS}(hk:kindOf st=κ){Q:Option Bool->DS->Prop}(h:∀b,Q (some b) st):wpS (model prog w) A E s (lt' p q) Q st:=by
 rw[lt'_eq]
 refine BU (wpS_get ?_)
 rw[hk]
 obtain⟨b,hb⟩:=L p hp q hq
 refine BU (wpS_lift (C5 (hb _ _ ⟨rfl,?_⟩)))
 exact CK (h b)
theorem nO(L:sG prog w A s κ a₀){pd:Array (Nat×Nat×Nat)}{st:DS}(S:SP a₀ κ pd st){i j:Nat}(hi:i<a₀.size)(hj:j<a₀.size){Q:Option Bool->DS->Prop}(h:∀b,Q (some b) st):wpS (model prog w) A E s (ltAt' i j) Q st:=by
 rw[ltAt'_eq]
 refine BU (wpS_get ?_)
 show wpS _ _ _ _ (do let x <-elem' (arrOf st) i;let y <-elem' (arrOf st) j;lt' x y) Q st
 refine BU (MI S.in (by rw[S.size];exact hi) λp _ hp=>BU (MI S.in (by rw[S.size];exact hj) λq _ hq=>?_))
 exact acb L hp hq S.kind h
theorem qo(L:sG prog w A s κ a₀){pd:Array (Nat×Nat×Nat)}{lo a nrem:Nat}{st:DS}(S:SP a₀ κ pd st)(h1:1<=a)(h2:a<=nrem)(h3:lo+nrem<=a₀.size){Q:Option (Option Nat)×Nat->DS->Prop}(h:∀n,a<=n->n<=nrem->Q (none,n) st):
  wpS (model prog w) A E s (forIn [a:nrem] ((none,a):Option (Option Nat)×Nat) λ_ __s=>do
  let __x <-ltAt' (lo+__s.snd) (lo+__s.snd-1)
  match __x with
  | some smaller=>if smaller=true then pure (E6 (none,__s.snd)) else pure (B6 (none,__s.snd+1))
  | _=>pure (E6 (some none,__s.snd))) Q st:=by
 refine E7 (I:=λx c st'=>st'=st/\c=(none,x)) ?step ?fin ⟨rfl,rfl⟩
 case fin=>
  rintro c st' ⟨rfl,rfl⟩
  rw[show max a nrem=nrem by omega]
  exact h nrem h2 (AK _)
 case step=>
  rintro x c st' hax hxn ⟨rfl,rfl⟩
  dsimp only
  refine BU (nO L S (by omega) (by omega) λb=>?_)
  cases b with
  | true=>exact CK (h x hax (by omega))
  | false=>exact CK ⟨rfl,rfl⟩
theorem MJ(L:sG prog w A s κ a₀){pd:Array (Nat×Nat×Nat)}{lo n nrem:Nat}{st:DS}(S:SP a₀ κ pd st)(h1:1<=n)(h2:n<=nrem)(h3:lo+nrem<=a₀.size){Q:Option (Option Nat)×Nat×Nat->DS->Prop}(h:∀m q st',SP a₀ κ pd st'->n<=m->m<=nrem->Q (none,m,q) st'):
  wpS (model prog w) A E s (forIn [n:nrem] ((none,n,0):Option (Option Nat)×Nat×Nat) λ_ __s=>do
    let __x <-ltAt' (lo+__s.snd.fst) (lo+__s.snd.fst-1)
    match __x with
    | some smaller=>
     if smaller=true then
      if __s.snd.snd>0 then do
       reverseSlice' (lo+__s.snd.fst-(__s.snd.snd+1)) (lo+__s.snd.fst)
       pure (B6 (none,__s.snd.fst+1,0))
      else pure (B6 (none,__s.snd.fst+1,0))
     else do
      let __x <-ltAt' (lo+__s.snd.fst-1) (lo+__s.snd.fst)
      match __x with
      | some larger=>
       if larger=true then pure (E6 (none,__s.snd.fst,__s.snd.snd))
       else pure (B6 (none,__s.snd.fst+1,__s.snd.snd+1))
      | _=>pure (E6 (some none,__s.snd.fst,__s.snd.snd))
    | _=>pure (E6 (some none,__s.snd.fst,__s.snd.snd))) Q st:=by
 refine E7 (I:=λx c st'=>∃q,c=(none,x,q)/\SP a₀ κ pd st') ?step ?fin ⟨0,rfl,S⟩
 case fin=>
  rintro c st' ⟨q,rfl,S2⟩
  exact h _ q st' S2 (by omega) (by omega)
 case step=>
  rintro x c st2 hax hxn ⟨q,rfl,S2⟩
  dsimp only
  refine BU (nO L S2 (by omega) (by omega) λb=>?_)
  cases b with
  | true=>
   dsimp only
   rw[if_pos rfl]
   split
   ·exact BU (D8 (CK ⟨0,rfl,S2.setArr (CW _ _ _ _)⟩))
   ·exact CK ⟨0,rfl,S2⟩
  | false=>
   dsimp only
   rw[if_neg (by decide)]
   refine BU (nO L S2 (by omega) (by omega) λb=>?_)
   cases b with
   | true=>exact CK (h x q _ S2 hax (by omega))
   | false=>exact CK ⟨q+1,rfl,S2⟩
theorem SW(L:sG prog w A s κ a₀){pd:Array (Nat×Nat×Nat)}{lo nrem:Nat}{st:DS}(S:SP a₀ κ pd st)(h2:1<=nrem)(h3:lo+nrem<=a₀.size){Q:Option Nat->DS->Prop}(h:∀m st',SP a₀ κ pd st'->1<=m->m<=nrem->Q (some m) st'):
  wpS (model prog w) A E s (countRun' lo nrem) Q st:=by
 rw[countRun'_eq]
 refine BU (qo L S (AK 1) h2 h3 λn h4 h5=>?_)
 dsimp only
 by_cases hn:n=nrem
 ·rw[if_pos (by simpa using hn)]
  exact CK (h n st S h4 h5)
 rw[if_neg (by simpa using hn)]
 have last:∀{m:Nat} {st':DS},SP a₀ κ pd st'->n+1<=m->m<=nrem->∀k,m<=k->k<=nrem->Q (some k) st':=λS' a b k c d=>h k _ S' (by omega) d
 by_cases hg:n>1
 ·rw[if_pos hg]
  refine BU (nO L S (by omega) (by omega) λb=>?_)
  cases b with
  | true=>exact CK (h n st S h4 h5)
  | false=>
   refine BU (D8 (BU (wpS_lift (Cw ⟨rfl,?_⟩))))
   refine BU (MJ L (S.setArr (CW _ _ _ _)) (by omega) (by omega) h3 λm q st3 S3 h5 h6=>?_)
   dsimp only
   split
   ·exact BU (D8 (BU (D8 (BU (qo L ((S3.setArr (CW _ _ _ _)).setArr (CW _ _ _ _)) (by omega) h6 h3 λk h7 h8=>CK (last ((S3.setArr (CW _ _ _ _)).setArr (CW _ _ _ _)) h5 h6 k h7 h8))))))
   ·exact BU (D8 (BU (qo L (S3.setArr (CW _ _ _ _)) (by omega) h6 h3 λk h7 h8=>CK (last (S3.setArr (CW _ _ _ _)) h5 h6 k h7 h8))))
 ·rw[if_neg hg]
  refine BU (wpS_lift (Cw ⟨rfl,?_⟩))
  refine BU (MJ L S (by omega) (by omega) h3 λm q st3 S3 h5 h6=>?_)
  dsimp only
  split
  ·exact BU (D8 (BU (D8 (BU (qo L ((S3.setArr (CW _ _ _ _)).setArr (CW _ _ _ _)) (by omega) h6 h3 λk h7 h8=>CK (last ((S3.setArr (CW _ _ _ _)).setArr (CW _ _ _ _)) h5 h6 k h7 h8))))))
  ·exact BU (D8 (BU (qo L (S3.setArr (CW _ _ _ _)) (by omega) h6 h3 λk h7 h8=>CK (last (S3.setArr (CW _ _ _ _)) h5 h6 k h7 h8))))
theorem YF(L:sG prog w A s κ a₀){pd:Array (Nat×Nat×Nat)}{lo n ok:Nat}{st:DS}(S:SP a₀ κ pd st)(h3:lo+n<=a₀.size){Q:Bool->DS->Prop}(h:∀st',SP a₀ κ pd st'->Q true st'):
  wpS (model prog w) A E s (binarySort' lo n ok) Q st:=by
 rw[binarySort'_eq]
 refine BU (wpS_mono (E7 (I:=λk c st'=>c=(none,())/\SP a₀ κ pd st') (Q:=λc st'=>c=(none,())/\SP a₀ κ pd st') ?step ?fin ⟨rfl,S⟩) ?post)
 case post=>
  rintro c st' ⟨rfl,S'⟩
  exact CK (h st' S')
 case fin=>exact λc st' x=>x
 case step=>
  rintro k c st' hak hkn ⟨rfl,S'⟩
  refine BU (wpS_mono (E7 (I:=λx c st''=>st''=st'/\∃l r,c=(none,l,r)/\r<=k) (Q:=λc st''=>st''=st'/\∃l r,c=(none,l,r)) ?istep ?ifin ⟨rfl,0,k,rfl,AK _⟩) ?ipost)
  case ifin=>
   rintro c st'' ⟨rfl,l,r,rfl,_⟩
   exact⟨rfl,l,r,rfl⟩
  case istep=>
   rintro x c st'' _ hxk ⟨rfl,l,r,rfl,hr⟩
   dsimp only
   by_cases hge:l ≥ r
   ·rw[if_pos hge]
    exact CK ⟨rfl,l,r,rfl⟩
   ·rw[if_neg hge]
    refine BU (nO L S' (by omega) (by omega) λb=>?_)
    cases b with
    | true=>exact CK ⟨rfl,l,_,rfl,by omega⟩
    | false=>exact CK ⟨rfl,_,r,rfl,hr⟩
  case ipost=>
   rintro c st'' ⟨rfl,l,r,rfl⟩
   show wpS _ _ _ _ (do moveDown' (lo+k) (lo+l);pure (B6 (none,()))) _ _
   rw[moveDown'_eq]
   exact BU (wpS_modify (CK ⟨rfl,S'.setArr (bubble_perm _ _ _)⟩))
end
end SR
namespace SR
section
variable{prog:Af}{w:World}{A:A0}{E:Value->AH->Prop}{s:AH}{a₀:Array Keyed}{κ:JQ}
theorem Qp{α σ:Type}{M:Model}{c:Prop}[Decidable c]{x y:StateT σ Sem α}{Q:α->σ->Prop}{st:σ}(h1:c->wpS M A E s x Q st)(h2:¬c->wpS M A E s y Q st):wpS M A E s (if c then x else y) Q st:=by
 by_cases h:c
 ·rw[if_pos h];exact h1 h
 ·rw[if_neg h];exact h2 h
end
end SR
end L2
namespace L2
open PySem PySem.Spec PyProof.Rows
abbrev Mark:=Int×List Int
def SX(h:Heap)(b:Addr)(ns:List Int):Prop:=∃vs:List Value,IsTup h b vs.toArray/\C2 vs ns
def cj(h:Heap)(u:Value)(m:Mark):Prop:=∃a b t,u=.ref a/\IsTup h a [.int m.1 t,.ref b].toArray/\SX h b m.2
def xG(h h':Heap):Prop:=∀b o,h.get? b=some o->o.cls=.type "tuple"->h'.get? b=some o
theorem IsTup.kp{h h':Heap}{a:Addr}{vs:Array Value}(k:xG h h')(t:IsTup h a vs):IsTup h' a vs:=by
 obtain⟨o,ho,hc,n,hd⟩:=t
 exact⟨o,k a o ho hc,hc,n,hd⟩
theorem cj.kp{h h':Heap}{u:Value}{m:Mark}(k:xG h h')(t:cj h u m):cj h' u m:=by
 obtain⟨a,b,t,rfl,h1,vs,h2,h3⟩:=t
 exact⟨a,b,t,rfl,IsTup.kp k h1,vs,IsTup.kp k h2,h3⟩
theorem vI{h:Heap}{a:Addr}{vs ws:List Value}(t:IsTup h a vs.toArray)(t':IsTup h a ws.toArray):vs=ws:=by
 obtain⟨o,ho,_,n,hd⟩:=t
 obtain⟨o',ho',_,n',hd'⟩:=t'
 rw[ho] at ho'
 cases ho'
 rw[hd] at hd'
 injection hd' with e _
 simpa using e
theorem sH:∀{vs:List Value} {ns ms:List Int},C2 vs ns->C2 vs ms->ns=ms
 | _,_,_,.nil,.nil=>rfl
 | _,_,_,.cons a t r,.cons _ _ r'=>by rw[sH r r']
theorem cj.inj{h:Heap}{u:Value}{m m':Mark}(x:cj h u m)(y:cj h u m'):m=m':=by
 obtain⟨a,b,t,rfl,h1,vs,h2,h3⟩:=x
 obtain⟨a',b',t',e,h1',vs',h2',h3'⟩:=y
 cases e
 have e1:=vI h1 h1'
 simp only[Jb,Value.int.injEq,Value.ref.injEq,and_true] at e1
 obtain⟨⟨e1,_⟩,rfl⟩:=e1
 have e2:=vI h2 h2'
 subst e2
 exact Prod.ext e1 (sH h3 h3')
theorem vJ(A:A0)(s:AH)(a:Int)(t:Tok)(c:Int)(u:Tok):CD A s (.int a t) (.int c u) (decide (a=c)):=by
 obtain⟨e,h,i⟩:=HT.zv A s a t c u
 cases e with
 | true=>rw[decide_eq_true (i.mp rfl)];exact h
 | false=>rw[decide_eq_false (λq=>absurd (i.mpr q) An)];exact h
theorem YG(ns ms:List Int):((Ao (min ns.length ms.length)).all (λj=>decide (ns[j]? =ms[j]?))&&ns.length == ms.length)=decide (ns=ms):=by
 by_cases e:ns=ms
 ·subst e;simp
 ·rw[decide_eq_false e]
  by_cases hl:ns.length=ms.length
  ·rw[hl,Nat.min_self,beq_self_eq_true,Gv]
   apply BW
   intro q
   have q:=eq_true_of_ne_false q
   refine e (Cc λi=>?_)
   by_cases hi:i<ms.length
   ·exact of_decide_eq_true (FJ.mp q i (A4.mpr hi))
   ·rw[BC (by omega),BC (by omega)]
  ·rw[show(ns.length == ms.length)=false by simpa using hl,DC]
theorem Jr{A:A0}{s:AH}{b b':Addr}{ns ms:List Int}(hu:A.units<cLine)(x:SX s.heap b ns)(y:SX s.heap b' ms):CD A s (.ref b) (.ref b') (decide (ns=ms)):=by
 obtain⟨vs,h1,i1⟩:=x
 obtain⟨ws,h2,i2⟩:=y
 by_cases e:b=b'
 ·subst e
  have:=vI h1 h2
  subst this
  rw[decide_eq_true (sH i1 i2)]
  exact Ff _
 ·have l1:=i1.length
  have l2:=i2.length
  have:=Gd (A:=A) (s:=s) (e:=λj=>decide (ns[j]? =ms[j]?)) h1 h2 hu λj a c=>by
   have a':j<vs.length:=by simpa using a
   have c':j<ws.length:=by simpa using c
   obtain⟨p,t,e1,f1⟩:=Mv i1 j a'
   obtain⟨q,u,e2,f2⟩:=Mv i2 j c'
   rw[FY,FY,e1,e2]
   have g1:ns[j]? =some p:=by rw[<-E5 j,<-GP,f1];rfl
   have g2:ms[j]? =some q:=by rw[<-E5 j,<-GP,f2];rfl
   rw[g1,g2,show decide (some p=some q)=decide (p=q) by simp]
   exact vJ _ _ _ _ _ _
  rw[AY,AY,l1,l2,YG] at this
  exact GH e this
theorem cj.SY{A:A0}{s:AH}{u v:Value}{m m':Mark}(hu:A.units+2<cLine)(x:cj s.heap u m)(y:cj s.heap v m'):CD A s u v (decide (m=m')):=by
 have x0:=x
 have y0:=y
 obtain⟨a,b,t,rfl,h1,x2⟩:=x
 obtain⟨a',b',t',rfl,h1',y2⟩:=y
 by_cases e:a=a'
 ·subst e
  rw[decide_eq_true (x0.inj y0)]
  exact Ff _
 ·have in1:A.in1.units<=A.units+1:=by simp[Dc]
  have:=Gd (A:=A) (s:=s) (e:=λj=>if j=0 then decide (m.1=m'.1) else decide (m.2=m'.2)) h1 h1' (by omega) λj p q=>by
   have p':j<2:=by simpa using p
   match j,p' with
   | 0,_=>exact vJ _ _ _ _ _ _
   | 1,_=>exact Jr (by omega) x2 y2
  have e2:((Ao (min [Ef m.1 t,.ref b].toArray.size [Ef m'.1 t',.ref b'].toArray.size)).all (λj=>if j=0 then decide (m.1=m'.1) else decide (m.2=m'.2))&&[Ef m.1 t,.ref b].toArray.size == [Ef m'.1 t',.ref b'].toArray.size)=decide (m=m'):=by
   show((Ao 2).all _&&true)=_
   rw[show Ao 2=[0,1] from rfl]
   simp only[ER,List.all_nil,Gv,if_true,Nat.one_ne_zero,if_false]
   rw[Di]
   simp[Prod.ext_iff]
  rw[e2] at this
  exact GH e this
def afj(w:World)(ns:List Int):Int:=reduceHash (DI (ns.map λi=>G0 w.params (.int i)))
def fK(w:World)(m:Mark):Int:=reduceHash (DI [G0 w.params (.int m.1),afj w m.2])
section
variable{P:Af}{w:World}{A:A0}{E:Value->AH->Prop}{s:AH}
theorem oN:∀{vs:List Value} {ns:List Int},C2 vs ns->∀v∈vs,∃i t,v=.int i t
 | _,_,.nil,v,hv=>by cases hv
 | _,_,.cons a t r,v,hv=>by
  rcases AV.mp hv with e | e
  ·exact⟨a,t,e⟩
  ·exact oN r v e
theorem cj.quiet{u:Value}{m:Mark}{Q:Bool->AH->Prop}(x:cj s.heap u m)(q:Q true s):wpAny (model P w) A (IV 8 u) Q E s:=by
 obtain⟨a,b,t,rfl,h1,vs,h2,i⟩:=x
 refine xD h1 (λv hv Q' q'=>?_) q
 rcases AV.mp hv with z | z
 ·rw[z];exact xC _ rfl q'
 ·rw[Ad.mp z]
  refine xD h2 (λv hv Q' q'=>?_) q'
  obtain⟨i,t,rfl⟩:=oN i v hv
  exact xC _ rfl q'
theorem xH{n:Nat}{a:Addr}{vs:List Value}{Q:Bool->AH->Prop}(ht:IsTup s.heap a vs.toArray)(hq:∀v∈vs,∀Q':Bool->AH->Prop,Q' true s->wpAny (model P w) A (Gf n v) Q' E s)(q:Q true s):wpAny (model P w) A (Gf (n+1) (.ref a)) Q E s:=by
 obtain⟨o,ho,hc,m,hd⟩:=ht
 have hT:s.TypeIs (.ref a) "tuple":=⟨o,ho,hc⟩
 unfold Gf
 refine AA (Dk hT HE.lookup ?_)
 show wpAny _ _ (FK (.ref a) >>= _) _ _ s
 refine AA ?_
 unfold FK
 dsimp only
 refine AA (Fy ho ?_)
 rw[hd]
 refine AG ?_
 refine AA ?_
 show wpAny _ _ (forIn vs.toArray _ _) _ _ s
 rw[<-Ec]
 refine D_ _ (λrest r s'=>r.1=none/\s'=s/\∀v∈rest,v∈vs) _ (λv rest r s' ⟨hr,hs,hall⟩=>?_) (λ⟨r1,r2⟩ s' ⟨hr,hs,_⟩=>?_) _ _ ⟨rfl,rfl,λv hv=>hv⟩
 ·subst hs
  refine AA (hq v (hall v AQ) _ ?_)
  simp only[C6,A',if_false]
  exact AG ⟨rfl,rfl,λz hz=>hall z (AM _ hz)⟩
 ·subst hs
  simp only at hr
  subst hr
  exact AG q
theorem cj.acd{u:Value}{m:Mark}{Q:Bool->AH->Prop}(x:cj s.heap u m)(q:Q true s):wpAny (model P w) A (Gf 8 u) Q E s:=by
 obtain⟨a,b,t,rfl,h1,vs,h2,i⟩:=x
 refine xH h1 (λv hv Q' q'=>?_) q
 rcases AV.mp hv with z | z
 ·rw[z];exact AG q'
 ·rw[Ad.mp z]
  refine xH h2 (λv hv Q' q'=>?_) q'
  obtain⟨i,t,rfl⟩:=oN i v hv
  exact AG q'
theorem xI{n:Nat}{a:Addr}{vs:List Value}{Q:Bool->AH->Prop}(ht:IsTup s.heap a vs.toArray)(hq:∀v∈vs,∀Q':Bool->AH->Prop,Q' false s->wpAny (model P w) A (E8 n v) Q' E s)(q:Q false s):wpAny (model P w) A (E8 (n+1) (.ref a)) Q E s:=by
 obtain⟨o,ho,hc,m,hd⟩:=ht
 have hT:s.TypeIs (.ref a) "tuple":=⟨o,ho,hc⟩
 unfold E8
 refine AA (Cm hT ?_)
 dsimp only
 rw[if_pos (by decide)]
 refine AA (AG ?_)
 simp only[C6,A',if_false]
 refine AA ?_
 unfold FK
 dsimp only
 refine AA (Fy ho ?_)
 rw[hd]
 refine AG ?_
 dsimp only
 refine AA ?_
 show wpAny _ _ (forIn vs.toArray _ _) _ _ s
 rw[<-Ec]
 refine D_ _ (λrest r s'=>r.1=none/\s'=s/\∀v∈rest,v∈vs) _ (λv rest r s' ⟨hr,hs,hall⟩=>?_) (λ⟨r1,r2⟩ s' ⟨hr,hs,_⟩=>?_) _ _ ⟨rfl,rfl,λv hv=>hv⟩
 ·subst hs
  refine AA (hq v (hall v AQ) _ ?_)
  simp only[A',if_false]
  exact AG ⟨rfl,rfl,λz hz=>hall z (AM _ hz)⟩
 ·subst hs
  simp only at hr
  subst hr
  exact AG q
theorem cj.class{u:Value}{m:Mark}{Q:Bool->AH->Prop}(x:cj s.heap u m)(q:Q false s):wpAny (model P w) A (E8 8 u) Q E s:=by
 obtain⟨a,b,t,rfl,h1,vs,h2,i⟩:=x
 refine xI h1 (λv hv Q' q'=>?_) q
 rcases AV.mp hv with z | z
 ·rw[z];exact AG q'
 ·rw[Ad.mp z]
  refine xI h2 (λv hv Q' q'=>?_) q'
  obtain⟨i,t,rfl⟩:=oN i v hv
  exact AG q'
theorem YH{u:Value}{m:Mark}{l:List Value}{Q:Bool->AH->Prop}(x:cj s.heap u m)(hl:∀v∈l,∃m',cj s.heap v m')(q:Q false s):wpAny (model P w) A (searchCouldBeSeen u l) Q E s:=by
 unfold searchCouldBeSeen
 refine AA ?_
 refine D_ _ (λrest r s'=>r.1=none/\s'=s/\∀v∈rest,v∈l) _ (λv rest r s' ⟨hr,hs,hall⟩=>?_) (λ⟨r1,r2⟩ s' ⟨hr,hs,_⟩=>?_) _ _ ⟨rfl,rfl,λv hv=>hv⟩
 ·subst hs
  obtain⟨m',y⟩:=hl v (hall v AQ)
  have go:∀z∈rest,z∈l:=λz hz=>hall z (AM _ hz)
  dsimp only
  refine Ci (λ_=>AG ⟨rfl,rfl,go⟩) λ_=>?_
  refine AA (x.quiet ?_)
  simp only[C6,A',if_false]
  refine AA (y.quiet ?_)
  simp only[C6,A',if_false]
  refine AA (x.class ?_)
  simp only[A',if_false]
  refine AA (y.class ?_)
  simp only[A',if_false]
  exact AG ⟨rfl,rfl,go⟩
 ·subst hs
  simp only at hr
  subst hr
  exact AG q
theorem cj.lt{u v:Value}{m m':Mark}(hu:A.units+2<cLine)(x:cj s.heap u m)(y:cj s.heap v m'):∃b:Bool,∀(Q:Bool->AH->Prop) (E:Value->AH->Prop),Q b s->wpAny (model P w) A (keyLt' (tuples' true) u v) Q E s:=by
 obtain⟨a,b,t,rfl,h1,vs,h2,i⟩:=x
 obtain⟨a',b',t',rfl,h1',vs',h2',i'⟩:=y
 refine⟨if m.1=m'.1 then(if m.2=m'.2 then false else HT.lexLt m.2 m'.2) else decide (m.1<m'.1),λQ E q=>?_⟩
 have q1:IsTup s.heap a [.int m.1 t,.ref b].toArray:=h1
 obtain⟨o,ho,hc,n,hd⟩:=h1
 obtain⟨o',ho',hc',n',hd'⟩:=h1'
 refine PySem.W.kat_lt ho hd ho' hd' ?_
 show PySem.W.KatLex P w A true (decide (2<2)) Q [(.int m.1 t,.int m'.1 t'),(.ref b,.ref b')] 0 s
 refine JU (vJ A s m.1 t m'.1 t' P w _ _ ?_)
 by_cases e:m.1=m'.1
 ·rw[if_pos e] at q
  rw[decide_eq_true e]
  refine PySem.W.kat_yes (JU (Jr (by omega) ⟨vs,h2,i⟩ ⟨vs',h2',i'⟩ P w _ _ ?_))
  by_cases e2:m.2=m'.2
  ·rw[if_pos e2] at q
   rw[decide_eq_true e2]
   exact PySem.W.kat_yes (PySem.W.kat_nil q)
  ·rw[if_neg e2] at q
   rw[decide_eq_false e2]
   refine PySem.W.kat_no (PySem.W.kat_one _ _ ?_)
   exact HT.Nw h2 h2' (by simpa using i) (by simpa using i') (by omega) q
 ·rw[if_neg e] at q
  rw[decide_eq_false e]
  exact PySem.W.kat_no (oneLt_int q)
end
theorem mG{α β:Type}{R:α->β->Prop}{l l':List α}(p:l'.Perm l):∀{m:List β},BV R l m->∃m',BV R l' m'/\m'.Perm m:=by
 induction p with
 | nil=>intro m h;cases h;exact⟨[],.nil,.refl _⟩
 | cons x _ ih=>
  intro m h
  cases h with
  | cons r t=>
   obtain⟨k',a,b⟩:=ih t
   exact⟨_::k',.cons r a,b.cons _⟩
 | swap x y l=>
  intro m h
  cases h with
  | cons a r=>
   cases r with
   | cons b r=>exact⟨_,.cons b (.cons a r),.swap _ _ _⟩
 | trans _ _ ih1 ih2=>
  intro m h
  obtain⟨k1,a1,b1⟩:=ih2 h
  obtain⟨k2,a2,b2⟩:=ih1 a1
  exact⟨k2,a2,b2.trans b1⟩
theorem fL{α β:Type}{R R':α->β->Prop}(f:∀a b,R a b->R' a b):∀{l:List α} {m:List β},BV R l m->BV R' l m
 | _,_,.nil=>.nil
 | _,_,.cons h t=>.cons (f _ _ h) (fL f t)
theorem fZ{α β:Type}{R:α->β->Prop}:∀{l:List α} {m:List β} {i:Nat} {x:α},BV R l m->l[i]? =some x->∃y,m[i]? =some y/\R x y
 | _,_,_,_,.nil,e=>by simp at e
 | _,_,0,_,.cons r _,e=>by simp at e;subst e;exact⟨_,rfl,r⟩
 | _,_,i+1,_,.cons _ t,e=>by
  simp only[B0] at e ⊢
  exact fZ t e
theorem YI(m:Nat)(h:Int):∀n,(ST.aU m h n).j+(ST.aU m h n).more<=m:=by
 have top:∀i,i<=m->i+(BA m i-i)<=m:=λi hi=>by have:=ST.MH hi;omega
 intro n
 induction n with
 | zero=>exact top (Bn h % (m+1)) (by have:=DQ (Bn h) (show 0<m+1 by omega);omega)
 | succ n ih=>
  show(ST.nL m (ST.aU m h n)).j+(ST.nL m (ST.aU m h n)).more<=m
  unfold ST.nL
  split
  ·dsimp only;omega
  ·refine top _ ?_
   unfold C7
   have:=DQ ((ST.aU m h n).i*5+1+(ST.aU m h n).perturb / 32) (show 0<m+1 by omega)
   dsimp only
   omega
structure iG (w:World)(h:Heap)(a:Addr)(es:Array (Int×Value))(ep:Nat)(t:SetTable)(ms:List Mark):Prop where
 obj:∃o,h.get? a=some o/\o.ExactSet/\o.data=.set es ep t
 tab:∃E,ST.TI t E/\es=(E.map (·.2)).toArray
 led:t.led= !w.params.followText "set-order"
 plain:t.plain=true
 load:es.size*5<t.mask*3
 vals:BV (λe m=>cj h e.2 m/\e.1=fK w m) es.toList ms
 once:ms.Nodup
 few:ms.length<=64
theorem fits_of{t:SetTable}{E:List ST.En}(I:ST.TI t E):t.fits (E.map (·.2)).toArray.size=true:=by
 unfold Ik SetTable.fill
 rw[I.pl,I.dm]
 have:=I.lt
 simp
 exact this
theorem iG.len{w:World}{h:Heap}{a:Addr}{es:Array (Int×Value)}{ep:Nat}{t:SetTable}{ms:List Mark}(S:iG w h a es ep t ms):es.size=ms.length:=by
 rw[<-cX S.vals,Au]
theorem iG.at{w:World}{h h':Heap}{a:Addr}{es:Array (Int×Value)}{ep:Nat}{t:SetTable}{ms:List Mark}(S:iG w h a es ep t ms)(k:∀o,h.get? a=some o->h'.get? a=some o)(kt:xG h h'):iG w h' a es ep t ms:=by
 obtain⟨o,e,r⟩:=S.obj
 exact⟨⟨o,k o e,r⟩,S.tab,S.led,S.plain,S.load,fL (λe m x=>⟨x.1.kp kt,x.2⟩) S.vals,S.once,S.few⟩
theorem uF{a:Addr}{h h':Heap}(hs:Ck a h h')(ha:∀o,h.get? a=some o->o.cls≠.type "tuple"):xG h h':=λb o e hc=>by
 by_cases q:b=a
 ·subst q;exact absurd hc (ha o e)
 ·exact(hs.2 b q).trans e
section
variable{P:Af}{w:World}{A:A0}{Er:Value->AH->Prop}{s:AH}
theorem N6{a:Addr}{o:Obj}{ep:Nat}{t:SetTable}{E:List ST.En}{ms:List Mark}{u:Value}{m:Mark}{Q:SetFound->AH->Prop}(ho:s.heap.get? a=some o)(hd:o.data=.set (E.map (·.2)).toArray ep t)(I:ST.TI t E)
  (hv:BV (λe m=>cj s.heap e.2 m/\e.1=fK w m) (E.map (·.2)) ms) (x:cj s.heap u m) (hu:A.units+3<cLine) (hold:m∈ms->Q (.there none) s)
  (hfree:∀n,(∀e∈E,e.1≠(ST.aU t.mask (fK w m) n).j)->(∀k,k<n->∃e∈E,e.1=(ST.aU t.mask (fK w m) k).j/\¬cj s.heap e.2.2 m)->Q (.free (ST.aU t.mask (fK w m) n).j false) s):
  ∀(fuel n:Nat) (stand:Option SetTable.Probe),stand.getD (t.probeStart (fK w m))=ST.aU t.mask (fK w m) n->(∀k,k<n->∃e∈E,e.1=(ST.aU t.mask (fK w m) k).j/\¬cj s.heap e.2.2 m)->1500<=fuel+n->
   wpAny (model P w) A (setSearchFrom a u (fK w m) true fuel stand) Q Er s:=by
 have hf:=fits_of I
 have hmk:t.mask<=127:=by rcases I.ms with e | e | e<;>omega
 have odd:t.gaveWay=false:=by unfold SetTable.gaveWay;rcases I.ms with e | e | e<;>rw[e]<;>rfl
 intro fuel
 induction fuel with
 | zero=>
  intro n stand hst hn hfu
  obtain⟨n0,h1,h2⟩:=I.Jo (fK w m)
  obtain⟨e,he,z,_⟩:=hn n0 (by omega)
  exact absurd z (h2 e he)
 | succ fuel ih=>
  intro n stand hst hn hfu
  unfold setSearchFrom
  refine AA (BS ho hd hf ?_)
  dsimp only
  rw[odd,if_neg (by decide),hst]
  generalize hpr:SetTable.probe t _ _ _=pr
  have key:=I.SU (fK w m) n λk hk=>let ⟨e,he,z,_⟩:=hn k hk;⟨e,he,z⟩
  rcases key with⟨n',h1,h2,h3,h4⟩ | ⟨n',i,e,h1,h2,h3,h4,h5,h6⟩
  ·have:pr=some (.empty (ST.aU t.mask (fK w m) n').j none):=by rw[<-hpr];exact h4
   subst this
   dsimp only
   refine AG (hfree n' h2 λk hk=>?_)
   by_cases q:k<n
   ·exact hn k q
   ·obtain⟨e,he,z,nh⟩:=h3 k (by omega) hk
    refine⟨e,he,z,λy=>nh ?_⟩
    obtain⟨i,hi⟩:=Ak he
    obtain⟨m',_,y',e'⟩:=fZ hv (show(E.map (·.2))[i]? =some e.2 by rw[AJ,hi];rfl)
    rw[e',y'.inj y]
  ·have:pr=some (.candidate (ST.aU t.mask (fK w m) n').j i (ST.aU t.mask (fK w m) (n'+1))):=by rw[<-hpr];exact h6
   subst this
   dsimp only
   obtain⟨m',hm',y,ey⟩:=fZ hv (show(E.map (·.2))[i]? =some e.2 by rw[AJ,h3];rfl)
   have ee:(E.map (·.2)).toArray[i]? =some e.2:=by rw[Bu,AJ,h3];rfl
   have sl:t.slot (ST.aU t.mask (fK w m) n').j=.live i:=by rw[<-h4];exact I.xF h3
   have seen:∀v∈((((E.map (·.2)).toArray.filter λz=>z.1 == fK w m)).toList.map (·.2)),∃m',cj s.heap v m':=λv YJ=>by
    obtain⟨z,hz,rfl⟩:=As.mp YJ
    rw[Array.toList_filter] at hz
    obtain⟨j,hj⟩:=Ak (EU.mp hz).1
    obtain⟨m',_,y',_⟩:=fZ hv hj
    exact⟨m',y'⟩
   have next:∀k,k<n'+1->¬m'=m->∃e∈E,e.1=(ST.aU t.mask (fK w m) k).j/\¬cj s.heap e.2.2 m:=λk hk ne=>by
    by_cases q:k<n
    ·exact hn k q
    ·by_cases q2:k<n'
     ·obtain⟨e,he,z,nh⟩:=h2 k (by omega) q2
      refine⟨e,he,z,λy=>nh ?_⟩
      obtain⟨i,hi⟩:=Ak he
      obtain⟨m',_,y',e'⟩:=fZ hv (show(E.map (·.2))[i]? =some e.2 by rw[AJ,hi];rfl)
      rw[e',y'.inj y]
     ·have:k=n':=by omega
      subst this
      exact⟨e,AI h3,h4,λy2=>ne (y.inj y2)⟩
   obtain⟨ya,yb,yt,eu,_⟩:=id y
   cases hl:t.led with
   | true=>
    simp only[C6,A',if_false]
    rw[ee]
    dsimp only
    refine AA (BE (y.SY (by omega) x P w _ _ ?_))
    refine AA (BS ho hd hf ?_)
    by_cases q:m'=m
    ·rw[decide_eq_true q]
     dsimp only
     exact AG (hold (q▸AI hm'))
    ·rw[decide_eq_false q]
     dsimp only
     simp only[DC,A',if_false]
     rw[show t.sameMemory t.moves t.mask=some true by unfold IZ;rw[if_pos (by simp)]]
     dsimp only
     rw[if_pos rfl,sl]
     dsimp only
     rw[ee]
     dsimp only
     rw[eu]
     refine AA (wpAny_isSame_ref_self (AA (AG ?_)))
     simp only[if_true]
     exact ih (n'+1) (some _) rfl (λk hk=>next k hk q) (by omega)
   | false=>
    simp only[Bool.not_false,if_true]
    refine AA (YH x seen ?_)
    simp only[A',if_false]
    rw[ee]
    dsimp only
    refine AA (BE (y.SY (by omega) x P w _ _ ?_))
    refine AA (BS ho hd hf ?_)
    by_cases q:m'=m
    ·rw[decide_eq_true q]
     dsimp only
     exact AG (hold (q▸AI hm'))
    ·rw[decide_eq_false q]
     dsimp only
     simp only[DC,A',if_false]
     rw[show t.sameMemory t.moves t.mask=some true by unfold IZ;rw[if_pos (by simp)]]
     dsimp only
     rw[if_pos rfl,sl]
     dsimp only
     rw[ee]
     dsimp only
     rw[eu]
     refine AA (wpAny_isSame_ref_self (AA (AG ?_)))
     simp only[if_true]
     exact ih (n'+1) (some _) rfl (λk hk=>next k hk q) (by omega)
theorem stored{h:Heap}{a:Addr}{o:Obj}{es:Array (Int×Value)}{ep:Nat}{t:SetTable}(ho:h.get? a=some o)(hex:o.ExactSet)(hd:o.data=.set es ep t)(es':Array (Int×Value))(t':SetTable):
  ∃o',(h.update a (DP es' t')).get? a=some o'/\o'.ExactSet/\o'.data=.set es' (ep+1) t':=by
 have:=Bk (DP es' t') ho (by rw[G8 es' t' hd];rfl)
 rw[G8 es' t' hd] at this
 exact⟨_,this,hex,rfl⟩
theorem S_{a:Addr}{es:Array (Int×Value)}{ep:Nat}{t:SetTable}{ms:List Mark}{u:Value}{m:Mark}{Q:Bool->AH->Prop}(S:iG w s.heap a es ep t ms)(room:ms.length+1<=64)(x:cj s.heap u m)(hu:A.units+3<cLine)
  (hold:m∈ms->Q false s)
  (hnew:m ∉ ms->∀h' es' ep' t' dE,Ck a s.heap h'->iG w h' a es' ep' t' dE->dE.Perm (m::ms)->(es'.toList.map (·.2)).Perm (u::es.toList.map (·.2))->Q true {s with heap:=h'}):
  wpAny (model P w) A (HR a u (fK w m)) Q Er s:=by
 obtain⟨o,ho,hex,hd⟩:=S.obj
 obtain⟨E,I,rfl⟩:=S.tab
 have hf:=fits_of I
 have Mw:=S.len
 have lE:E.length=ms.length:=by simpa using Mw
 have hsc:byScan u (E.map (·.2)).toArray=false:=by
  obtain⟨a,b,t,rfl,_⟩:=x
  rfl
 unfold HR IE
 refine BE (AA (BS ho hd hf ?_))
 dsimp only
 rw[hsc,if_neg (by decide)]
 unfold setSearch
 refine AA (N6 ho hd I S.vals x hu (λhm=>AG (hold hm)) (λn h1 h2=>?_) 100000 0 none rfl (λk hk=>by omega) (by omega))
 dsimp only
 refine AA (BS ho hd hf ?_)
 have hn:∀k,k<n->∃e∈E,e.1=(ST.aU t.mask (fK w m) k).j:=λk hk=>let ⟨e,he,z,_⟩:=h2 k hk;⟨e,he,z⟩
 have load:E.length*5<t.mask*3:=by have:=S.load;simpa using this
 have nm:m ∉ ms:=λhm=>by
  obtain⟨i,hi⟩:=Ak hm
  obtain⟨e2,he2,y,ey⟩:=jJ S.vals hi
  have he2:(E.map (·.2))[i]? =some e2:=he2
  rw[AJ] at he2
  cases hE:E[i]? with
  | none=>rw[hE] at he2;cases he2
  | some e=>
   rw[hE] at he2
   cases he2
   refine I.Qn (US:=λe=>cj s.heap e.2.2 m) h1 h2 (λe he y=>?_) e (AI hE) y
   obtain⟨j,hj⟩:=Ak he
   obtain⟨m',_,y',e'⟩:=fZ S.vals (show(E.map (·.2))[j]? =some e.2 by rw[AJ,hj];rfl)
   rw[e',y'.inj y]
 have hj:(ST.aU t.mask (fK w m) n).j<=t.mask:=A1 (Nat.le_add_right _ _) (YI t.mask (fK w m) n)
 obtain⟨E',pE,I',afk,eT⟩:=I.put (h:=fK w m) (x:=u) h1 hn (by omega) hj
 have lE':E'.length=E.length+1:=by rw[pE.length_eq];rfl
 obtain⟨t1,e1,p1,l1,m1,g1,f1⟩:∃t1,(t.put (ST.aU t.mask (fK w m) n).j).1=t1/\t1.plain=true/\t1.led=t.led/\t1.mask=t.mask/\t1.moves=t.moves/\t1.finger=t.finger:=⟨_,rfl,by rw[eT];exact S.plain,by rw[eT],by rw[eT],by rw[eT],by rw[eT]⟩
 rw[e1] at I'
 dsimp only
 rw[afk,e1]
 rw[p1,if_pos rfl]
 refine AA (x.acd ?_)
 rw[if_pos rfl]
 refine AA (Ex ho hd ?_ (by rw[Cg];simp;omega))
 obtain⟨o1,ho1,YK,hd1⟩:=stored ho hex hd (E'.map (·.2)).toArray t1
 have zQ:=Cd s.heap a (DP (E'.map (·.2)).toArray t1)
 have kt1:=uF zQ λo2 e2=>by rw[ho] at e2;cases e2;rw[hex.1];decide
 have v1:∃dE,BV (λe m=>cj s.heap e.2 m/\e.1=fK w m) (E'.map (·.2)) dE/\dE.Perm (m::ms):=mG (pE.map (·.2)) (.cons ⟨x,rfl⟩ S.vals)
 obtain⟨dE,v1,pm⟩:=v1
 have nd:dE.Nodup:=pm.nodup_iff.mpr (B4.mpr ⟨nm,S.once⟩)
 have lm:dE.length<=64:=by rw[pm.length_eq];exact room
 generalize s.heap.update a (DP (E'.map (·.2)).toArray t1)=hp at ho1 zQ kt1 ⊢
 have fl:t1.tooFull=decide (E'.length*5 ≥ t.mask*3):=by
  unfold SetTable.tooFull SetTable.fill
  rw[I'.pl,I'.dm,m1]
  simp
 rw[fl]
 by_cases c:E'.length*5 ≥ t.mask*3
 ·rw[decide_eq_true c,if_pos (by decide)]
  obtain⟨mk2,ld2⟩:=I'.grow (by omega) (by rw[m1];exact c) (by rw[m1];omega) (by omega)
  obtain⟨t2,order,E2,el,I2,q1,q2,q3,q4,q5,q6,q7⟩:=ST.Qo (fg:=t1.finger) (mv:=t1.movedTo (Ee (Bh E'.length)-1)) (ld:=t1.led) (pn:=t1.plain) mk2 (L:=E'.map (·.2)) (by rw[AB];omega)
  unfold setRelay
  have sz:(E.map (·.2)).toArray.size+1=E'.length:=by simp;omega
  rw[sz]
  refine AA (AA (BS ho1 hd1 (fits_of I') ?_))
  dsimp only
  rw[if_neg (by
   have:Ee (Bh E'.length)-1<=127:=by rcases mk2 with e | e | e<;>omega
   rw[Cg];omega)]
  have eR:t1.relaid ((E'.map (·.2)).toArray.map (·.1)) (Bh E'.length)=some (t2,order):=by
   rw[<-el]
   unfold Hh
   rw[List.map_toArray]
  rw[eR]
  refine AA ?_
  show wpAny (model P w) A (do
   let es':=order.filterMap ((E'.map (·.2)).toArray[·]?)
   if es'.size != (E'.map (·.2)).toArray.size then IG "internal:set-table-lost-an-element"
   pure (es',t2)) _ _ _
  rw[q6]
  have lE2:E2.length=E'.length:=by have:=q7.length_eq;simpa using this
  dsimp only
  rw[if_neg (by simp[lE2])]
  refine AG ?_
  dsimp only
  refine Ex ho1 hd1 ?_ (by rw[Cg];simp;omega)
  obtain⟨o2,ho2,hex2,hd2⟩:=stored ho1 YK hd1 (E2.map (·.2)).toArray t2
  have sb2:=zQ.trans (Cd hp a (DP (E2.map (·.2)).toArray t2))
  have YL:=uF sb2 λo2 e2=>by rw[ho] at e2;cases e2;rw[hex.1];decide
  obtain⟨ms2,v2,xJ⟩:=mG q7 v1
  refine AG (hnew nm _ _ _ _ ms2 sb2 ⟨⟨o2,ho2,hex2,hd2⟩,⟨E2,I2,rfl⟩,by rw[q4,l1];exact S.led,by rw[q5];exact p1,?_,fL (λe m x=>⟨x.1.kp YL,x.2⟩) v2,xJ.nodup_iff.mpr nd,by rw[xJ.length_eq];exact lm⟩ (xJ.trans pm) ((q7.map (·.2)).trans ((pE.map (·.2)).map (·.2))))
  rw[q1]
  simp
  omega
 ·rw[decide_eq_false c,if_neg (by simp)]
  refine AG (hnew nm hp _ _ _ dE zQ ⟨⟨o1,ho1,YK,hd1⟩,⟨E',I',rfl⟩,by rw[l1];exact S.led,p1,?_,fL (λe m x=>⟨x.1.kp kt1,x.2⟩) v1,nd,lm⟩ pm ((pE.map (·.2)).map (·.2)))
  rw[m1]
  simp
  omega
end
structure gf (w:World)(h:Heap)(a:Addr)(es:Array (Int×Value))(ep:Nat)(t:SetTable):Prop where
 obj:∃o,h.get? a=some o/\o.ExactSet/\o.data=.set es ep t
 tab:∃E,ST.TI t E/\es=(E.map (·.2)).toArray
 led:t.led= !w.params.followText "set-order"
 plain:t.plain=true
 few:es.size<=64
theorem iG.w{w:World}{h:Heap}{a:Addr}{es:Array (Int×Value)}{ep:Nat}{t:SetTable}{ms:List Mark}(S:iG w h a es ep t ms):gf w h a es ep t:=⟨S.obj,S.tab,S.led,S.plain,by rw[S.len];exact S.few⟩
theorem gf.fits{w:World}{h:Heap}{a:Addr}{es:Array (Int×Value)}{ep:Nat}{t:SetTable}(S:gf w h a es ep t):t.fits es.size=true:=by
 obtain⟨E,I,rfl⟩:=S.tab
 exact fits_of I
theorem gf.line{w:World}{h:Heap}{a:Addr}{es:Array (Int×Value)}{ep:Nat}{t:SetTable}(S:gf w h a es ep t):es.size<=sizeLine:=by have:=S.few;rw[Cg];omega
theorem gf.at{w:World}{h h':Heap}{a:Addr}{es:Array (Int×Value)}{ep:Nat}{t:SetTable}(S:gf w h a es ep t)(k:∀o,h.get? a=some o->h'.get? a=some o):gf w h' a es ep t:=by
 obtain⟨o,e,r⟩:=S.obj
 exact⟨⟨o,k o e,r⟩,S.tab,S.led,S.plain,S.few⟩
section
variable{P:Af}{w:World}{A:A0}{E:Value->AH->Prop}{s:AH}
theorem MK{I a:Addr}{sl i ep':Nat}{es:Array (Int×Value)}{ep:Nat}{t:SetTable}{v:Value}{nx:Nat}{Q:Option Value->AH->Prop}(hI:gW s.heap I #[Ap sl,Ap i,.ref a,Ap es.size,Ap ep'])
  (S:gf w s.heap a es ep t) (hn:∀(B:A0) (E':Value->AH->Prop) (Q':Option (Value×Nat)->AH->Prop),Q' (some (v,nx)) s->wpAny (model P w) B (Ez a sl i ep') Q' E' s)
  (h:∀h',gW h' I #[Ap nx,Ap (i+1:Nat),.ref a,Ap es.size,Ap ep']->Ck I s.heap h'->Q (some v) {s with heap:=h'}):wpAny (model P w) A (C1 (.ref I)) Q E s:=by
 have hT:s.TypeIs (.ref I) "set_iterator":=⟨_,hI,rfl⟩
 obtain⟨o,ho,hex,hd⟩:=S.obj
 unfold C1
 refine AA (C5 (BF (name:=CH "__next__") hT SI.slot_next (BK SI.slot_next hT SI.entry_next ?_ (SI.args_next _))))
 refine AA (AG ?_)
 refine AA (D4 hI rfl ?_)
 refine AA (CM ho hd S.fits ?_)
 rw[if_neg (by simp[Ap])]
 dsimp only[Ap]
 rw[Ae,Ae,Ae]
 refine AA (hn _ _ _ ?_)
 dsimp only
 refine AA (Bi hI (by simp) λh1 e1 b1=>?_)
 refine AA (Bi e1 (by simp) λh2 e2 b2=>?_)
 refine AG ⟨v,rfl,AG (h h2 ?_ (b1.trans b2))⟩
 simpa[Ap] using e2
theorem Qq{I a:Addr}{sl i ep':Nat}{es:Array (Int×Value)}{ep:Nat}{t:SetTable}{Q:Option Value->AH->Prop}(hh:A.handled=none)(hI:gW s.heap I #[Ap sl,Ap i,.ref a,Ap es.size,Ap ep'])
  (S:gf w s.heap a es ep t) (hn:∀(B:A0) (E':Value->AH->Prop) (Q':Option (Value×Nat)->AH->Prop),Q' none s->wpAny (model P w) B (Ez a sl i ep') Q' E' s)
  (h:∀h',Ej I s.heap h'->Q none {s with heap:=h'}):wpAny (model P w) A (C1 (.ref I)) Q E s:=by
 have hT:s.TypeIs (.ref I) "set_iterator":=⟨_,hI,rfl⟩
 obtain⟨o,ho,hex,hd⟩:=S.obj
 unfold C1
 refine AA (C5 (BF (name:=CH "__next__") hT SI.slot_next (BK SI.slot_next hT SI.entry_next ?_ (SI.args_next _))))
 refine AA (AG ?_)
 refine AA (D4 hI rfl ?_)
 refine AA (CM ho hd S.fits ?_)
 rw[if_neg (by simp[Ap])]
 dsimp only[Ap]
 rw[Ae,Ae,Ae]
 refine AA (hn _ _ _ ?_)
 dsimp only
 exact vB (k0:=none) hh hI (by simp) h
theorem ML{a:Addr}{es:Array (Int×Value)}{ep:Nat}{t:SetTable}{sl i:Nat}{Q:Option (Value×Nat)->AH->Prop}(S:gf w s.heap a es ep t)(hb:w.params.followText "set-order"=true)
  (h:Q (((C8 (w.params.setOrder a ep) es)[i]?).map λe=>(e.2,sl)) s):wpAny (model P w) A (Ez a sl i ep) Q E s:=by
 obtain⟨o,ho,hex,hd⟩:=S.obj
 unfold Ez
 refine AA (BS ho hd S.fits ?_)
 dsimp only
 refine AA (iO (a:=a) ?_)
 rw[hb,if_pos rfl,if_neg (by simp)]
 refine AA ?_
 unfold setWalk
 refine AA (BS ho hd S.fits ?_)
 dsimp only
 refine AA (iO (a:=a) ?_)
 rw[hb,if_pos rfl]
 refine AA (FL (AG ?_))
 exact AG h
theorem Qr{a:Addr}{es:Array (Int×Value)}{ep:Nat}{t:SetTable}{sl i:Nat}{Q:Option (Value×Nat)->AH->Prop}(S:gf w s.heap a es ep t)(hb:w.params.followText "set-order"=false)
  (h:Q (match es[BL t.place sl]?,t.place[BL t.place sl]? with | some (_,x),some j=>some (x,j+1) | _,_=>none) s):wpAny (model P w) A (Ez a sl i ep) Q E s:=by
 obtain⟨o,ho,hex,hd⟩:=S.obj
 have hl:t.led=true:=by rw[S.led,hb];rfl
 unfold Ez
 refine AA (BS ho hd S.fits ?_)
 dsimp only
 refine AA (iO (a:=a) ?_)
 rw[hb,if_neg (by decide)]
 refine Ci (λhab=>?_) (λ_=>?_)
 ·have hab':(!t.plain&&decide (es.size>1))=true:=hab
  rw[S.plain] at hab'
  cases hab'
 refine AA ?_
 show wpAny (model P w) A (if(!t.led&& !es.isEmpty)=true then IG _ else pure ()) _ _ s
 rw[hl,if_neg (by simp)]
 exact AG (AG h)
theorem Js{xs:Array Nat}(hs:xs.toList.Pairwise (· < ·))(i:Nat)(hi:i<=xs.size):BL xs (if i=0 then 0 else xs.getD (i-1) 0+1)=i:=by
 generalize hj:(if i=0 then 0 else xs.getD (i-1) 0+1)=j
 obtain⟨h1,h2,h3⟩:=ST.uE j hs
 have at_:∀k,k<xs.size->xs.toList[k]? =some (xs.getD k 0):=λk hk=>by rw[A_,Av hk,Bt,Av hk];rfl
 rcases Gj (BL xs j) i with q | q | q
 ·have b1:=h3 _ _ (AK _) (at_ _ (by omega))
  have e0:i≠0:=by omega
  rw[if_neg e0] at hj
  by_cases z:BL xs j=i-1
  ·rw[z] at b1;omega
  ·have:=ST.gs hs (show BL xs j<i-1 by omega) (at_ _ (by omega)) (at_ _ (by omega))
   omega
 ·exact q
 ·have b1:=h2 i _ q (at_ i (by omega))
  by_cases e0:i=0
  ·rw[if_pos e0] at hj;omega
  ·rw[if_neg e0] at hj
   have:=ST.gs hs (show i-1<i by omega) (at_ _ (by omega)) (at_ _ (by omega))
   omega
abbrev YM (vs:List Value):Nat->Value->Prop:=λi v=>vs[i]? =some v
theorem S0{I a:Addr}{es:Array (Int×Value)}{ep:Nat}{t:SetTable}(hh:A.handled=none)(hne:a≠I)(hb:w.params.followText "set-order"=true)(hsz:(C8 (w.params.setOrder a ep) es).size=es.size):
  Walks P w A I [I,a] [I] es.size (YM ((C8 (w.params.setOrder a ep) es).toList.map (·.2))) (λi h=>gW h I #[Ap 0,Ap i,.ref a,Ap es.size,Ap ep]/\gf w h a es ep t) where
 sub:=λb hb=>by simp at hb;simp[hb]
 frame:=λ_ _ _ st hk=>⟨hk I (by simp) _ st.1,st.2.at λo q=>hk a (by simp) o q⟩
 item:=λi s Q E hi st hQ=>by
  obtain⟨e,he⟩:∃e,(C8 (w.params.setOrder a ep) es)[i]? =some e:=⟨_,Av (by omega)⟩
  refine MK (sl:=0) (v:=e.2) (nx:=0) st.1 st.2 (λB E' Q' q=>ML st.2 hb (by rw[he];exact q)) λh' e1 b1=>hQ e.2 h' s.toks ?_ ⟨e1,st.2.at λo q=>(b1.2 a hne).trans q⟩ λb o hb q=>(b1.2 b (by simpa using hb)).trans q
  show((C8 (w.params.setOrder a ep) es).toList.map (·.2))[i]? =some e.2
  rw[AJ,A_,he];rfl
 done:=λs Q E st hQ=>by
  have he:(C8 (w.params.setOrder a ep) es)[es.size]? =none:=C3 (by omega)
  exact Qq (sl:=0) hh st.1 st.2 (λB E' Q' q=>ML st.2 hb (by rw[he];exact q)) λh' x=>hQ h' s.toks λb o hb q=>x b o (by simpa using hb) q
 self:=λ_ _ _ _ st hQ=>nH st.1 hQ
theorem S4{I a:Addr}{es:Array (Int×Value)}{ep:Nat}{t:SetTable}(hh:A.handled=none)(hne:a≠I)(hb:w.params.followText "set-order"=false):
  Walks P w A I [I,a] [I] es.size (YM (es.toList.map (·.2))) (λi h=>gW h I #[Ap (if i=0 then 0 else t.place.getD (i-1) 0+1:Nat),Ap i,.ref a,Ap es.size,Ap ep]/\gf w h a es ep t) where
 sub:=λb hb=>by simp at hb;simp[hb]
 frame:=λ_ _ _ st hk=>⟨hk I (by simp) _ st.1,st.2.at λo q=>hk a (by simp) o q⟩
 item:=λi s Q E hi st hQ=>by
  obtain⟨Er,I',eE⟩:=st.2.tab
  have up:t.place.toList.Pairwise (· < ·):=by rw[I'.pl];exact I'.up
  have ps:t.place.size=es.size:=by rw[I'.pl,eE];simp
  obtain⟨e,he⟩:∃e,es[i]? =some e:=⟨_,Av (by omega)⟩
  have hp:t.place[i]? =some (t.place.getD i 0):=by rw[Bt,Av (by omega)];rfl
  refine MK (v:=e.2) (nx:=t.place.getD i 0+1) st.1 st.2 (λB E' Q' q=>Qr st.2 hb ?_) λh' e1 b1=>hQ e.2 h' s.toks ?_ ⟨?_,st.2.at λo q=>(b1.2 a hne).trans q⟩ λb o hb q=>(b1.2 b (by simpa using hb)).trans q
  ·rw[Js up i (by omega),he,hp]
   exact q
  ·show(es.toList.map (·.2))[i]? =some e.2
   rw[AJ,A_,he];rfl
  ·rw[if_neg (by omega)]
   exact e1
 done:=λs Q E st hQ=>by
  obtain⟨Er,I',eE⟩:=st.2.tab
  have up:t.place.toList.Pairwise (· < ·):=by rw[I'.pl];exact I'.up
  have ps:t.place.size=es.size:=by rw[I'.pl,eE];simp
  refine Qq hh st.1 st.2 (λB E' Q' q=>Qr st.2 hb ?_) λh' x=>hQ h' s.toks λb o hb q=>x b o (by simpa using hb) q
  rw[Js up es.size (by omega),C3 (by omega)]
  exact q
 self:=λ_ _ _ _ st hQ=>nH st.1 hQ
theorem WH{a:Addr}{es:Array (Int×Value)}{ep:Nat}{t:SetTable}{Q:Value->AH->Prop}(S:gf w s.heap a es ep t)
  (h:∀(I:Addr) (h1:Heap) (d1:Drawn) (fx:List Addr) (vs':List Value) (St:Nat->Heap->Prop),vs'.Perm (es.toList.map (·.2))->s.heap.objs.size<=I->I<h1.objs.size->(∀b∈fx,s.heap.objs.size<=b/\b<h1.objs.size)->(∀b o,s.heap.get? b=some o->h1.get? b=some o)->St 0 h1->
   (∀B:A0,B.handled=none->Walks P w B I (I::a::fx) [I] es.size (YM vs') St)->Q (.ref I) {s with heap:=h1,drawn:=d1}):
  wpAny (model P w) A (Iu (.ref a)) Q E s:=by
 obtain⟨o,ho,hex,hd⟩:=S.obj
 have hT:s.TypeIs (.ref a) "set":=⟨o,ho,hex.1⟩
 have la:a<s.heap.objs.size:=AU ho
 refine Gh hT Dr (BK Dr hT SI.nG ?_ (G' _))
 unfold Builtin.«frozenset.__iter__» HA slotArgs
 simp only[List.isEmpty_nil,C6,A', ↓reduceIte,bind_assoc,B5,bne_self_eq_false]
 unfold Gy Gz
 refine AA (AG ?_)
 try dsimp only
 refine AA (AG ?_)
 refine AA (AA (CM ho hd S.fits (AG ?_)))
 unfold setDrawn
 refine AA (AA (BS ho hd S.fits ?_))
 dsimp only
 refine AA (iO (a:=a) (AG ?_))
 refine Ci (λhab=>?_) (λhab=>?_)
 ·have hab':(!w.params.followText "set-order"&&(!t.plain&&decide (es.size>1)))=true:=hab
  rw[S.plain] at hab'
  simp at hab'
 ·refine AA (AG ?_)
  refine AA (Gi ho hd S.fits ?_)
  refine AA (BJ (AG ⟨_,rfl,"set_iterator",_,⟨_,AO _ rfl,rfl⟩,SI.slot_next.lookup,?_⟩))
  have qf:a≠s.heap.objs.size:=Ac la
  cases hb:w.params.followText "set-order" with
  | true=>
   have pp:(C8 (w.params.setOrder a ep) es).toList.Perm es.toList:=qg (w.params.setOrder a ep) es.size 0 es.toList #[] (by simp)
   have sz:(C8 (w.params.setOrder a ep) es).size=es.size:=by
    have:=pp.length_eq
    rw[Au,Au] at this
    exact this
   exact h s.heap.objs.size (s.heap.push _) s.drawn [] _ _ (pp.map (·.2)) (AK _) (by rw[Ax];exact B7 _) (λb hb=>by simp at hb) (λb o q=>AE _ q) ⟨AO _ rfl,S.at λo q=>AE _ q⟩
    (λB hB=>S0 (ep:=ep) (t:=t) hB qf hb sz)
  | false=>
   exact h s.heap.objs.size (s.heap.push _) s.drawn [] _ _ (.refl _) (AK _) (by rw[Ax];exact B7 _) (λb hb=>by simp at hb) (λb o q=>AE _ q) ⟨AO _ rfl,S.at λo q=>AE _ q⟩
    (λB hB=>S4 (ep:=ep) (t:=t) hB qf hb)
theorem N7{a:Addr}{es:Array (Int×Value)}{ep:Nat}{t:SetTable}{Q:List Value->AH->Prop}(S:gf w s.heap a es ep t)(hh:A.handled=none)
  (h:∀(h':Heap) (tk:Nat) (d':Drawn) (acc:List Value),(∀b o,s.heap.get? b=some o->h'.get? b=some o)->acc.Perm (es.toList.map (·.2))->Q acc {s with heap:=h',toks:=tk,drawn:=d'}):
  wpAny (model P w) A (collect (.ref a)) Q E s:=by
 obtain⟨o,ho,hex,hd⟩:=S.obj
 have la:a<s.heap.objs.size:=AU ho
 unfold collect
 refine AA (GL (Bx entry_proto_collect' ?_))
 rw[Bf Fq]
 show wpAny (model P w) A.in1 (newList [] >>= λl=>again (.builtin "list.__iadd__" ⟨[l,.ref a],[]⟩)) _ _ s
 refine AA (BJ ?_)
 refine AG ⟨CO DY _,Bx entry_list_iadd' ?_⟩
 rw[Bf DY]
 have g1:(s.heap.push {cls:=.type "list",data:=.seq ([]:List Value).toArray}).get? s.heap.objs.size=some {cls:=.type "list",data:=.seq #[]}:=AO _ rfl
 have z1:(s.heap.push {cls:=.type "list",data:=.seq ([]:List Value).toArray}).objs.size=s.heap.objs.size+1:=Ax ..
 have k1:∀b o,s.heap.get? b=some o->(s.heap.push {cls:=.type "list",data:=.seq ([]:List Value).toArray}).get? b=some o:=λb o q=>AE _ q
 show wpAny (model P w) A.in1 (Be (.ref s.heap.objs.size) (.ref a) (.ref s.heap.objs.size)) _ _ _
 generalize s.heap.push {cls:=.type "list",data:=.seq ([]:List Value).toArray}=h1 at g1 z1 k1 ⊢
 have S1:gf w h1 a es ep t:=S.at λo q=>k1 a o q
 have T1:FU {s with heap:=h1} (.ref a) "set":=⟨o,k1 a o ho,hex.1⟩
 unfold Be
 refine AA (Cm T1 ?_)
 have n1:CN (.ref s.heap.objs.size) (.ref a)=false:=by simp[CN];exact CQ la
 rw[if_neg (by rw[n1];decide)]
 refine AA (WH (s:={s with heap:=h1}) S1 λI h2 d2 fx vs' St pv PZ ltI Yj k2 st W=>?_)
 refine AA (BE (zU ⟨o,k2 a o (k1 a o ho),hex.1⟩ ?_))
 refine Ci (λ_=>?_) (λhab=>absurd (by decide+kernel) hab)
 have lS:s.heap.objs.size<h1.objs.size:=by rw[z1];exact B7 _
 have nf:s.heap.objs.size ∉ I::a::fx:=λm=>by
  rcases AV.mp m with q | m
  ·exact absurd PZ (by rw[<-q];exact JC.mpr lS)
  ·rcases AV.mp m with q | m
   ·exact absurd la (by rw[<-q];exact Bm _)
   ·exact absurd (Yj _ m).1 (JC.mpr lS)
 refine AA (Cw (AA ?_))
 have g2:=k2 _ _ g1
 show wpAny (model P w) A.in1 (IU s.heap.objs.size (·.push .none) >>= λ_=>IU s.heap.objs.size (·.pop)) _ _ _
 refine AA (Dm g2 rfl ?_)
 have g3:=Bk (Br (·.push CB)) g2 rfl
 refine Dm (hz:=by seq_fits) g3 rfl ?_
 have g4:=Bk (Br (·.pop)) g3 rfl
 have k4:∀b o,b≠s.heap.objs.size->h2.get? b=some o->((h2.update s.heap.objs.size (Br (·.push CB))).update s.heap.objs.size (Br (·.pop))).get? b=some o:=λb o nb q=>
  (CI _ _ (C0 nb)).trans ((CI _ _ (C0 nb)).trans q)
 have Mm:=(W A.in1 hh).frame 0 _ _ st λb hb o q=>k4 b o (λz=>nf (z▸hb)) q
 refine AG ⟨CO GV _,FX (W A.in1 hh).toS (S.line) s.heap.objs.size nf _ es.size 0 _ #[] _ rfl (BI _) Mm g4 (JW _) λs' acc' c' hm hS' hacc=>?_⟩
 show wpAny (model P w) A (load s.heap.objs.size >>= _) _ _ s'
 refine AA (Fy hS' ?_)
 refine AG ?_
 rw[Ii hm]
 refine h s'.heap s'.toks d2 acc'.toList (λb o q=>hm.heap b o (λm=>?_) (k4 b o (Ac (AU q)) (k2 b o (k1 b o q)))) ?_
 ·have lb:=AU q
  rcases AV.mp m with z | m
  ·exact absurd lb (by rw[z];exact Bm _)
  ·have z:=Ad.mp m
   exact absurd (Es lb lS) (by rw[z];exact JD.mpr PZ)
 ·have:acc'.toList=vs':=Cc λi=>by
   by_cases hi:i<es.size
   ·obtain⟨v,hv⟩:∃v,acc'[i]? =some v:=⟨_,Av (by rw[hacc.1];exact hi)⟩
    rw[A_,hv]
    exact(hacc.2 i v hv).symm
   ·rw[BC (by rw[Au,hacc.1];omega),BC (by rw[pv.length_eq,AB,Au];omega)]
  rw[this]
  exact pv
end
section
variable{P:Af}{w:World}{A:A0}{E:Value->AH->Prop}
def nP(P:Af)(w:World)(A:A0)(h:Heap)(v:Value)(n:Int):Prop:=∀(E:Value->AH->Prop) (s:AH) (Q:Int->AH->Prop),s.heap=h->(∀tk,s.toks<=tk->Q n {s with toks:=tk})->wpAny (model P w) A (pyHash v) Q E s
theorem rC{h:Heap}:∀{vs:List Value} {ns:List Int} {s:AH} {b:Array Int} {Q:Array Int->AH->Prop},BV (nP P w A h) vs ns->s.heap=h->(∀tk b',s.toks<=tk->b'.toList=b.toList++ns->Q b' {s with toks:=tk})->
  wpAny (model P w) A (forIn vs b λx r=>do let n <-pyHash x;pure PUnit.unit;pure (B6 (r.push n))) Q E s
 | _,_,s,b,Q,.nil,_,q=>AG (q s.toks b (AK _) (by simp))
 | _,_,s,b,Q,.cons hv ht,e,q=>by
  rw[Dl]
  refine AA (AA (hv E s _ e λtk htk=>?_))
  refine AA (AG (AG ?_))
  exact rC ht (s:={s with toks:=tk}) e λtk' b' h' hb=>q tk' b' (A1 htk h') (by simp[hb])
theorem xK{h:Heap}{a:Addr}{vs:List Value}{ns:List Int}(hu:A.units<cLine)(ht:IsTup h a vs.toArray)(hi:BV (nP P w A.in1 h) vs ns):nP P w A h (.ref a) (reduceHash (DI ns)):=by
 intro E s Q e q
 subst e
 obtain⟨o,ho,hc,n,hd⟩:=ht
 refine PySem.W.pyHash_slot (T:="tuple") ⟨o,ho,hc⟩ HE PySem.F.entry_tuple_hash (PySem.F.args_tuple_hash_1 _) (beq_builtin_none _) (.inr hu) ?_
 show wpAny _ _ (DB (.ref a) >>= _) _ _ s
 refine AA (wpAny_tupleItemsOf ho hd (AA ?_))
 rw[<-Ec]
 refine rC (b:= #[]) hi rfl λtk b htk hb=>?_
 show wpAny _ _ (retInt (DI b.toList)) _ _ _
 rw[hb,List.nil_append]
 exact AA (wpAny_mkInt (AG ⟨_,_,rfl,q _ (Nat.le_succ_of_le htk)⟩))
theorem xM{h:Heap}(i:Int)(t:Tok):nP P w A h (.int i t) (G0 w.params (.int i)):=λE s Q e q=>wpAny_pyHash_int (PySem.W.hashW_int w.params i▸q _ (B8 _))
theorem uG{h:Heap}:∀{vs:List Value} {ns:List Int},C2 vs ns->BV (nP P w A h) vs (ns.map λi=>G0 w.params (.int i))
 | _,_,.nil=>.nil
 | _,_,.cons a t r=>.cons (xM a t) (uG r)
theorem cj.YN{h:Heap}{u:Value}{m:Mark}(hu:A.units+2<cLine)(x:cj h u m):nP P w A h u (fK w m):=by
 obtain⟨a,b,t,rfl,h1,vs,h2,i⟩:=x
 have in1:A.in1.units<=A.units+1:=by simp[Dc]
 exact xK (by omega) h1 (.cons (xM _ t) (.cons (xK (by omega) h2 (uG i)) .nil))
end
section
variable{P:Af}{w:World}{A:A0}{R:JS->AH->Prop}{I S:Addr}{fp wr:List Addr}{G:Array Fv->Array Fv->Prop}{n:Nat}{St:Nat->AH->Prop}
theorem Qs{h0:Heap}{its:Array Value}(W:WalksS P w A.in1 I fp wr G n (λi v=>its[i]? =some v) St)(hSf:S ∉ fp)(hT:∀i s,St i s->∀b∈wr,∀o,s.heap.get? b=some o->o.cls≠.type "tuple")
  (its':Array Value) (xs:List Mark) (hn:its.size=n) (hi:BV (cj h0) its.toList xs) (hb:n<=64) (hu:A.in1.units+4<cLine):
  ∀(k i:Nat) (s:AH) (es:Array (Int×Value)) (ep:Nat) (t:SetTable) (ks:List Mark),n-i=k->i<=n->St i s->xG h0 s.heap->iG w s.heap S es ep t ks->(∀y,y∈ks↔y∈xs.take i)->ks.length<=i->(∀v∈es.toList.map (·.2),v∈its.toList)->
   (∀s' es' ep' t' ks',Moved (S::wr) G s s'->iG w s'.heap S es' ep' t' ks'->(∀y,y∈ks'↔y∈xs)->(∀v∈es'.toList.map (·.2),v∈its.toList)->R (.ok (.ret .none)) s')->
   Em (model P w) A (.builtin "set.update.loop" ⟨[.ref S,.ref I],[]⟩) R s:=by
 have hSw:S ∉ wr:=λz=>hSf (W.sub _ z)
 have more:∀b∈wr,b∈S::wr:=λb z=>AM _ z
 have kt:∀{i:Nat} {s s':AH},St i s->Moved wr G s s'->xG s.heap s'.heap:=λ{i s s'} st mv b o e hc=>mv.heap b o (λz=>hT i s st b z o e hc) e
 intro k
 induction k with
 | zero=>
  intro i s es ep t ks hk hi' st kp hS hm hl vK hR
  have e:i=n:=by omega
  subst e
  refine Bx CL ?_
  rw[Bf BG]
  show wpAny (model P w) A.in1 (C1 (.ref I) >>= _) _ _ s
  refine AA (W.done s _ _ st λs' mv=>?_)
  show wpAny (model P w) A.in1 (ret CB) _ _ s'
  refine AG (hR s' es ep t ks (mv.mono more) (hS.at (λo q=>mv.heap S o hSw q) (kt st mv)) (λy=>?_) vK)
  rw[hm y,BD (by have:=cX hi;rw[Au] at this;omega)]
 | succ k ih=>
  intro i s es ep t ks hk hi' st kp hS hm hl vK hR
  have lt:i<n:=by omega
  refine Bx CL ?_
  rw[Bf BG]
  show wpAny (model P w) A.in1 (C1 (.ref I) >>= _) _ _ s
  refine AA (W.item i s _ _ lt st λv s' hv st' mv=>?_)
  obtain⟨m,ex,x0⟩:=fZ hi (show its.toList[i]? =some v by rw[A_];exact hv)
  have k1:=kt st mv
  have YO:xG h0 s'.heap:=λb o e hc=>k1 b o (kp b o e hc) hc
  have x:cj s'.heap v m:=x0.kp YO
  have hS':iG w s'.heap S es ep t ks:=hS.at (λo q=>mv.heap S o hSw q) k1
  have tk1:∀y,y∈xs.take (i+1)↔y∈xs.take i∨y=m:=λy=>by rw[DM,ex];simp
  have vi:v∈its.toList:=AI (show its.toList[i]? =some v by rw[A_];exact hv)
  show wpAny (model P w) A.in1 (holding [v] (setAdd S v) >>= _) _ _ s'
  refine AA (BE ?_)
  unfold setAdd
  refine BE (AA (x.YN (by omega) _ s' _ rfl λtk htk=>?_))
  refine S_ (s:={s' with toks:=tk}) hS' (by omega) x (by omega) (λhx=>?_) (λhx h' es' ep' t' ks' sb S2 m2 afl=>?_)
  ·refine AG ⟨CO BG _,ih (i+1) _ es ep t ks (by omega) lt (W.frame _ s' s'.heap _ st' htk λb _ o q=>q) YO hS' (λy=>?_) (by omega) vK λs2 es2 uw t2 uv mv2 S2 m2 l2=>?_⟩
   ·rw[hm y,tk1 y]
    constructor
    ·exact .inl
    ·rintro(z | z)
     ·exact z
     ·rw[z];exact(hm m).mp hx
   ·exact hR s2 es2 uw t2 uv (Gg W.gtrans ((mv.mono more).then_heap htk λb o _ q=>q) mv2) S2 m2 l2
  ·have YL:=uF sb λo2 e2=>by obtain⟨o,ho,hex,_⟩:=hS'.obj;rw[ho] at e2;cases e2;rw[hex.1];decide
   refine AG ⟨CO BG _,ih (i+1) _ es' ep' t' ks' (by omega) lt (W.frame _ s' h' _ st' htk λb hb o q=>?_) (λb o e hc=>YL b o (YO b o e hc) hc) S2 (λy=>?_) (by have:=m2.length_eq;rw[Aj] at this;omega) (λz hz=>?_) λs2 es2 uw t2 uv mv2 S2 m2 l2=>?_⟩
   ·exact(sb.2 b (λz=>hSf (z▸hb))).trans q
   ·rw[m2.mem_iff,AV,hm y,tk1 y]
    exact Or.comm
   ·rcases AV.mp (afl.mem_iff.mp hz) with z | z
    ·rw[z];exact vi
    ·exact vK _ z
   ·exact hR s2 es2 uw t2 uv (Gg W.gtrans ((mv.mono more).then_heap htk λb o hb q=>(sb.2 b (λz=>hb (z▸AQ))).trans q) mv2) S2 m2 l2
end
section
variable{P:Af}{w:World}{A:A0}{E:Value->AH->Prop}{s:AH}
theorem Lx(h:Heap):iG w (h.push (bL w)) h.objs.size #[] 0 (.fresh 0 0 (!w.params.followText "set-order")) []:=
 ⟨⟨_,AO _ rfl,⟨rfl,rfl,rfl⟩,rfl⟩,⟨[],⟨.inl rfl,rfl,rfl,by simp,λe he=>by simp at he,by simp,λe he=>by simp at he⟩,rfl⟩,rfl,rfl,by show 0*5<7*3;omega,.nil,by simp,by simp⟩
theorem Jt{l:Addr}{its:Array Value}{xs:List Mark}{Q:Value->AH->Prop}(hh:A.handled=none)(hu:A.units+12<cLine)(hl:s.heap.IsList l its)(hi:BV (cj s.heap) its.toList xs)(hb:its.size<=64)
  (h:∀(h':Heap) (tk:Nat) es ep t ks,iG w h' s.heap.objs.size es ep t ks->(∀y,y∈ks↔y∈xs)->(∀v∈es.toList.map (·.2),v∈its.toList)->(∀b o,b<s.heap.objs.size->s.heap.get? b=some o->h'.get? b=some o)->Q (.ref s.heap.objs.size) {s with heap:=h',toks:=tk}):
  wpAny (model P w) A (call (.type "set") [.ref l]) Q E s:=by
 obtain⟨c,tl,hmro⟩:=BN.mro
 have hmade:=BN.made
 have hsub:=BN.sub
 refine Iv (Hi ?_)
 show wpAny _ _ (callAny (.type "set") _) _ _ _
 refine AG ⟨Code.quiet_builtin _ (by decide+kernel),Bx G9 ?_⟩
 rw[JB (weight_type_call_type "set" [.ref l] []) rfl]
 have a1:=BN.notType
 have a2:=BN.canCreate
 have a3:=HS (.ref l)
 repeat (any_goals (first | assumption | wp_step))
 refine Dd (zR (.ref l) (E:=E) (Q:=λobj s₁=>obj=.ref s.heap.objs.size/\s₁={s with heap:=s.heap.push (bL w)}) ⟨rfl,rfl⟩) λr s₁ hr=>?_
 cases r with
 | error e=>exact hr
 | ok fl=>
  cases fl with
  | ret obj=>
   obtain⟨rfl,rfl⟩:=hr
   have gS:(s.heap.push (bL w)).get? s.heap.objs.size=some (bL w):=AO _ rfl
   have hT:FU {s with heap:=s.heap.push (bL w)} (.ref s.heap.objs.size) "set":=⟨_,gS,rfl⟩
   have a4:=BN.init.lookup
   have a5:=BN.init.bind (.ref s.heap.objs.size)
   repeat (any_goals (first | assumption | wp_step))
   refine Dd (codeAny_call_builtin (R:=wants (λr s₂=>r=.none/\∃h' tk es ep t ks,s₂={s with heap:=h',toks:=tk}/\iG w h' s.heap.objs.size es ep t ks/\(∀y,y∈ks↔y∈xs)/\(∀v∈es.toList.map (·.2),v∈its.toList)/\
     (∀b o,b<s.heap.objs.size->s.heap.get? b=some o->h'.get? b=some o)) E) BN.init.plain HU (check_set_init_1 hT ?_)) λr₂ s₂ hr₂=>?_
   ·obtain⟨ol,hol,hcl,nl,hdl⟩:=hl
    obtain⟨ocls,odict,odata,oslots⟩:=ol
    simp only at hcl hdl
    subst hcl hdl
    have hol':(s.heap.push (bL w)).get? l=some {cls:=.type "list",dict:=odict,data:=.seq its nl,slots:=oslots}:=AE _ hol
    have b1:=IF
    have b2:=GK
    have b3:(DO "list" == DO "dict")=false:=by decide
    have hl1:(s.heap.push (bL w)).IsList l its:=⟨_,hol',rfl,nl,rfl⟩
    unfold Builtin.«set.__init__» noKeywords Fi
    generalize hPI:Iu=PI
    wp_walk
    subst hPI
    refine Dv hl1 ?_
    refine AA (GL ?_)
    have lS:l<s.heap.objs.size:=AU hol
    have hh3:A.in1.in1.in1.handled=none:=by simp[hh]
    have qf:l≠(s.heap.push (bL w)).objs.size:=by rw[Ax];exact Ac (Bp lS)
    have nf:s.heap.objs.size ∉ [(s.heap.push (bL w)).objs.size,l]:=by
     rw[Ax]
     simp only[AV,CU,or_false,not_or]
     exact⟨Ac (B7 _),CQ lS⟩
    have lx:=cX hi
    rw[Au] at lx
    have in3:A.in1.in1.in1.units<=A.units+3:=by simp only[Dc];omega
    refine Qs (h0:=s.heap) ((Jf hh3 _ l qf its).toS) nf (λi s' st b hb o e=>?nt) its xs (by omega) hi hb (by omega) (its.size-0) 0 _ #[] 0 _ [] (by omega) (BI _) ⟨⟨_,AO _ rfl,rfl,rfl⟩,hl1.push _⟩ (λb o e _=>AE _ (AE _ e)) ((Lx s.heap).at (λo q=>AE _ q) λb o q _=>AE _ q) (λy=>by simp) (AK _) (λv hv=>by simp at hv) ?hR
    case nt=>
     obtain⟨⟨oI,eI,cI,_⟩,_⟩:=st
     rw[Ad.mp hb,eI] at e
     cases e
     rw[cI];decide
    case hR=>
     intro s' es' ep' t' ks' hm hS' hmem hlen
     obtain⟨h',g',d',tk',os'⟩:=s'
     have eg:g'=s.gens:=hm.gens
     have ed:d'=s.drawn:=hm.drawn
     have eo:os'=s.os:=hm.os
     subst eg ed eo
     show wpAny _ _ _ _ _ _
     refine AG ?_
     show wpAny _ _ (ret CB) _ _ _
     refine AG ⟨rfl,h',tk',es',ep',t',ks',rfl,hS',hmem,hlen,λb o hb e=>?_⟩
     refine hm.heap b o ?_ (AE _ (AE _ e))
     simp only[AV,CU,or_false,not_or]
     rw[Ax]
     exact⟨Ac hb,Ac (Bp hb)⟩
   ·cases r₂ with
    | error e=>exact hr₂
    | ok fl₂=>
     cases fl₂ with
     | ret r=>
      obtain⟨rfl,h',tk,es,ep,t,ks,rfl,hS',hm,Mw,hk'⟩:=hr₂
      repeat (any_goals (first | assumption | wp_step))
      exact h _ _ _ _ _ _ hS' hm Mw hk'
     | _=>exact hr₂.elim
  | _=>exact hr.elim
theorem uH:∀{h:Heap} {vs:List Value},(∀v∈vs,∃m,cj h v m)->∃fs:List Value,PySem.W.KatTups h vs fs/\fs.length=vs.length/\∀v∈fs,∃i t,v=.int i t
 | h,[],_=>⟨[],PySem.W.KatTups.nil,rfl,λv hv=>by cases hv⟩
 | h,v::vs,hv=>by
  obtain⟨fs,k,l,f⟩:=uH λv q=>hv v (AM _ q)
  obtain⟨m,a,b,t,rfl,⟨o,ho,hc,n,hd⟩,_⟩:=hv _ AQ
  refine⟨.int m.1 t::fs,PySem.W.KatTups.cons ho hc hd rfl k,by rw[Aj,Aj,l],λv q=>?_⟩
  rcases AV.mp q with z | z
  ·exact⟨_,_,z⟩
  ·exact f v z
end
def gw(H:Hp)(v:V)(m:Mark):Prop:=∃p q,v=.ref p/\H p=some (.tup [.int m.1,.ref q])/\H q=some (.tup (m.2.map V.int))
theorem gw.inj{H:Hp}{v:V}{m m':Mark}(x:gw H v m)(y:gw H v m'):m=m':=by
 obtain⟨p,q,rfl,h1,h2⟩:=x
 obtain⟨p',q',e,h1',h2'⟩:=y
 cases e
 rw[h1] at h1'
 simp only[Ew,HO.tup.injEq,Jb,V.int.injEq,V.ref.injEq,and_true] at h1'
 obtain⟨e1,rfl⟩:=h1'
 rw[h2] at h2'
 simp only[Ew,HO.tup.injEq] at h2'
 exact Prod.ext e1 (zZ h2')
section
variable{X:Cx}{pins:List (Addr×Obj)}{σ:St}{H:Hp}{s:AH}
theorem ints_of:∀{ns:List Int} {us:List Value},Vals (ns.map V.int) us->C2 us ns
 | [],_,h=>by cases h;exact .nil
 | n::ns,_,h=>by
  cases h with
  | cons a r=>
   obtain⟨t,rfl⟩:=a
   exact .cons n t (ints_of r)
theorem gw.v{v:V}{u:Value}{m:Mark}(x:gw H v m)(I:Inv X pins σ H s)(r:RelV v u):cj s.heap u m:=by
 obtain⟨p,q,rfl,h1,h2⟩:=x
 cases r
 obtain⟨its,rv,ht,_⟩:=I.tuple (.of h1)
 obtain⟨its2,Ji,ht2,_⟩:=I.tuple (.of h2)
 cases rv with
 | cons a1 rv=>
  cases rv with
  | cons a2 rv=>
   cases rv
   obtain⟨t,rfl⟩:=a1
   cases a2
   exact⟨p,q,t,rfl,ht,its2,ht2,ints_of Ji⟩
theorem gw.all{ws:List V}{us:List Value}{ms:List Mark}(I:Inv X pins σ H s)(r:Vals ws us):BV (gw H) ws ms->BV (cj s.heap) us ms:=by
 intro h
 induction h generalizing us with
 | nil=>cases r;exact .nil
 | cons x _ ih=>
  cases r with
  | cons a r=>exact .cons (x.v I a) (ih r)
def zc(w:World)(a:Addr)(as:List Addr):HO:=.ext λh=>∃es ep t,gf w h a es ep t/\es.toList.map (·.2)=as.map A5
def ace(X:Cx):List V->Hp->VK->Prop:=λxs H Q=>∃(l:Addr) (ws:List V) (ms:List Mark),xs=[.ref l]/\bG X.K H l ws/\BV (gw H) ws ms/\ms.length<=64/\
 ∀(p:Addr) (as:List Addr) (dE:List Mark),H p=none->BV (λa m=>gw H (.ref a) m) as dE->dE.Nodup->(∀m,m∈dE↔m∈ms)->Q (.ref p) (upd H p (zc X.w p as))
theorem MM{h:Heap}{ws:List V}{its:List Value}{ms:List Mark}(rv:Vals ws its)(hw:BV (gw H) ws ms)(hv:BV (cj h) its ms):∀{l:List (Int×Value)} {ks:List Mark},BV (λe m=>cj h e.2 m/\e.1=fK X.w m) l ks->(∀v∈l.map (·.2),v∈its)->
  ∃as:List Addr,l.map (·.2)=as.map A5/\BV (λa m=>gw H (.ref a) m) as ks
 | _,_,.nil,_=>⟨[],rfl,.nil⟩
 | _,_,.cons (a:=e) (b:=m) x r,hs=>by
  obtain⟨as,e1,p1⟩:=MM rv hw hv r λv q=>hs v (AM _ q)
  obtain⟨a,b,t,eu,_⟩:=id x.1
  obtain⟨i,hi⟩:=Ak (hs e.2 (by simp))
  obtain⟨m',hm',y⟩:=fZ hv hi
  obtain⟨v,YJ,z⟩:=jJ hw hm'
  obtain⟨u,hu,ru⟩:=rv.get YJ
  rw[hi] at hu
  cases hu
  have em:m=m':=x.1.inj y
  subst em
  obtain⟨p,q,rfl,z1,z2⟩:=z
  rw[eu] at ru
  cases ru
  exact⟨a::as,by rw[Aw,Aw,e1,eu],.cons ⟨a,q,rfl,z1,z2⟩ p1⟩
theorem Qt(hc:X.calm=true)(hA:X.A.units+16<cLine):cK X (.type "set") (ace X):=by
 intro pins s σ H xs us Q I r h
 obtain⟨l,ws,ms,rfl,hq,hw,hb,q⟩:=h
 obtain⟨u,rfl,ru⟩:=vals1 r
 cases ru
 obtain⟨its,rv,p,_⟩:=I.list hq
 have hv:=gw.all I rv hw
 have hl:=cX hv
 refine Jt (I.ok.hd hc) (by omega) p.isList (xs:=ms) (by simpa using hv) (by simp;omega) λh' tk es ep t ks S hm vK kp=>?_
 have k':∀b o,s.heap.get? b=some o->h'.get? b=some o:=λb o e=>kp b o (AU e) e
 have hp:s.heap.objs.size<=s.heap.objs.size:=AK _
 obtain⟨as,e1,p1⟩:=MM (X:=X) rv hw (fL (λa b x=>x.kp λb o e _=>k' b o e) hv) S.vals (by simpa using vK)
 have I2:=I.laid (a:=s.heap.objs.size) (o:=zc X.w s.heap.objs.size as) (t':=tk) k' hp ⟨⟨es,ep,t,S.w,e1⟩,(let ⟨o,e,_⟩:=S.obj;⟨o,e⟩),λh1 h2 ⟨es1,Yk,t1,S1,p1⟩ k2=>⟨es1,Yk,t1,S1.at k2,p1⟩⟩
 exact⟨.ref s.heap.objs.size,_,I2,rfl,q _ as ks (I.hok.fresh hp) p1 S.once hm⟩
theorem Ju{as:List Addr}{l:List Value}(p:l.Perm (as.map A5)):∃as':List Addr,l=as'.map A5/\as'.Perm as:=by
 have h:∀as:List Addr,BV (λ(v:Value) (a:Addr)=>v=A5 a) (as.map A5) as:=λas=>by
  induction as with
  | nil=>exact .nil
  | cons a as ih=>exact .cons rfl ih
 have b:∀{l:List Value} {as:List Addr},BV (λ(v:Value) (a:Addr)=>v=A5 a) l as->l=as.map A5:=λh=>by
  induction h with
  | nil=>rfl
  | cons x _ ih=>rw[Aw,x,ih]
 obtain⟨as',x,y⟩:=mG p (h as)
 exact⟨as',b x,y⟩
theorem xN:∀as:List Addr,Vals (as.map V.ref) (as.map A5)
 | []=>.nil
 | a::as=>.cons rfl (xN as)
end
section
variable{X:Cx}
def S6(K:AD):V->List V->Hp->VK->Prop:=λx vs H Q=>∃(p:Addr) (ws:List V) (ts:List Mark) (t:Mark) (v:V) (j:Nat),x=.ref p/\vs=[v]/\bG K H p ws/\BV (gw H) ws ts/\gw H v t/\ts[j]? =some t/\(∀i,i<j->ts[i]? ≠some t)/\Q (.int (j:Nat)) H
theorem N8(K:AD)(hu:X.A.units+8<cLine)(hK:X.K=K:=by rfl):Mh X "list.index" (S6 K):=by
 subst hK
 intro pins s σ H x vs v us Q I rx rv h
 obtain⟨p,ws,ts,t,tv,j,rfl,rfl,hq,ht,tt,hj,hlt,q⟩:=h
 cases rx
 obtain⟨u,rfl,ru⟩:=rv.one
 obtain⟨its,r,⟨o,n,e,hc,hd,hs⟩,hz⟩:=I.list hq
 obtain⟨ocls,odict,odata,oslots⟩:=o
 simp only at hc hd hs
 subst hc hs
 have l1:=Vals.length r
 have l2:=cX ht
 have hj':=(AF.mp hj).1
 rw[Cg] at hz
 have at':∀i (hi:i<its.toArray.size),∃(y:Mark) (yv:V),ts[i]? =some y/\gw H yv y/\RelV yv its.toArray[i]:=λi hi=>by
  have hi':i<its.length:=by simpa using hi
  obtain⟨y,hy⟩:∃y,ts[i]? =some y:=⟨_,Al (by omega)⟩
  obtain⟨yv,hv,ay⟩:=jJ ht hy
  obtain⟨z,hz',rz⟩:=Vals.get r hv
  have:=(AF.mp hz').2
  exact⟨y,yv,hy,ay,by rw[FY,this];exact rz⟩
 let ee:Value->Bool:=λy=>@decide (∃yv,gw H yv t/\RelV yv y) (Cu _)
 have in1:X.A.in1.units<=X.A.units+1:=by simp[Dc]
 refine FI F.slot_list_index ⟨_,e,rfl⟩ F.entry_list_index (F.args_list_index_2 _ _) (SeqAt.list_indexAt p its.toArray n odict oslots u ee j (by simp;omega) (by omega) ?_ (λm hm hlt'=>?_)) ⟨by subst hd;exact e,λy hy=>?_,?_⟩
 ·obtain⟨y,yv,hy,ay,ry⟩:=at' j (by simp;omega)
  have:y=t:=AN (hy.symm.trans hj)
  subst this
  exact @decide_eq_true _ (Cu _) ⟨yv,ay,ry⟩
 ·obtain⟨y,yv,hy,ay,ry⟩:=at' m hm
  refine @decide_eq_false _ (Cu _) λ⟨yv',YQ,YR⟩=>?_
  have:=Jj ry YR
  subst this
  exact hlt m hlt' (by rw[hy,gw.inj ay YQ])
 ·obtain⟨m,hm,rfl⟩:=Array.mem_iff_getElem.mp hy
  obtain⟨y,yv,hy,ay,ry⟩:=at' m hm
  have h:=(ay.v I ry).SY (A:=X.A.in1) (by omega) (tt.v I ru)
  have:ee its.toArray[m]=decide (y=t):=by
   by_cases YS:y=t
   ·subst YS
    rw[decide_eq_true rfl]
    exact @decide_eq_true _ (Cu _) ⟨yv,ay,ry⟩
   ·rw[decide_eq_false YS]
    refine @decide_eq_false _ (Cu _) λ⟨yv',YQ,YR⟩=>?_
    have:=Jj ry YR
    subst this
    exact YS (gw.inj ay YQ)
  rw[this]
  exact h
 ·exact⟨.int (j:Nat),H,I.tok _,⟨_,rfl⟩,q⟩
end
section
variable{M:Model}{A:A0}{E:Value->AH->Prop}{s₀ s:AH}{m cm:Str->Option Value}{env:Env}{cs:List (Str×Addr)}
theorem YT{n:Str}{c:Addr}{v:Value}{Q:Unit->AH->Prop}(x:IQ s₀ env.locals m cs cm s)(hk:env.scope.kind=.function)(hl:env.kindOf n=some .cell)
  (hc:cs.lookup n=some c) (he:env.cells.lookup n=some c)
  (h:∀s',IQ s₀ env.locals m cs (λy=>if y=n then some v else cm y) s'->Q () s'):wpAny M A (storeName env n v) Q E s:=by
 have hLc:=x.above n c (A9 hc)
 refine wpAny_storeName_cell hk hl he (x.cell n c hc) λh' hc' hs'=>h _ ⟨⟨?_,x.toInCall.ns.sameBut hs' (Ac hLc),λb o e=>?_,x.toInCall.fresh⟩,λk c' hk'=>?_,x.apart,x.above⟩
 ·obtain⟨h₁,tk,rfl⟩:=x.toInCall.same
  exact⟨h',_,rfl⟩
 ·exact hs'.extBut b o (Ac (Es (AZ (AU e) x.toInCall.fresh) hLc)) (x.toInCall.keep b o e)
 ·by_cases hkn:k=n
  ·subst hkn
   rw[hc] at hk';cases hk'
   simpa using hc'
  ·rw[if_neg hkn]
   exact(x.cell k c' hk').sameBut hs' λe=>hkn (name_of_addr x.apart (A9 hk') (e▸A9 hc))
theorem Jv(f:Str×Value->PUnit->Sem (ForInStep PUnit))(hf:∀n v u,f (n,v) u=(do storeName env n v;pure (.yield ⟨⟩)))(hk:env.scope.kind=.function):
  ∀(binds:List (Str×Value)) (cm:Str->Option Value) (s:AH) (Q:PUnit->AH->Prop),IQ s₀ env.locals m cs cm s->
   (∀x∈binds,env.kindOf x.1=some .cell/\∃c,cs.lookup x.1=some c/\env.cells.lookup x.1=some c)->
   (∀s',IQ s₀ env.locals m cs (bindC env.kindOf binds cm) s'->Q ⟨⟩ s')->wpAny M A (forIn binds ⟨⟩ f) Q E s
 | [],cm,s,Q,x,_,h=>by rw[GO];exact AG (h s x)
 | (n,v)::r,cm,s,Q,x,hkind,h=>by
  rw[Dl,hf]
  obtain⟨hl,c,hc,he⟩:=hkind (n,v) AQ
  have hnl:¬env.kindOf n=some .local:=by rw[hl];decide
  refine AA (AA (YT x hk hl hc he λs' x'=>AG (Jv f hf hk r _ s' Q x' (λy hy=>hkind y (AM _ hy)) λs'' x''=>h s'' ?_)))
  unfold bindC;rw[if_neg hnl];exact x''
end
theorem Jw{n:Nat}{names:List (Str×Cz)}{cl:List (Str×Addr)}{x:Str}{c:Addr}(h:(cellsFrom n names []).lookup x=some c):(cellsFrom n names cl).lookup x=some c:=by
 rw[gq,Eb,h];rfl
theorem S7{M:Model}{A:A0}{E:Value->AH->Prop}{s:AH}{scope:Scope}{globals:Addr}{closure:List (Str×Addr)}{binds:List (Str×Value)}{qual:Str}{func:Option Addr}{code:Value}{builtins:Addr}{Q:Env->AH->Prop}
  (hk:scope.kind=.function) (hl:∀x∈binds,scope.names.lookup x.1=some .cell)
  (hQ:∀env,env=newEnv scope s.heap.objs.size globals (cellsFrom (s.heap.objs.size+1) scope.names closure) qual func code none builtins->
   ∀s',IQ s env.locals (λ_=>none) (cellsFrom (s.heap.objs.size+1) scope.names []) (bindC env.kindOf binds λ_=>none) s'->Q env s'):
  wpAny M A (IA scope globals closure binds qual func code none builtins) Q E s:=by
 simp only[IA,Option.isSome_none,A',if_false]
 refine AA (wpAny_alloc ?_)
 refine AA (wpAny_layCells _ (λname kind cells=>by cases hkc:kind == FR<;>simp[hkc]) _ _ _ _ ?_)
 have ok:=cellsFrom_ok scope.names (s.heap.push {cls:=.type "frame",data:=.dict #[]}) (s.heap.objs.size+1) [] ⟨λ_ _ hm=>(nomatch hm),JI⟩ (by rw[Ax];exact AK _)
 rw[Ax] at ok
 rw[show({s with heap:=s.heap.push {cls:=.type "frame",data:=.dict #[]}}:AH).heap.objs.size=s.heap.objs.size+1 from Ax ..]
 refine AA (Jv (s₀:=s) (m:=λ_=>none) (cs:=cellsFrom (s.heap.objs.size+1) scope.names []) (env:=newEnv scope s.heap.objs.size globals (cellsFrom (s.heap.objs.size+1) scope.names closure) qual func code none builtins)
  _ (λ_ _ _=>rfl) hk binds (λ_=>none) _ _
  ⟨⟨⟨_,_,rfl⟩,(Heap.Ns.new s.heap (.type "frame")).keeps (pushCells_keeps _ _),λb o e=>pushCells_keeps _ _ b o (AE _ e),AK _⟩,
   λn c hc=>(ok.empty n c (A9 hc)).1,ok.apart,λn c hm=>(ok.empty n c hm).2⟩
  (λx hx=>?_) λs' x=>AG (hQ _ rfl s' x))
 obtain⟨c,hc⟩:=eY (n:=s.heap.objs.size+1) (hl x hx)
 exact⟨hl x hx,c,hc,Jw hc⟩
structure qp (ps aI:List Str)(scope:Scope):Prop where
 kind:scope.kind=.function
 co:scope.isCoroutine=false
 gen:scope.isGenerator=false
 par:∀x∈ps,scope.names.lookup x=some .cell
 free:∀x∈aI,scope.names.lookup x=some .free
 only:∀p∈scope.names,p.2=.free->p.1∈aI
 afm:∀p∈scope.names,p.2=.cell->p.1 ∉ aI
 nd:(ps++aI).Nodup
theorem S8{P:Af}{w:World}{K:AD}{mg:Str->Option Value}{base:Heap}{ps aI:List Str}{qual:Str}{scope:Scope}{f:Addr}{cd:Value}{cl:List (Str×Addr)}{A:A0}{outer:List Env}{s s1:AH}{H:Hp}{us:List Value}{vs fvs:List V}{kf:Str->Option Cz}
  (S:qp ps aI scope) (hd:A.handled=none) (e0:rS P w K mg base A outer s H) (hl:vs.length=ps.length) (r:Vals vs us) (C:iE base cl aI fvs) (hkf:kf=λy=>scope.names.lookup y)
  (x:IQ s s.heap.objs.size (λ_=>none) (cellsFrom (s.heap.objs.size+1) scope.names []) (bindC kf (ps.zip us) λ_=>none) s1):
  Inv (Qb P w K mg base (ps++aI) qual scope f cd cl A outer s H) [] (vs.map some++fvs.map some) H s1:=by
 obtain⟨h1,tk,rfl,hk⟩:=x.done
 have hkb:∀b o,base.get? b=some o->h1.get? b=some o:=λb o e=>hk b o (e0.bs b o e).1
 have mz:∀b:Addr,b ∉ (Qb P w K mg base (ps++aI) qual scope f cd cl A outer s H).ex:=λb z=>absurd (show b∈([]:List Addr) from z) (by simp)
 have lf:aI.length=fvs.length:=Aq C.vals
 have own:∀{y:Str} {c:Addr},(cellsFrom (s.heap.objs.size+1) scope.names []).lookup y=some c->s.heap.objs.size<c:=λ{y c} e=>x.above y c (A9 e)
 have old:∀{y:Str} {c:Addr},cl.lookup y=some c->c<s.heap.objs.size:=λ{y c} e=>by
  obtain⟨v,o,ho,_⟩:=C.cell y c e
  exact AU (e0.bs _ _ ho).1
 refine⟨⟨e0.mod,S.kind,rfl,rfl,AK _,λy z c h1' h2'=>?_,λy hy=>?_,λy c hf h=>?_,λ_=>hd,FW e0.frames,.inr ⟨rfl,rfl⟩,λb z=>absurd z (mz b),e0.bs,e0.pT,λb _ _=>mz b,λb z=>absurd z (mz b),e0.iW,e0.wQ⟩,
  rfl,e0.bare,Un.kept hk,⟨_,x.toInCall.ns,λi y v h1' h2 h3=>?_⟩,λy c h=>?_,e0.hok.fresh (AK _),λy c h=>?_,λp hp=>absurd (show p∈([]:List (Addr×Obj)) from hp) (by simp),e0.hok.kept hk,?_⟩
 ·rcases i7 h1' with a1 | ⟨_,a1⟩<;>rcases i7 h2' with a2 | ⟨_,a2⟩
  ·exact name_of_addr x.apart (A9 a1) (A9 a2)
  ·exact absurd (own a1) (JD.mpr (CZ (old a2)))
  ·exact absurd (own a2) (JD.mpr (CZ (old a1)))
  ·exact C.inj y z c a1 a2
 ·have hy:scope.names.lookup y=some .cell∨scope.names.lookup y=some .free:=hy
  show ∃c,(cellsFrom (s.heap.objs.size+1) scope.names cl).lookup y=some c
  rw[gq,Eb]
  cases e:(cellsFrom (s.heap.objs.size+1) scope.names []).lookup y with
  | some c=>exact⟨c,rfl⟩
  | none=>
   rcases hy with hy | hy
   ·obtain⟨c,q⟩:=eY (n:=s.heap.objs.size+1) hy
    rw[e] at q;cases q
   ·have hm:=S.only _ (A9 hy) rfl
    obtain⟨i,hi⟩:=Ak hm
    obtain⟨v,_,c,u,hc,_⟩:=gK C.vals hi
    exact⟨c,hc⟩
 ·have hf':vE scope y=true:=hf
  have hy:scope.names.lookup y=some .cell:=by
   unfold vE at hf'
   split at hf'
   ·assumption
   ·cases hf'
  obtain⟨c',q⟩:=eY (n:=s.heap.objs.size+1) hy
  rcases i7 (show(cellsFrom (s.heap.objs.size+1) scope.names cl).lookup y=some c from h) with a1 | ⟨a0,_⟩
  ·exact CZ (own a1)
  ·rw[a0] at q;cases q
 ·have jr:(ps++aI)[i]? =some y:=h1'
  have h2':(vs.map some++fvs.map some)[i]? =some (some v):=h2
  by_cases hi:i<ps.length
  ·rw[Am hi] at jr
   rw[Am (by rw[AB];omega),AJ] at h2'
   obtain⟨v',hv',e⟩:=Ca.mp h2'
   have e':v'=v:=AN e
   subst e'
   obtain⟨u,hu,rv⟩:=r.get hv'
   have Mc:ps.Nodup:=(Cs.mp S.nd).1
   have k:=S.par y (AI jr)
   obtain⟨c,e⟩:=eY (n:=s.heap.objs.size+1) k
   refine⟨u,rv,.inr ⟨.inl k,c,Jw e,?_⟩⟩
   have q:=x.cell y c e
   rw[p6 Mc jr hu (by rw[hkf];show scope.names.lookup y≠_;rw[k];decide)] at q
   exact q
  ·rw[Ag (by omega)] at jr
   rw[Ag (by rw[AB];omega),AB,hl,AJ] at h2'
   obtain⟨v',hv',e⟩:=Ca.mp h2'
   have e':v'=v:=AN e
   subst e'
   obtain⟨v2,hv2,c,u,hc,⟨o,ho,hd'⟩,rv⟩:=gK C.vals jr
   rw[hv'] at hv2
   cases hv2
   have hm:=AI jr
   refine⟨u,rv,.inr ⟨.inr (S.free y hm),c,?_,o,hkb _ _ ho,hd'⟩⟩
   show(cellsFrom (s.heap.objs.size+1) scope.names cl).lookup y=some c
   rw[gq,Eb]
   cases e:(cellsFrom (s.heap.objs.size+1) scope.names []).lookup y with
   | none=>exact hc
   | some d=>
    rcases qm (A9 e) with z | z
    ·exact absurd hm (S.afm _ z rfl)
    ·cases z
 ·rcases i7 (show(cellsFrom (s.heap.objs.size+1) scope.names cl).lookup y=some c from h) with a1 | ⟨_,a1⟩
  ·exact⟨_,x.cell y c a1⟩
  ·obtain⟨v,o,ho,hd'⟩:=C.cell y c a1
   exact⟨v,o,hkb _ _ ho,hd'⟩
 ·rcases i7 (show(cellsFrom (s.heap.objs.size+1) scope.names cl).lookup y=some c from h) with a1 | ⟨_,a1⟩
  ·exact e0.hok.fresh (CZ (own a1))
  ·obtain⟨v,o,ho,hd'⟩:=C.cell y c a1
   exact(e0.bs c o ho).2
 ·show _=(ps++aI).length
  rw[AR,AB,AB,AR,hl,lf]
theorem WI{P:Af}{w:World}{K:AD}{mg:Str->Option Value}{base:Heap}{k:Nat}{f c':Addr}{name qual:Str}{params:Dn}{body:Expr}{scope:Scope}{cl:List (Str×Addr)}{pm ctv:Value}{ps aI:List Str}{fvs:List V}{sp:Sp}
  (ho:base.get? f=some (Hj name qual params body scope cl pm c' ctv)) (uy:base.CodeRec (.ref c') qual) (S:qp ps aI scope) (C:iE base cl aI fvs) (len:∀vs H Q E,sp vs H Q E->vs.length=ps.length)
  (hbody:∀(A:A0) (outer:List Env) (s:AH) (H:Hp) (vs:List V) (Q:VK) (E:XK),aL k (A.deeper (Co qual scope s.heap.objs.size f (.ref c') (cellsFrom (s.heap.objs.size+1) scope.names cl)))->sp vs H Q E->
   ∃t,PE (Qb P w K mg base (ps++aI) qual scope f (.ref c') cl A outer s H) body t/\t (vs.map some++fvs.map some) H Q):
  aR P w K mg base bh (k+1) f (E1 name qual params body scope cl pm (.ref c') ctv) ps sp:=by
 refine⟨len,λA outer s H args us vs Q E hr e0 hb r hsp=>?_⟩
 have hl:=len _ _ _ _ hsp
 have lim:s.heap.NoLimit:=e0.mod.nolimit.keeps λb o e=>(e0.bs b o e).1
 have SA:s.heap.CodeRec (.ref c') qual:=by
  obtain⟨c,oc,vs',tq,hc,hoc,hdc,hq⟩:=uy
  exact⟨c,oc,vs',tq,hc,(e0.bs _ _ hoc).1,hdc,hq⟩
 refine II hr.depth (e0.bs _ _ ho).1 rfl S.co S.gen rfl SA (hb _ _ _ _ ?_)
 have hloc:∀y∈ps.zip us,scope.names.lookup y.1=some .cell:=λ⟨n,v⟩ hy=>S.par n (Cv hy).1
 refine S7 S.kind hloc λenv he s1 x=>?_
 subst he
 refine⟨lim.keeps x.toInCall.keep,?_⟩
 obtain⟨t,ht,hq⟩:=hbody A outer s H vs Q E (hr.deeper _) hsp
 have I:Inv (Qb P w K mg base (ps++aI) qual scope f (.ref c') cl A outer s H) [] (vs.map some++fvs.map some) H s1:=S8 S hr.hd e0 hl r C rfl x
 refine IJ (CC (ht [] _ _ H _ I hq) (λv s' hs=>?_) λe s' hs=>hs.elim)
 obtain⟨x,H',J,rv,q⟩:=hs
 exact⟨x,H',J.os,J.bare,J.base,J.hok,rv,q⟩
theorem FnAt.afn{X:Cx}{σ:St}{D:List Addr}{H:Hp}{base':Heap}{params:Dn}{body:Expr}{scope:Scope}{clos:List (Str×Addr)}{c' f:Addr}{ctv:Value}{ps aI:List Str}{fvs:List V}{k:Nat}{sp:Sp}(W:Wide X σ D H base')
  (hf:H f=some (uz f (lamO X params body scope clos c' ctv))) (P9:f∈D) (hc:H c'=some (rq c' (X.env.qual++"<lambda>"))) (hcD:c'∈D) (S:qp ps aI scope) (sub:∀p∈clos,X.env.cells.lookup p.1=some p.2)
  (vals:BV (λ(x:Str) (v:V)=>∃i:Nat,X.N[i]? =some x/\σ[i]? =some (some v)/\X.env.scope.names.lookup x=some .cell/\clos.lookup x=X.env.cells.lookup x) aI fvs)
  (hb:∀(us:List Value),us.length=ps.length->G4 (E1 "<lambda>" (X.env.qual++"<lambda>") params body scope clos ((X.mg "__name__").getD .none) (.ref c') ctv) ⟨us,[]⟩=pure (ps.zip us)) (len:∀vs H Q E,sp vs H Q E->vs.length=ps.length)
  (hbody:∀(A:A0) (outer:List Env) (s:AH) (H:Hp) (vs:List V) (Q:VK) (E:XK),aL k (A.deeper (Co (X.env.qual++"<lambda>") scope s.heap.objs.size f (.ref c') (cellsFrom (s.heap.objs.size+1) scope.names clos)))->sp vs H Q E->
   ∃t,PE (Qb X.prog X.w X.K X.mg base' (ps++aI) (X.env.qual++"<lambda>") scope f (.ref c') clos A outer s H) body t/\t (vs.map some++fvs.map some) H Q):FnAt X.prog X.w X.K X.mg base' (k+1) f ps.length sp:=by
 have ho:base'.get? f=some (lamO X params body scope clos c' ctv):=W.ext f _ P9 hf
 have uy:base'.CodeRec (.ref c') (X.env.qual++"<lambda>"):=W.ext c' _ hcD hc
 have sub':∀x c,clos.lookup x=some c->X.env.cells.lookup x=some c:=λx c e=>sub (x,c) (A9 e)
 have C:iE base' clos aI fvs:=by
  refine⟨λx y c h1 h2=>W.inj x y c (sub' x c h1) (sub' y c h2),λx c h=>W.cell x c (sub' x c h),Paired.og vals λx v ⟨i,h1,h2,h3,h4⟩=>?_⟩
  obtain⟨c,u,e1,e2,e3⟩:=W.val i x v h1 h2 h3
  exact⟨c,u,h4.trans e1,e2,e3⟩
 exact⟨_,_,ps,ho,rfl,rfl,hb,WI ho uy S C len hbody⟩
end L2
namespace L2
open PySem PyProof.Rows
namespace SR
section
variable{prog:Af}{w:World}{A:A0}{E:Value->AH->Prop}{s:AH}{a₀:Array Keyed}{κ:JQ}
theorem S9(L:sG prog w A s κ a₀){st:DS}(S:SP a₀ κ #[] st)(hn:a₀.size<64){Q:Unit->DS->Prop}(h:∀st',(arrOf st').Perm a₀->failedOf st'=none->Q () st'):wpS (model prog w) A E s sortRuns' Q st:=by
 have mr:0<a₀.size->minRun' a₀.size a₀.size 0=a₀.size:=λh0=>by
  have:∀n,0<n->n<64->minRun' n n 0=n:=λn h0 h1=>by
   obtain⟨k,rfl⟩:∃k,n=k+1:=⟨n-1,by omega⟩
   rw[minRun'_succ,if_pos h1]
  exact this _ h0 hn
 rw[sortRuns'_eq]
 refine BU (wpS_get ?_)
 dsimp only
 rw[S.size]
 refine BU (wpS_mono (E7 (I:=λx c st'=>∃lo,c=(none,lo)/\((lo=0/\SP a₀ κ #[] st')∨(lo=a₀.size/\SP a₀ κ #[(0,a₀.size,0)] st'))) (Q:=λc st'=>∃lo,c=(none,lo)/\((lo=0/\SP a₀ κ #[] st')∨(lo=a₀.size/\SP a₀ κ #[(0,a₀.size,0)] st'))) ?step (λ_ _ x=>x) ⟨0,rfl,.inl ⟨rfl,S⟩⟩) ?post)
 case step=>
  rintro x c st' _ _ ⟨lo,rfl,R⟩
  dsimp only
  by_cases c0:lo ≥ a₀.size
  ·rw[if_pos c0]
   exact CK ⟨lo,rfl,R⟩
  rw[if_neg c0]
  have S1:lo=0/\SP a₀ κ #[] st':=R.elim id λz=>absurd z.1 (by omega)
  obtain⟨rfl,S1⟩:=S1
  have mr:=mr (by omega)
  refine BU (SW L S1 (by omega) (by omega) λm st2 S2 h1 h2=>?_)
  dsimp only
  rw[mr]
  refine Qp (λ_=>BU (wpS_lift (Cw ⟨rfl,BU (YF L S2 (by omega) λst3 S3=>?_)⟩))) λ_=>?_
  rotate_left
  have S3:=S2
  rotate_left
  rw[if_neg (by decide)]
  all_goals
   refine BU (wpS_get ?_)
   rw[S3.pend]
   refine BU (wpS_modify (CK ⟨_,rfl,.inr ⟨by omega,S3.perm,S3.kind,S3.failed,?_⟩⟩))
   show(pendingOf _).push _=_
   rw[S3.pend]
   first
    | rw[show min (a₀.size-0) a₀.size=a₀.size by omega];rfl
    | rw[show m=a₀.size by omega];rfl
 case post=>
  rintro c st' ⟨lo,rfl,R⟩
  dsimp only
  have R':∃pd:Array (Nat×Nat×Nat),pd.size<=1/\SP a₀ κ pd st':=R.elim (λz=>⟨_,by decide,z.2⟩) λz=>⟨_,by simp,z.2⟩
  refine BU (wpS_mono (E7 (I:=λx c st'=>c=(none,())/\∃pd:Array (Nat×Nat×Nat),pd.size<=1/\SP a₀ κ pd st') (Q:=λc st'=>c=(none,())/\∃pd:Array (Nat×Nat×Nat),pd.size<=1/\SP a₀ κ pd st') ?acf (λ_ _ x=>x) ⟨rfl,R'⟩) ?acg)
  case acf=>
   rintro y c wW _ _ ⟨rfl,pd,h1,S5⟩
   refine BU (wpS_get ?_)
   skip
   refine Qp (λ_=>CK ⟨rfl,pd,h1,S5⟩) λhp=>?_
   rw[S5.pend] at hp
   exact absurd h1 hp
  case acg=>
   rintro c wW ⟨rfl,pd5,_,S5⟩
   exact CK (h _ S5.perm S5.failed)
end
end SR
open PySem.Spec
section
variable{P:Af}{w:World}{A:A0}{E:Value->AH->Prop}{s:AH}
theorem sI{a:Addr}{vs:List Value}{n:Nat}{Q:PySem.Fin->AH->Prop}(ho:s.heap.get? a=some (DX "list" vs.toArray n))(hm:∀v∈vs,∃m,cj s.heap v m)(h64:vs.length<64)(hu:A.units+2<cLine)
  (h:∀out:Array Value,out.toList.Perm vs->Q (.done (.ret .none)) {s with heap:=HQ s.heap a vs out}):
  wpAny (model P w) A (Builtin.«list.sort» ⟨[.ref a],[]⟩) Q E s:=by
 rw[list_sort_plain]
 have ha:a<s.heap.objs.size:=AU ho
 refine AA (listItems_at ho rfl ?_)
 refine AA (Io ho rfl ?_)
 obtain⟨e1,ho1⟩:∃e1,(s.heap.update a (Br λ_=> #[])).get? a=some (DX "list" #[] e1):=⟨_,get?_update_seq ho (λ_=> #[])⟩
 refine AA (seqEpoch_at ho1 rfl ?_)
 refine AA (IH ?_ (by rw[Cg];simp;omega))
 refine AA (Gw ?_)
 refine BE ?_
 have ho6:(((s.heap.update a (Br λ_=> #[])).push (DX "tuple" vs.toArray 0)).push (DX "list" #[] 0)).get? a=some (DX "list" #[] e1):=by
  rw[Heap.get?_push_ne _ _ _ (by rw[size_push',Heap.size_update];exact Ac (Bp ha)),Heap.get?_push_ne _ _ _ (by rw[Heap.size_update];exact Ac ha)]
  exact ho1
 show wpAny (model P w) A _ Q E {s with heap:=((s.heap.update a (Br λ_=> #[])).push (DX "tuple" vs.toArray 0)).push (DX "list" #[] 0)}
 dsimp only
 have hsz:vs.toArray.size=vs.length:=by simp
 have kt:xG s.heap (((s.heap.update a (Br λ_=> #[])).push (DX "tuple" vs.toArray 0)).push (DX "list" #[] 0)):=λb o e hc=>by
  have:=uF (Cd s.heap a (Br λ_=> #[])) (λo2 e2=>by rw[ho] at e2;cases e2;exact(by decide:DO "list"≠DO "tuple")) b o e hc
  exact AE _ (AE _ this)
 have hm':∀v∈vs,∃m,cj (((s.heap.update a (Br λ_=> #[])).push (DX "tuple" vs.toArray 0)).push (DX "list" #[] 0)) v m:=λv hv=>let ⟨m,x⟩:=hm v hv;⟨m,x.kp kt⟩
 have fin:∀st':DS,(arrOf st').Perm (pairsOf vs)->Q (.done (.ret .none)) {s with heap:=HQ s.heap a vs ((arrOf st').map (·.2))}:=λst' hp=>h _ (by
  have:=(GQ.mp hp).map (·.2)
  rw[Array.toList_map]
  refine this.trans (List.Perm.of_eq ?_)
  rw[pairsOf_toList]
  exact List.map_snd_zip (AK _))
 by_cases h2:vs.toArray.size<2
 ·rw[if_pos h2,if_pos h2]
  refine AA (AG ?_)
  rw[StateT.run_pure]
  refine AA (AG ?_)
  dsimp only
  refine AA (seqEpoch_at ho6 rfl ?_)
  refine AA (Io ho6 rfl ?_ (hsz2:=by rw[Array.size_map];show(pairsOf vs).size<=_;rw[pairsOf_size,Cg];omega))
  simp only[bne_self_eq_false,A',if_false]
  exact AG (fin (SortSt.mk' general' (vs.toArray.zip vs.toArray) #[] 7 none) (Jc _))
 ·rw[if_neg h2,if_neg h2]
  obtain⟨fs,kk,lf,hf⟩:=uH hm'
  refine AA (PySem.W.kat_kind (T:=.type "int") kk (by omega) (λv hv=>?_) (by decide) ?_)
  ·obtain⟨i,t,rfl⟩:=hf v hv
   exact PySem.W.Looks.of_pure rfl
  rw[show(DO "int" != DO "tuple")=true by decide]
  refine AA (CC (SR.S9 (a₀:=pairsOf vs) (κ:=tuples' true) (st:=SortSt.mk' (tuples' true) (vs.toArray.zip vs.toArray) #[] 7 none) (Q:=λ_ st'=>(arrOf st').Perm (pairsOf vs)/\failedOf st'=none)
   (λp hp q hq=>?_) ⟨Jc _,rfl,rfl,rfl⟩ (by rw[pairsOf_size];exact h64) λst' a1 a2=>⟨a1,a2⟩) ?_ λ_ _ e=>e)
  ·rw[pairsOf_toList] at hp hq
   obtain⟨m,x⟩:=hm' p.1 (Cv hp).1
   obtain⟨m',y⟩:=hm' q.1 (Cv hq).1
   exact cj.lt hu x y
  rintro⟨⟨⟩,st'⟩ s' ⟨rfl,hp,hf⟩
  dsimp only
  refine AA (seqEpoch_at ho6 rfl ?_)
  refine AA (Io ho6 rfl ?_ (hsz2:=by refine A1 (JN ((Array.size_map ..).trans (hp.size_eq.trans (pairsOf_size _)))) ?_;rw[Cg];omega))
  rw[hf]
  simp only[bne_self_eq_false,A',if_false]
  exact AG (fin st' hp)
end
section
variable{X:Cx}{pins:List (Addr×Obj)}{σ:St}{H:Hp}{s:AH}
def WJ(X:Cx):List V->Hp->VK->Prop:=λxs H Q=>∃(a:Addr) (as:List Addr) (ms:List Mark),xs=[.ref a]/\H a=some (zc X.w a as)/\BV (λa m=>gw H (.ref a) m) as ms/\as.length<64/\
 ∀(p:Addr) (as':List Addr),H p=none->as'.Perm as->Q (.ref p) (upd H p (.lst (as'.map V.ref)))
theorem Ly(hc:X.calm=true)(hA:X.A.units+16<cLine):cK X (.builtin "sorted") (WJ X):=by
 intro pins s σ H xs us Q I r h
 obtain⟨a,as,ms,rfl,ha,hw,few,q⟩:=h
 obtain⟨u,rfl,ru⟩:=vals1 r
 cases ru
 obtain⟨⟨es,ep,t,S,ev⟩,_,_⟩:=(show bA X.prog X.w H s.heap a (zc X.w a as) from I.hok a _ ha)
 have in2:X.A.in1.units<=X.A.units+1:=by simp only[Dc];omega
 refine EE kind_sorted plain_sorted entry_sorted (args_sorted1 _) ?_
 unfold Builtin.«sorted»
 (refine AA (m:=checkCount "sorted" 1 1 _) (AG ?_))
 refine AA (N7 (A:=X.A.in1) S (I.ok.hd hc) λh' tk d' acc k pa=>?_)
 rw[ev] at pa
 obtain⟨as1,rfl,p1⟩:=Ju pa
 have hl:(as1.map A5).length<64:=by rw[AB,p1.length_eq];exact few
 have hz:(as1.map A5).length<=sizeLine:=by rw[Cg];omega
 refine AA (Gw ?_ hz)
 have hoL:(h'.push (DX "list" (as1.map A5).toArray 0)).get? h'.objs.size=some (DX "list" (as1.map A5).toArray 0):=AO _ rfl
 have hm:∀v∈as1.map A5,∃m,cj (h'.push (DX "list" (as1.map A5).toArray 0)) v m:=λv hv=>by
  obtain⟨b,hb,rfl⟩:=As.mp hv
  obtain⟨i,hi⟩:=Ak (p1.mem_iff.mp hb)
  obtain⟨m,_,x⟩:=fZ hw hi
  exact⟨m,(x.v I rfl).kp λb o e _=>AE _ (k b o e)⟩
 refine AA (BE (BK IB ⟨_,hoL,rfl⟩ Hg (sI hoL hm hl ?_ λout po=>⟨_,rfl,?_⟩) (IC _)))
 ·simp only[Dc]
  omega
 obtain⟨as2,e2,p2⟩:=Ju po
 have I1:Inv X pins σ H {s with heap:=h',toks:=tk,drawn:=d'}:=I.step (g':=s.gens) (d':=d') (ch:=[]) (λb z=>by cases z) (λb o _ _ _ e _=>k b o e) (λb o _ _ _ e _=>⟨o.slots,k b o e⟩) (λ_ _ _ _ n=>n)
  (λb o _ e=>⟨o,k b o e⟩) (λ_ _ e=>e) (λ_ _ _ e=>e) (λb ps e=>⟨#[],by rw[e];simp⟩) (λm ⟨ob,e1,e2,hb,r⟩=>⟨ob,e1,e2,k _ ob hb,r⟩) (λb u e=>(I.hok b u e).stay (λc v _ z=>k c v z) (λ_ z=>z) λ_ _ z=>z) I.bare
 obtain⟨e,he⟩:=Ij (out:=out) hoL
 have kp:∀b u,h'.get? b=some u->(HQ (h'.push (DX "list" (as1.map A5).toArray 0)) h'.objs.size (as1.map A5) out).get? b=some u:=λb u eb=>by
  have lt:=AU eb
  rw[ID (Ac lt) (by rw[Ax];exact Bp lt)]
  exact AE _ eb
 have I2:=I1.laid (a:=h'.objs.size) (o:=.lst (as2.map V.ref)) (t':=tk) kp (AK _) ⟨by rw[AB,p2.length_eq];rw[AB] at hz;exact hz,out.toList,e,by rw[e2];exact xN as2,he⟩
 exact AG ⟨_,rfl,⟨.ref h'.objs.size,_,I2,rfl,q _ as2 (I1.hok.fresh (AK _)) (p2.trans p1)⟩⟩
end
end L2
namespace My
open PySem L2
def top(i:Nat):Stmt:=PySem.Challenge.pw_figurejudge_k80_whole_rows_from_above.main.body.getD i (.Pass ⟨0,0,0,0⟩)
abbrev fC:Stmt:=top 1
abbrev dq:Stmt:=top 2
abbrev fi:Stmt:=top 7
abbrev gL:Stmt:=top 8
abbrev fD:Stmt:=top 9
abbrev fE:Stmt:=top 10
abbrev iS:Stmt:=top 11
abbrev bJ:Stmt:=top 14
abbrev fF:Stmt:=top 15
abbrev f_:Stmt:=top 17
abbrev cY:Stmt:=top 18
abbrev dU:Stmt:=top 19
abbrev dr:Stmt:=top 23
abbrev dW:Stmt:=top 24
abbrev cP:Stmt:=top 25
abbrev cF:Stmt:=top 26
abbrev dX:Stmt:=top 27
abbrev cQ:Stmt:=top 28
abbrev fG:Stmt:=top 29
abbrev fQ:Stmt:=top 31
abbrev iH:Stmt:=top 32
abbrev du:Stmt:=top 33
abbrev fS:Stmt:=top 34
abbrev fU:Stmt:=top 35
abbrev cq:Stmt:=top 36
abbrev cu:Stmt:=top 37
abbrev fH:Stmt:=top 38
abbrev f':Stmt:=top 39
abbrev bw:Stmt:=top 40
abbrev bX:Stmt:=top 41
abbrev eB:Stmt:=top 42
abbrev cH:Stmt:=top 43
abbrev iT:Stmt:=top 45
abbrev iI:Stmt:=top 46
abbrev ju:Stmt:=top 47
abbrev jv:Stmt:=top 48
abbrev gM:Stmt:=top 49
abbrev fM:Stmt:=top 50
abbrev jw:Stmt:=top 51
abbrev gb:Stmt:=top 52
abbrev dM:Stmt:=top 53
abbrev i8:Stmt:=top 54
set_option genInjectivity false in
set_option genSizeOf false in
structure bF where
 i9:Addr
 j4:Ay
 h_:Addr
 jx:Ay
 jK:Addr
 lI:Ay
 kJ:Addr
 mV:Ay
 ja:Addr
 j5:Ay
 jb:Addr
 j6:Ay
 mH:Addr
 oO:Ay
 jc:Addr
 ia:Ay
 Jx:Addr
 jd:Addr
 j7:Ay
 jL:Addr
 lJ:Ay
 jM:Addr
 lK:Ay
 rD:Addr
 bz:Addr
 oP:Addr
 qq:Ay
 Jy:Addr
 cb:Addr
 eG:Addr
 fI:Ay
 gx:Addr
 ib:Ay
 dY:Addr
 fu:Ay
 eQ:Addr
 fR:Ay
 gy:Addr
 ic:Ay
 dZ:Addr
 fz:Ay
 gA:Addr
 ie:Ay
 kK:Addr
 mW:Ay
 oQ:Addr
 qr:Ay
 ig:Addr
 jy:Ay
 j8:Addr
 nQ:Ay
 j9:Addr
 nR:Ay
 ij:Addr
 jz:Ay
 pH:Addr
 dB:Addr
 il:Addr
 jA:Ay
 pI:Addr
 dC:Addr
 gB:Addr
 ip:Ay
 g9:Addr
 je:Ay
 cv:Addr
 jB:Ay
 dD:Addr
 bH:Addr
 gN:Addr
 jf:Ay
 nS:Addr
 cR:Addr
 iq:Addr
 jC:Ay
 jU:Addr
 jg:Ay
 Qu:Addr
 mI:Addr
 oR:Ay
 oS:Addr
 qt:Ay
 oT:Addr
 qu:Ay
 oU:Addr
 qv:Ay
 kN:Addr
 mX:Ay
 mJ:Addr
 oV:Ay
 oW:Addr
 qw:Ay
 jN:Addr
 lL:Ay
 fJ:Addr
 gi:Ay
 N9:Addr
 Qv:Ay
structure Txt (K:AD)(mg:Str->Option Value)(a:bF):Prop where
 Jz:cD K "figures_of" "figures_of" fC a.i9 a.j4
 lM:mg "figures_of"=some (.ref a.i9)
 lN:AL K (.ref a.i9)=true
 lO:Binds K a.j4 ["base","number"] []
 yo:cD K "all_letters" "all_letters" dq a.h_ a.jx
 pJ:mg "all_letters"=some (.ref a.h_)
 pK:AL K (.ref a.h_)=true
 pL:Binds K a.jx ["base","many"] []
 Lz:cD K "are_rooms" "are_rooms" fi a.jK a.lI
 LA:mg "are_rooms"=some (.ref a.jK)
 LB:AL K (.ref a.jK)=true
 LC:Binds K a.lI ["leads","many"] []
 N':cD K "is_right" "is_right" gL a.kJ a.mV
 Oa:mg "is_right"=some (.ref a.kJ)
 Ob:AL K (.ref a.kJ)=true
 Oc:Binds K a.mV ["base","row"] []
 J_:cD K "look_world" "look_world" fD a.ja a.j5
 J0:mg "look_world"=some (.ref a.ja)
 J4:AL K (.ref a.ja)=true
 J5:Binds K a.j5 ["world"] []
 J6:cD K "room_after" "room_after" fE a.jb a.j6
 lP:mg "room_after"=some (.ref a.jb)
 lQ:AL K (.ref a.jb)=true
 lR:Binds K a.j6 ["moves","room","figures"] []
 Qw:cD K "sign_at" "sign_at" iS a.mH a.oO
 Qx:mg "sign_at"=some (.ref a.mH)
 Qy:AL K (.ref a.mH)=true
 Qz:Binds K a.oO ["world","name","number"] []
 J7:js K "grown_from" "grown_from" bJ a.jc a.ia (.ref a.Jx)
 lT:mg "grown_from"=some (.ref a.jc)
 lU:AL K (.ref a.jc)=true
 lV:Binds K a.ia ["first","many","onward","is_yes","most"] []
 YU:∃t,Binds K a.ia ["first","many","onward","is_yes","most"] [.int 2000 t]
 J8:cD K "machine_of" "machine_of" fF a.jd a.j7
 J9:mg "machine_of"=some (.ref a.jd)
 J':AL K (.ref a.jd)=true
 Ka:Binds K a.j7 ["base","names","growth","most"] []
 LF:cD K "sign_down" "sign_down" f_ a.jL a.lJ
 LG:mg "sign_down"=some (.ref a.jL)
 LH:AL K (.ref a.jL)=true
 LI:Binds K a.lJ ["base","row","number"] []
 LJ:js K "rooms_met" "rooms_met" cY a.jM a.lK (.ref a.rD)
 rE:CV K a.rD a.bz=true
 LK:mg "rooms_met"=some (.ref a.jM)
 LL:AL K (.ref a.jM)=true
 LN:Binds K a.lK ["base","row"] []
 Ta:js K "row_of" "row_of" dU a.oP a.qq (.ref a.Jy)
 Kb:CV K a.Jy a.cb=true
 sJ:mg "row_of"=some (.ref a.oP)
 sO:AL K (.ref a.oP)=true
 sQ:Binds K a.qq ["base","row"] []
 yp:cD K "inner_parts" "inner_parts" dr a.eG a.fI
 pM:mg "inner_parts"=some (.ref a.eG)
 pN:AL K (.ref a.eG)=true
 pO:Binds K a.fI ["saying"] []
 Kc:cD K "term_names" "term_names" dW a.gx a.ib
 Kd:mg "term_names"=some (.ref a.gx)
 Ke:AL K (.ref a.gx)=true
 Kf:Binds K a.ib ["saying"] []
 sU:cD K "parts_in_order" "parts_in_order" cP a.dY a.fu
 sW:mg "parts_in_order"=some (.ref a.dY)
 sX:AL K (.ref a.dY)=true
 tf:Binds K a.fu ["saying"] []
 uI:cD K "told_of_parts" "told_of_parts" cF a.eQ a.fR
 uJ:mg "told_of_parts"=some (.ref a.eQ)
 uK:AL K (.ref a.eQ)=true
 uL:Binds K a.fR ["told","place","saying"] []
 Kg:cD K "names_over" "names_over" dX a.gy a.ic
 Kh:mg "names_over"=some (.ref a.gy)
 Ki:AL K (.ref a.gy)=true
 Kj:Binds K a.ic ["saying","inner"] []
 tj:cD K "names_by_place" "names_by_place" cQ a.dZ a.fz
 tu:mg "names_by_place"=some (.ref a.dZ)
 tD:AL K (.ref a.dZ)=true
 tE:Binds K a.fz ["saying"] []
 Kk:cD K "free_names" "free_names" fG a.gA a.ie
 Kl:mg "free_names"=some (.ref a.gA)
 Km:AL K (.ref a.gA)=true
 Kn:Binds K a.ie ["saying"] []
 Od:cD K "times_of" "times_of" fQ a.kK a.mW
 Oe:mg "times_of"=some (.ref a.kK)
 Og:AL K (.ref a.kK)=true
 Oh:Binds K a.mW ["term","names"] []
 Tb:cD K "sum_of" "sum_of" iH a.oQ a.qr
 Td:mg "sum_of"=some (.ref a.oQ)
 Te:AL K (.ref a.oQ)=true
 Tg:Binds K a.qr ["letter","times"] []
 yq:cD K "letter_sums" "letter_sums" du a.ig a.jy
 yr:mg "letter_sums"=some (.ref a.ig)
 yu:AL K (.ref a.ig)=true
 yw:Binds K a.jy ["base","times"] []
 W6:cD K "differences" "differences" fS a.j8 a.nQ
 W7:mg "differences"=some (.ref a.j8)
 W8:AL K (.ref a.j8)=true
 W9:Binds K a.nQ ["saying","names"] []
 W':cD K "same_onward" "same_onward" fU a.j9 a.nR
 Xa:mg "same_onward"=some (.ref a.j9)
 Xb:AL K (.ref a.j9)=true
 Xc:Binds K a.nR ["base","room","total"] []
 yx:js K "same_growth" "same_growth" cq a.ij a.jz (.ref a.pH)
 Xd:CV K a.pH a.dB=true
 yy:mg "same_growth"=some (.ref a.ij)
 yz:AL K (.ref a.ij)=true
 yA:Binds K a.jz ["base","names","saying"] []
 yB:js K "less_growth" "less_growth" cu a.il a.jA (.ref a.pI)
 Xe:CV K a.pI a.dC=true
 yC:mg "less_growth"=some (.ref a.il)
 yD:AL K (.ref a.il)=true
 yE:Binds K a.jA ["base","names","saying"] []
 Ko:cD K "row_onward" "row_onward" fH a.gB a.ip
 Kp:mg "row_onward"=some (.ref a.gB)
 Kq:AL K (.ref a.gB)=true
 Kr:Binds K a.ip ["base","row","pair","total"] []
 LO:cD K "sign_from" "sign_from" f' a.g9 a.je
 LP:mg "sign_from"=some (.ref a.g9)
 LQ:AL K (.ref a.g9)=true
 LS:Binds K a.je ["base","row","pair"] []
 yF:js K "sign_growth" "sign_growth" bw a.cv a.jB (.ref a.dD)
 pP:CV K a.dD a.bH=true
 yG:mg "sign_growth"=some (.ref a.cv)
 yH:AL K (.ref a.cv)=true
 yI:Binds K a.jB ["world","names","saying"] []
 vL:js K "alike_growth" "alike_growth" bX a.gN a.jf (.ref a.nS)
 WK:CV K a.nS a.cR=true
 vM:mg "alike_growth"=some (.ref a.gN)
 vN:AL K (.ref a.gN)=true
 vO:Binds K a.jf ["world","names","saying"] []
 yJ:cD K "atom_growth" "atom_growth" eB a.iq a.jC
 yK:mg "atom_growth"=some (.ref a.iq)
 yL:AL K (.ref a.iq)=true
 yM:Binds K a.jC ["world","names","saying"] []
 QA:js K "atom_of" "atom_of" cH a.jU a.jg (.ref a.Qu)
 QB:mg "atom_of"=some (.ref a.jU)
 QC:AL K (.ref a.jU)=true
 adh:Binds K a.jg ["world","saying","most"] []
 QD:∃t,Binds K a.jg ["world","saying","most"] [.int 2000 t]
 QE:cD K "_law_mixed" "_law_mixed" iT a.mI a.oR
 mK:mg "_law_mixed"=some (.ref a.mI)
 mL:AL K (.ref a.mI)=true
 mM:Binds K a.oR ["_law_cell","_law_k"] []
 Ti:cD K "_law_deck" "_law_deck" iI a.oS a.qt
 Tj:mg "_law_deck"=some (.ref a.oS)
 Tn:AL K (.ref a.oS)=true
 To:Binds K a.qt ["_law_script"] []
 Tp:cD K "_law_next" "_law_next" ju a.oT a.qu
 cS:mg "_law_next"=some (.ref a.oT)
 cU:AL K (.ref a.oT)=true
 cV:Binds K a.qu ["_law_deck_here","_law_many"] []
 Tq:cD K "_law_base" "_law_base" jv a.oU a.qv
 Tr:mg "_law_base"=some (.ref a.oU)
 Ts:AL K (.ref a.oU)=true
 Tt:Binds K a.qv ["_law_deck_here"] []
 Oi:cD K "_law_number" "_law_number" gM a.kN a.mX
 uM:mg "_law_number"=some (.ref a.kN)
 uN:AL K (.ref a.kN)=true
 uO:Binds K a.mX ["_law_deck_here","_law_base_here"] []
 QF:cD K "_law_least" "_law_least" fM a.mJ a.oV
 QG:mg "_law_least"=some (.ref a.mJ)
 QH:AL K (.ref a.mJ)=true
 QI:Binds K a.oV ["_law_marks","_law_moves"] []
 Tv:cD K "_law_sign" "_law_sign" jw a.oW a.qw
 tF:mg "_law_sign"=some (.ref a.oW)
 tG:AL K (.ref a.oW)=true
 tH:Binds K a.qw ["_law_row","_law_some"] []
 LU:cD K "_law_figures" "_law_figures" gb a.jN a.lL
 mY:mg "_law_figures"=some (.ref a.jN)
 mZ:AL K (.ref a.jN)=true
 m_:Binds K a.lL ["_law_base_here","_law_number_here"] []
 vP:cD K "_law_sums_right" "_law_sums_right" dM a.fJ a.gi
 vQ:mg "_law_sums_right"=some (.ref a.fJ)
 vR:AL K (.ref a.fJ)=true
 vS:Binds K a.gi ["_law_deck_here","_law_world"] []
 ach:cD K "law" "law" i8 a.N9 a.Qv
 am_:mg "law"=some (.ref a.N9)
 YV:mg "ValueError"=none
 cW:mg "range"=none
 aci:mg "all"=none
 jO:mg "enumerate"=none
 tI:mg "sorted"=none
 dh:mg "tuple"=none
 cA:mg "len"=none
 Ks:mg "list"=none
 YW:mg "dict"=none
 UT:mg "sum"=none
 UU:mg "int"=none
 uP:mg "reversed"=none
 QJ:mg "bool"=none
 UW:mg "set"=none
 acj:mg "zip"=none
 ack:mg "abs"=none
 lW:mg "isinstance"=none
 tne01:a.bz≠a.cb
 tne02:a.bz≠a.dB
 tne03:a.bz≠a.dC
 tne04:a.bz≠a.bH
 tne05:a.bz≠a.cR
 tne12:a.cb≠a.dB
 tne13:a.cb≠a.dC
 tne14:a.cb≠a.bH
 tne15:a.cb≠a.cR
 tne23:a.dB≠a.dC
 tne24:a.dB≠a.bH
 tne25:a.dB≠a.cR
 tne34:a.dC≠a.bH
 tne35:a.dC≠a.cR
 tne45:a.bH≠a.cR
 Kt:∃t,mg "FAR_BEYOND"=some (.int 1000000 t)
def vT(c k:Int):Int:=(c % 2147483629*48271+7919*k+13) % 2147483629
def Tw(n k:Int):Int:=(n*(n / 5+k)+16807*k) % 2147483587
def afo(n:Int):Int:=(n*69621+n / 127) % 2147483647
def m3(c k:Int):Int:=afo (Tw (vT c k) k)
theorem WL(c k:Int):0<=vT c k/\vT c k<2147483629:=⟨Cy _ (by decide),DF _ (by decide)⟩
theorem WM(c k:Int):0<=Tw c k/\Tw c k<2147483587:=⟨Cy _ (by decide),DF _ (by decide)⟩
theorem vU(c k:Int):0<=m3 c k/\m3 c k<2147483647:=⟨Cy _ (by decide),DF _ (by decide)⟩
def WN:Sp:=λvs H Q _=>∃(c k:Int),vs=[.int c,.int k]/\Q (.int (m3 c k)) H
section
variable{P:Af}{w:World}{K:AD}{mg:Str->Option Value}{base:Heap}
theorem oX:aN ["_law_cell","_law_k","_law_number_here"] ["_law_cell","_law_k"] (ah iT):=⟨rfl,rfl,rfl,by decide+kernel,rfl,by decide+kernel,by decide+kernel⟩
theorem uQ{a:bF}(T:Txt K mg a):aR P w K mg base bh 1 a.mI a.oR ["_law_cell","_law_k"] WN:=by
 refine T.QE.ok oX (λvs H Q E h=>?_) (λcdv A outer s H vs Q E hr h=>?_)
 ·obtain⟨c,k,rfl,_⟩:=h
  rfl
 ·obtain⟨c,k,rfl,q⟩:=h
  refine⟨_,ai (az (i:=2) oX.nd rfl (Ai rfl) (aS pZ (aS eK (aS eK (aS iZ (aS pZ (pv 0) aj) aj) (aS iZ aj (pv 1))) aj) aj))
   (ai (az (i:=2) oX.nd rfl (Ai rfl) (aS pZ (aS eK (aS iZ (pv 2) (aS eK (aS L8 (pv 2) aj) (pv 1))) (aS iZ aj (pv 1))) aj))
   (aq (aM (aS pZ (aS eK (aS iZ (pv 2) aj) (aS L8 (pv 2) aj)) aj)))),?_⟩
  have h1:=WL c k
  have h2:=WM (vT c k) k
  refine⟨_,rfl,_,_,rfl,rfl,(by show(0:Int)<_;decide),_,_,rfl,rfl,.inr (by decide),_,rfl,_,_,rfl,rfl,.inl (by decide),_,_,rfl,rfl,_,_,rfl,rfl,_,_,rfl,rfl,(by show(0:Int)<_;decide),?_⟩
  refine⟨_,rfl,_,rfl,_,_,rfl,rfl,⟨by decide,by decide⟩,_,rfl,_,_,rfl,rfl,_,_,rfl,rfl,.inl (by show-(2 ^ 64)<vT c k/\vT c k<2 ^ 64;omega),_,rfl,_,_,rfl,rfl,.inl (by decide),_,_,rfl,rfl,_,_,rfl,rfl,(by show(0:Int)<_;decide),?_⟩
  exact⟨_,rfl,_,_,rfl,rfl,.inr (by decide),_,rfl,_,_,rfl,rfl,⟨by decide,by decide⟩,_,_,rfl,rfl,_,_,rfl,rfl,(by show(0:Int)<_;decide),q⟩
def NN(ms:List Int):Prop:=∀m∈ms,0<=m
theorem NN.app{xs ys:List Int}(a:NN xs)(b:NN ys):NN (xs++ys):=λm h=>(A6.mp h).elim (a m) (b m)
theorem NN.one{x:Int}(h:0<=x):NN [x]:=λm hm=>by
 have:m=x:=by simpa using hm
 subst this;exact h
def YX(K:AD):Sp:=λvs H Q _=>∃(a:Addr) (ns:List Int),vs=[.ref a]/\bG K H a (ns.map V.int)/\ns.length<=63/\
 ∀(D:Addr) (H':Hp),H D=none->Same H H'->bS H' D->Q (.ref D) H'
theorem UX(ns:List Int)(h:ns.length<=63):gc (ns.map V.int) none (some 63)=ns.map V.int:=by
 unfold gc
 rw[show HT.bo (ns.map V.int).length 0 none=0 from rfl,show(some (63:Int))=some ((63:Nat):Int) from rfl,HT.vj]
 rw[IM,AB]
 exact BD (by rw[AB];omega)
theorem WO(ms:List Int)(n:Nat):gc (ms.map V.int) none (some (n:Int))=(ms.take n).map V.int:=by
 unfold gc
 rw[show HT.bo (ms.map V.int).length 0 none=0 from rfl,HT.vj]
 rw[IM,AB,Nat.sub_zero,<-Im]
 congr 1
 by_cases h:n<=ms.length
 ·rw[Hm h]
 ·rw[Nat.min_eq_right (by omega),BD (AK _),BD (by omega)]
theorem eU:aN ["_law_script","_law_deck_here","_law_k","_law_cell","_law_number_here","_law_turn"] ["_law_script"] (ah iI):=⟨rfl,rfl,rfl,by decide+kernel,rfl,by decide+kernel,by decide+kernel⟩
theorem QK{a:bF}(T:Txt K mg a):aR P w K mg base bh 2 a.oS a.qt ["_law_script"] (YX K):=by
 have jV:=uQ (P:=P) (w:=w) (base:=base) T
 refine T.Ti.ok eU (λvs H Q E h=>?_) (λcdv A outer s H vs Q E hr h=>?_)
 ·obtain⟨a,ns,rfl,_⟩:=h
  rfl
 ·obtain⟨sa,ns,rfl,hS,hns,k⟩:=h
  have jh:aL 1 _:=hr
  refine⟨_,(ai (az (i:=1) eU.nd rfl (Ai rfl) (eO ag))
  (ai (cp A7 rfl (Ml rfl T.jO (ae (jm (oB K) (pv 0) fX (iL aj)) ag)) (kX rfl (bV (aH (i:=2) eU.nd rfl (DD rfl)) (bV (aH (i:=3) eU.nd rfl (Ai rfl)) iK)))
   (ai (az (i:=4) eU.nd rfl (DD rfl) (aS jo (aQ R8 (by rfl) T.ack X1 (ae (pv 3) ag)) (aS Pa aj aj)))
   (ai (bW (bj Nr (pv 4) (aS Pa aj aj) (bt _))
    (ai (cM (fq A3 DT DU p7 (pv 1) (ae (cz (aP.mk' (esc:=ah iI) (N:=["_law_script","_law_deck_here","_law_k","_law_cell","_law_number_here","_law_turn"]) (own:=["_law_j"]) (aI:=["_law_number_here","_law_k"]) (bN:=[4,2]) rfl rfl (by decide+kernel)) rfl (cg rfl T.cW (ae aj ag)) (λ_ _ _ _=>(aH (i:=0) (show Bs (["_law_j","_law_number_here","_law_k"]:List Str) by decide+kernel) rfl (Ai rfl))) (λ_ _ _ _=>bK) (λ_ _ _ _=>(aB jV jh rfl T.mK T.mL T.mM .nil aJ (ae (pv 1) (ae (aS eK (aS iZ aj (pv 2)) (pv 0)) ag))))) ag)))
    (aq (az (i:=4) eU.nd rfl (DD rfl) aj)))
    bu)
   (aq (cp A7 rfl (cg rfl T.cW (ae aj ag)) (aH (i:=5) eU.nd rfl (Ai rfl))
    (aq (bW (bj t9 (pv 4) aj (bt _))
     (ai (cM (fq A3 Ba Bb cZ (pv 1) (ae (aS jo (pv 4) aj) ag)))
     (aq (az (i:=4) eU.nd rfl (DD rfl) (aS oA (pv 4) aj))))
     bu)))))))
  (ai (cp A7 rfl (O7 rfl T.cW (ae (aQ (aZ K) (by rfl) T.cA bR (ae (pv 1) ag)) (ae aj ag))) (aH (i:=2) eU.nd rfl (DD rfl))
   (aq (cM (fq A3 Ba Bb cZ (pv 1) (ae (aB jV jh rfl T.mK T.mL T.mM .nil aJ (ae (aQ (xl K) (by rfl) T.UT Py (ae (jm (oB K) (pv 0) fX (iL aj)) ag)) (ae (pv 2) ag))) ag)))))
  (aq (aM (jm (oB K) (pv 1) fX (iL aj))))))),?_⟩
  refine⟨by decide,λd hd=>?_⟩
  have s0:Same H (upd H d (.lst [])):=Same.new hd
  refine⟨_,rfl,_,rfl,sa,ns.map V.int,rfl,s0.seq hS,λsl hsl=>⟨sl,rfl,⟨_,.of af⟩,?_⟩⟩
  rw[UX ns hns]
  have YY:d≠sl:=aC af hsl
  have am3:H sl=none:=s0.free hsl
  have s1:Same H (upd (upd H d (.lst [])) sl (.lst (ns.map V.int))):=s0.trans (Same.new hsl)
  refine zG (xs:=ns.map V.int) (λi σ H'=>∃(ms:List Int) (v2 v3 v4 v5:Option V),σ=[some (.ref sa),some (.ref d),v2,v3,v4,v5]/\Same H H'/\H' sl=some (.lst (ns.map V.int))/\H' d=some (.lst (ms.map V.int))/\ms.length<=67*i/\NN ms)
   ⟨[],none,none,none,none,rfl,s1,af,by rw[aD YY];exact af,by simp,λm h=>(nomatch h)⟩ (λi σ H' _ ⟨_,_,_,_,_,_,_,h,_⟩=>.of h) ?_ ?_
  ·rintro i x pp σ H1 hx ⟨ms,v2,v3,v4,v5,rfl,s1,es1,QL,hl,nn⟩ hpp
   have hi:i<ns.length:=by have:=(AF.mp hx).1;rwa [AB] at this
   obtain⟨c,rfl⟩:∃c:Int,x=V.int c:=by
    rw[AJ] at hx
    cases e:ns[i]? with
    | none=>rw[e] at hx;cases hx
    | some z=>rw[e] at hx;exact⟨z,(AN hx).symm⟩
   have sp:=Same.new (o:=.tup [.int i,.int c]) hpp
   have ndp:d≠pp:=aC QL hpp
   have nsp:sl≠pp:=aC es1 hpp
   have hP:∀q:Int,Xw 2147483647 60:=λ_=>⟨by decide,by decide,by decide⟩
   have big:(0:Int)<2147483647 ^ (60:Int).toNat:=by decide+kernel
   refine⟨pp,_,rfl,.of af,rfl,_,_,rfl,_,_,rfl,rfl,?_⟩
   refine⟨_,rfl,c,rfl,_,_,rfl,rfl,hP 0,_,_,rfl,rfl,cpos big,?_⟩
   obtain⟨num,hnum⟩:∃num:Int,num=(if c<0 then-c else c) % 2147483647 ^ (60:Int).toNat:=⟨_,rfl⟩
   have tJ:0<=num:=by rw[hnum];exact Cy _ (Int.ne_of_gt big)
   dsimp only[aO]
   refine zM (t:=Nj _ _ _) (u:=Xt _ _ _) (λσ H2=>∃(num:Int) (ms:List Int) (v5:Option V),σ=[some (.ref sa),some (.ref d),some (.int i),some (.int c),some (.int num),v5]/\0<=num/\Same H H2/\H2 sl=some (.lst (ns.map V.int))/\H2 d=some (.lst (ms.map V.int))/\ms.length<=67*i+7/\NN ms) ?_ (λrest=>?_)
   ·
    rintro σ H2 ⟨num,ms,v5,rfl,tJ,s2,es2,pQ,hl2,QM⟩
    refine⟨(60:Int),rfl,by decide,by decide,jS (λj σ H3=>∃(num:Int) (ms:List Int) (v5:Option V),σ=[some (.ref sa),some (.ref d),some (.int i),some (.int c),some (.int num),v5]/\0<=num/\Same H H3/\H3 sl=some (.lst (ns.map V.int))/\H3 d=some (.lst (ms.map V.int))/\ms.length<=67*i+7+j/\NN ms)
     ⟨num,ms,v5,rfl,tJ,s2,es2,pQ,hl2,QM⟩ ?_ ?_⟩
    ·rintro j σ H3 hj ⟨num,ms,v5,rfl,tJ,s3,UY,QN,hl3,UZ⟩
     have hj':j<60:=hj
     refine⟨_,rfl,_,_,rfl,rfl,_,rfl,?_⟩
     refine iB (λhpos=>?_) (λ_=>?_)
     ·
      refine⟨_,rfl,.inl ⟨rfl,_,.of QN⟩,_,rfl,_,_,rfl,rfl,cpos (by decide),d,_,_,rfl,rfl,QN,?_,?_⟩
      ·rw[AB];exact AZ (show ms.length<10000 by omega) (by decide)
      refine⟨_,rfl,_,_,rfl,rfl,⟨by decide,by decide⟩,num / 2147483647,ms++[num % 2147483647],_,rfl,Int.ediv_nonneg tJ (by decide),s3.kbn hd KB.write,?_,?_,?_,UZ.app (NN.one (Cy _ (by decide)))⟩
      ·rw[aD YY.symm];exact UY
      ·rw[af,AW];rfl
      ·rw[AR];show ms.length+1<=_;omega
     ·exact⟨num,ms,_,rfl,tJ,s3,UY,QN,by omega,UZ⟩
    ·rintro σ H3 ⟨num,ms,v5,rfl,tJ,s3,UY,QN,hl3,UZ⟩
     have am4:ms.length<=67*i+7+60:=hl3
     exact⟨ms,_,_,_,_,rfl,s3,UY,QN,by omega,UZ⟩
   ·refine⟨_,rfl,_,_,rfl,rfl,⟨by decide,by decide,by decide⟩,_,_,rfl,rfl,_,rfl,?_⟩
    have pQ:(upd H1 pp (.tup [.int i,.int c])) d=some (.lst (ms.map V.int)):=by rw[aD ndp];exact QL
    have es2:(upd H1 pp (.tup [.int i,.int c])) sl=some (.lst (ns.map V.int)):=by rw[aD nsp];exact es1
    refine iB (λ_=>?_) (λ_=>?_)
    ·
     refine⟨_,rfl,.inl ⟨rfl,_,.of pQ⟩,7,rfl,by decide,by decide,λC hC=>?_⟩
     have ndC:d≠C:=aC pQ hC
     have nsC:sl≠C:=aC es2 hC
     have s2:Same H (upd H1 pp (.tup [.int i,.int c])):=s1.trans sp
     refine gH (λj σ H'=>∃(rs:List Int) (v:Option V),σ=[v,some (.int num),some (.int i)]/\Same (upd H1 pp (.tup [.int i,.int c])) H'/\H' C=some (.lst (rs.map V.int))/\rs.length=j/\NN rs)
      ⟨[],none,by rw[hnum];rfl,Same.new hC,af,rfl,λm h=>(nomatch h)⟩ ?_ ?_
     ·rintro j σ H3 hj ⟨rs,v,rfl,s3,rF,lr,nr⟩
      have hj':j<7:=hj
      refine⟨_,rfl,_,rfl,_,_,rfl,rfl,.inl (by decide),_,rfl,_,_,rfl,rfl,num,_,rfl,rs.map V.int,rF,?_,rs++[m3 num (7*(i:Int)+(0+(j:Int)))],_,rfl,s3.kbn hC KB.write,?_,?_,nr.app (NN.one (vU _ _).1)⟩
      ·rw[AB];exact AZ (show rs.length<100 by omega) (by decide)
      ·rw[af,AW];rfl
      ·rw[AR];show rs.length+1=_;omega
     ·rintro σ H3 ⟨rs,v,rfl,s3,rF,lr,nr⟩
      have lr':rs.length=7:=lr
      refine⟨d,C,ms.map V.int,rs.map V.int,rfl,rfl,s3 _ _ pQ,rF,?_,?_⟩
      ·rw[AB,AB];exact A1 (show ms.length+rs.length<=10000 by omega) (by decide)
      refine rest _ _ ⟨0,ms++rs,_,rfl,Int.le_refl _,(s2.trans s3).kbn hd KB.write,?_,?_,?_,nn.app nr⟩
      ·rw[aD YY.symm];exact s3 _ _ es2
      ·rw[af,AW]
      ·rw[AR];omega
    ·exact rest _ _ ⟨num,ms,_,by rw[hnum];rfl,tJ,s1.trans sp,es2,pQ,by omega,nn⟩
  ·rintro σ H1 ⟨ms,v2,v3,v4,v5,rfl,s1,es1,QL,hl,nn⟩
   rw[AB] at hl
   refine⟨_,rfl,_,ms.length,rfl,.inl ⟨_,.of QL,by rw[AB]⟩,(ms.length:Int),60,rfl,by omega,jS (λj σ H'=>∃(dE:List Int) (v2 v3 v4 v5:Option V),σ=[some (.ref sa),some (.ref d),v2,v3,v4,v5]/\Same H H'/\H' d=some (.lst (dE.map V.int))/\dE.length=ms.length+j/\NN dE)
    ⟨ms,v2,v3,v4,v5,rfl,s1,QL,rfl,nn⟩ ?_ ?_⟩
   ·rintro j σ H2 hj ⟨dE,v2,v3,v4,v5,rfl,s2,pQ,hl2,QM⟩
    refine⟨_,rfl,.inl ⟨rfl,_,.of pQ⟩,_,rfl,_,rfl,sa,ns.map V.int,rfl,s2.seq hS,λz hz=>?_⟩
    have ndz:d≠z:=aC pQ hz
    rw[UX ns hns]
    refine⟨z,ns,rfl,.of af,_,rfl,_,_,rfl,d,_,_,rfl,rfl,(by rw[aD ndz];exact pQ),?_,?_⟩
    ·rw[AB];exact AZ (show dE.length<10000 by omega) (by decide)
    refine⟨dE++[m3 ns.sum ((ms.length:Int)+(j:Int))],_,_,_,_,rfl,(s2.trans (Same.new hz)).kbn hd KB.write,?_,?_,QM.app (NN.one (vU _ _).1)⟩
    ·rw[af,AW];rfl
    ·rw[AR];show dE.length+1=_;omega
   ·rintro σ H2 ⟨dE,v2,v3,v4,v5,rfl,s2,pQ,hl2,QM⟩
    refine⟨_,rfl,_,rfl,d,_,rfl,.of pQ,λD hD=>?_⟩
    rw[show(some (900:Int))=some ((900:Nat):Int) from rfl,WO]
    refine k D _ (s2.free hD) (s2.trans (Same.new hD)) ⟨dE.take 900,af,λz=>?_,λm hm=>QM m (CY hm)⟩
    have z':(dE.take 900).length=0:=by rw[z];rfl
    rw[Az] at z'
    omega
def YZ:Sp:=λvs H Q _=>∃(d:Addr) (m:Int),vs=[.ref d,.int m]/\bS H d/\0<m/\∀(r:Int) (H':Hp),0<=r->r<m->KB d H H'->bS H' d->Q (.int r) H'
theorem QO:aN ["_law_deck_here","_law_many"] ["_law_deck_here","_law_many"] (ah ju):=⟨rfl,rfl,rfl,by decide+kernel,rfl,by decide+kernel,by decide+kernel⟩
theorem mN{a:bF}(T:Txt K mg a):aR P w K mg base bh 2 a.oT a.qu ["_law_deck_here","_law_many"] YZ:=by
 have jV:=uQ (P:=P) (w:=w) (base:=base) T
 refine T.Tp.ok QO (λvs H Q E h=>?_) (λcdv A outer s H vs Q E hr h=>?_)
 ·obtain⟨d,m,rfl,_⟩:=h
  rfl
 ·obtain⟨d,m,rfl,⟨ms,hd,hne,nn⟩,hm,k⟩:=h
  have jh:aL 1 _:=hr
  refine⟨_,(ai (bW (bj t9 (aQ (aZ K) (by rfl) T.cA bR (ae (pv 0) ag)) aj (bt _))
   (aq (aM (aS jo (fq A3 Hr Hs Sf (pv 0) (ae aj ag)) (pv 1))))
   bu)
  (ai (t6 (aB jV jh rfl T.mK T.mL T.mM .nil aJ (ae (aA (fb K) (pv 0) aj (λ_ _=>rfl)) (ae aj ag))) (O1 (pv 0) aj set_list))
  (aq (aM (aS jo (aB jV jh rfl T.mK T.mL T.mM .nil aJ (ae (aA (fb K) (pv 0) aj (λ_ _=>rfl)) (ae aj ag))) (pv 1)))))),?_⟩
  obtain⟨x,xs,rfl⟩:∃x xs,ms=x::xs:=by cases ms with | nil=>exact absurd rfl hne | cons x xs=>exact⟨x,xs,rfl⟩
  refine⟨_,rfl,_,(x::xs).length,rfl,.inl ⟨_,.of hd,by rw[AB]⟩,_,_,rfl,rfl,_,rfl,?_⟩
  refine iB (λhl=>?_) (λ_=>?_)
  ·have hl':xs≠[]:=by
    intro z;subst z
    have:=of_decide_eq_true hl
    simp at this
   refine⟨_,rfl,.inl ⟨rfl,_,.of hd⟩,d,_,0,0,V.int x,rfl,rfl,hd,by decide,by decide,?_,rfl,_,rfl,_,_,rfl,rfl,cpos hm,?_⟩
   ·show seqIndex? 0 _=_
    rw[AB]
    exact(vn (n:=(x::xs).length) (i:=0) (j:=0) (by unfold pF;rw[if_pos (by omega),if_pos (by simp)];rfl)).1
   ·exact k _ _ (Cy _ (by omega)) (DF _ hm) KB.write ⟨xs,by rw[af];rfl,hl',λz hz=>nn z (AM _ hz)⟩
  ·refine⟨_,rfl,d,_,0,V.int x,rfl,rfl,.of hd,ao (j:=0) rfl,x,11,rfl,?_⟩
   refine⟨_,rfl,d,_,0,0,rfl,rfl,hd,?_,?_⟩
   ·rw[AB];unfold pF;rw[if_pos (by omega),if_pos (by simp)];rfl
   ·have e1:(upd H d (.lst (((x::xs).map V.int).set 0 (V.int (m3 x 11))))) d=some (.lst ((m3 x 11::xs).map V.int)):=by rw[af];rfl
    refine⟨_,rfl,d,_,0,V.int (m3 x 11),rfl,rfl,.of e1,ao (j:=0) rfl,m3 x 11,5,rfl,_,rfl,_,_,rfl,rfl,cpos hm,?_⟩
    exact k _ _ (Cy _ (by omega)) (DF _ hm) KB.write ⟨m3 x 11::xs,e1,by simp,λz hz=>(AV.mp hz).elim (λe=>e▸(vU x 11).1) λh=>nn z (AM _ h)⟩
def Y_:Sp:=λvs H Q _=>∃d:Addr,vs=[.ref d]/\bS H d/\∀(b:Nat) (H':Hp),2<=b->b<=4->KB d H H'->bS H' d->Q (.int b) H'
def Tx:Sp:=λvs H Q _=>∃(d:Addr) (b:Nat),vs=[.ref d,.int b]/\bS H d/\2<=b/\b<=4/\∀(r:Nat) (H':Hp),r<4 ^ 140->KB d H H'->bS H' d->Q (.int r) H'
theorem QP:aN ["_law_deck_here"] ["_law_deck_here"] (ah jv):=⟨rfl,rfl,rfl,by decide+kernel,rfl,by decide+kernel,by decide+kernel⟩
theorem QQ{a:bF}(T:Txt K mg a):aR P w K mg base bh 3 a.oU a.qv ["_law_deck_here"] Y_:=by
 have cf:=mN (P:=P) (w:=w) (base:=base) T
 refine T.Tq.ok QP (λvs H Q E h=>?_) (λcdv A outer s H vs Q E hr h=>?_)
 ·obtain⟨d,rfl,_⟩:=h
  rfl
 ·obtain⟨d,rfl,hd,k⟩:=h
  have bQ:aL 2 _:=hr
  refine⟨_,(aq (aM (aS eK aj (aB cf bQ rfl T.cS T.cU T.cV .nil aJ (ae (pv 0) (ae aj ag)))))),?_⟩
  refine⟨_,rfl,d,3,rfl,hd,by decide,λr H1 r0 r1 k1 d1=>⟨_,_,rfl,rfl,?_⟩⟩
  obtain⟨b,hb⟩:∃b:Nat,(2:Int)+r=(b:Int):=⟨(2+r).toNat,by omega⟩
  show Q (.int (2+r)) H1
  rw[hb]
  exact k b H1 (by omega) (by omega) k1 d1
theorem fj:aN ["_law_deck_here","_law_base_here","_law_way","_law_found","_law_turn"] ["_law_deck_here","_law_base_here"] (ah gM):=⟨rfl,rfl,rfl,by decide+kernel,rfl,by decide+kernel,by decide+kernel⟩
theorem rG{a:bF}(T:Txt K mg a):aR P w K mg base bh 3 a.kN a.mX ["_law_deck_here","_law_base_here"] Tx:=by
 have cf:=mN (P:=P) (w:=w) (base:=base) T
 refine T.Oi.ok fj (λvs H Q E h=>?_) (λcdv A outer s H vs Q E hr h=>?_)
 ·obtain⟨d,b,rfl,_⟩:=h
  rfl
 ·obtain⟨d,b,rfl,hd,hb2,hb4,k⟩:=h
  have bQ:aL 2 _:=hr
  refine⟨_,(ai (az (i:=2) fj.nd rfl (Ai rfl) (aB cf bQ rfl T.cS T.cU T.cV .nil aJ (ae (pv 0) (ae aj ag))))
  (ai (bW (bj kI (pv 2) aj (bt _))
   (aq (aM (aB cf bQ rfl T.cS T.cU T.cV .nil aJ (ae (pv 0) (ae aj ag)))))
   bu)
  (ai (az (i:=3) fj.nd rfl (Ai rfl) (bD Pd (by rfl) T.UU Pz (ae (nq kI (pv 2) aj (bt _)) ag)))
  (ai (cp A7 rfl (cg rfl T.cW (ae (aS eK aj (aB cf bQ rfl T.cS T.cU T.cV .nil aJ (ae (pv 0) (ae (aA (fb K) (eO (ae aj (ae aj (ae aj ag)))) (aS O' (pv 2) aj) (λ_ _=>rfl)) ag)))) ag)) (aH (i:=4) fj.nd rfl (Ai rfl))
   (ai (az (i:=3) fj.nd rfl (Ai rfl) (aS iZ (pv 3) (pv 1)))
   (aq (bW (bj i_ (pv 2) aj (bt _))
    (aq (az (i:=3) fj.nd rfl (Ai rfl) (aS eK (pv 3) (aB cf bQ rfl T.cS T.cU T.cV .nil aJ (ae (pv 0) (ae (pv 1) ag))))))
    bu))))
  (ai (bW (bj kI (pv 2) aj (bt _))
   (aq (az (i:=3) fj.nd rfl (Ai rfl) (aS O' (aS eK (pv 3) (aB cf bQ rfl T.cS T.cU T.cV .nil aJ (ae (pv 0) (ae aj ag)))) aj)))
   bu)
  (aq (aM (pv 3)))))))),?_⟩
  refine⟨_,rfl,d,4,rfl,hd,by decide,λway H1 w0 w1 k1 d1=>?_⟩
  refine⟨_,rfl,rfl,_,rfl,?_⟩
  refine iB (λhw=>?_) (λhw=>?_)
  ·refine⟨_,rfl,d,20,rfl,d1,by decide,λr H2 r0 r1 k2 d2=>?_⟩
   obtain⟨n,hn⟩:∃n:Nat,r=(n:Int):=⟨r.toNat,by omega⟩
   subst hn
   exact k n H2 (AZ (show n<20 by omega) (by decide)) (k1.trans k2) d2
  ·have hw':way≠0:=λz=>by subst z;exact hw (by simp)
   refine⟨_,rfl,rfl,.inr ⟨_,rfl,?_⟩⟩
   refine⟨_,rfl,by show 3<=sizeLine;decide,λp hp=>?_⟩
   obtain⟨j,hj⟩:∃j:Nat,way-1=(j:Int):=⟨(way-1).toNat,by omega⟩
   obtain⟨m,hm1,hm2,Yb⟩:∃m:Int,([.int 4,.int 60,.int 130]:List V)[j]? =some (.int m)/\0<m/\m<=130:=by
    have:j=0∨j=1∨j=2:=by omega
    rcases this with rfl | rfl | rfl
    ·exact⟨4,rfl,by decide,by decide⟩
    ·exact⟨60,rfl,by decide,by decide⟩
    ·exact⟨130,rfl,by decide,by decide⟩
   have s2:=Same.new (o:=.lst [.int 4,.int 60,.int 130]) hp
   refine⟨_,rfl,_,_,rfl,rfl,p,_,_,.int m,rfl,rfl,.of af,?_,d,m,rfl,d1.same s2,hm2,λt H3 t0 t1 k3 d3=>?_⟩
   ·rw[hj];exact ao hm1
   refine⟨_,_,rfl,rfl,_,rfl,by omega,by omega,jS (λi σ H'=>∃(f:Nat) (v4:Option V),σ=[some (.ref d),some (.int b),some (.int way),some (.int f),v4]/\KB d H1 H'/\bS H' d/\(way=2->f=b ^ i)/\(way≠2->f<b ^ i))
    ⟨if way=2 then 1 else 0,none,?_,(s2.kb).trans k3,d3,?_,?_⟩ ?_ ?_⟩
   ·by_cases hw2:way=2
    ·subst hw2;rfl
    ·simp[hw2,aO]
     rfl
   ·intro z;rw[if_pos z];simp
   ·intro z;rw[if_neg z];simp
   ·rintro i σ H4 hi ⟨f,v4,rfl,k4,d4,e1,e2⟩
    refine⟨_,rfl,_,rfl,_,_,rfl,rfl,.inr (by constructor<;>omega),?_⟩
    refine⟨_,rfl,rfl,_,rfl,?_⟩
    refine iB (λhw2=>?_) (λhw2=>?_)
    ·have qx:way≠2:=λz=>by subst z;simp at hw2
     refine⟨_,rfl,_,rfl,_,rfl,d,b,rfl,d4,by omega,λr H5 r0 r1 k5 d5=>⟨_,_,rfl,rfl,?_⟩⟩
     obtain⟨n,hn⟩:∃n:Nat,r=(n:Int):=⟨r.toNat,by omega⟩
     subst hn
     refine⟨f*b+n,some (.int (0+(i:Int))),?_,k4.trans k5,d5,λz=>absurd z qx,λ_=>?_⟩
     ·rw[Int.natCast_add,Fj];rfl
     ·have h1:=e2 qx
      have h2:(f+1)*b<=b ^ i*b:=FZ b h1
      rw[Cp]
      have h3:(f+1)*b=f*b+b:=by rw[Nat.add_mul,Nat.one_mul]
      omega
    ·have qx:way=2:=by
      by_cases z:way=2
      ·exact z
      ·exact absurd (by simp[z]) hw2
     refine⟨f*b,some (.int (0+(i:Int))),?_,k4,d4,λz=>?_,λz=>absurd qx z⟩
     ·rw[Fj];rfl
     ·rw[e1 z,Cp]
   ·rintro σ H4 ⟨f,v4,rfl,k4,d4,e1,e2⟩
    have ht:(1+t:Int).toNat<=130:=by omega
    have hpow:b ^ (1+t:Int).toNat<=4 ^ 130:=A1 (EJ hb4 _) (BP (by decide) ht)
    have am5:(4:Nat) ^ 130+10<4 ^ 140:=by decide+kernel
    refine⟨_,rfl,rfl,_,rfl,?_⟩
    refine iB (λhw2=>?_) (λhw2=>?_)
    ·have qx:way=2:=by simpa using hw2
     refine⟨_,rfl,_,rfl,d,3,rfl,d4,by decide,λr H5 r0 r1 k5 d5=>⟨_,_,rfl,rfl,_,_,rfl,rfl,?_⟩⟩
     have hf:=e1 qx
     have hf1:1<=f:=by rw[hf];exact Nat.one_le_pow _ _ (by omega)
     obtain⟨n,hn⟩:∃n:Nat,(f:Int)+r-1=(n:Int):=⟨((f:Int)+r-1).toNat,by omega⟩
     refine⟨_,rfl,?_⟩
     show Q (.int ((f:Int)+r-1)) H5
     rw[hn]
     exact k n H5 (by omega) ((k1.trans k4).trans k5) d5
    ·refine⟨_,rfl,k f H4 ?_ (k1.trans k4) d4⟩
     have qx:way≠2:=by simpa using hw2
     have:=e2 qx
     omega
def ak(ds:List Nat):List Int:=ds.map λ(d:Nat)=>(d:Int)
theorem Ku(ds:List Nat)(i:Nat):(ak ds)[i]? =ds[i]?.map λ(d:Nat)=>(d:Int):=by simp[ak]
theorem jD{ds:List Nat}{i:Nat}{x:V}(h:((ak ds).map V.int)[i]? =some x):∃n:Nat,x=.int (n:Int)/\ds[i]? =some n:=by
 obtain⟨f,rfl,hf⟩:=vy h
 rw[Ku] at hf
 cases e:ds[i]? with
 | none=>rw[e] at hf;cases hf
 | some n=>rw[e] at hf;exact⟨n,by rw[<-AN hf],rfl⟩
theorem qP{rs:List Addr}{i:Nat}{x:V}(h:(rs.map V.ref)[i]? =some x):∃r,x=.ref r/\rs[i]? =some r:=by
 rw[AJ] at h
 cases e:rs[i]? with
 | none=>rw[e] at h;cases h
 | some r=>rw[e] at h;exact⟨r,(AN h).symm,rfl⟩
theorem take_snoc{α:Type}{xs:List α}{i:Nat}{x:α}(h:xs[i]? =some x):xs.take (i+1)=xs.take i++[x]:=by rw[DM,h];rfl
theorem a_(ds:List Nat):(ak ds).length=ds.length:=by simp[ak]
theorem eV(xs ys:List Nat):ak (xs++ys)=ak xs++ak ys:=by simp[ak]
structure Moves (n b:Nat)(mv:List (List Nat)):Prop where
 len:mv.length=n
 lead:∀l∈mv,l.length=b/\∀x∈l,x<n
theorem item_at{α:Type}{xs:List α}{i:Nat}(d:α)(h:i<xs.length):xs[i]? =some (xs.getD i d):=by rw[BB,Al h];rfl
theorem bE{ds:List Nat}{i:Nat}(h:i<ds.length):((ak ds).map V.int)[i]? =some (.int (ds.getD i 0:Nat)):=by
 rw[AJ,Ku,item_at 0 h];rfl
theorem Moves.row{H:Hp}{n b:Nat}{mv:List (List Nat)}{ps:List Addr}(h:Moves n b mv)(tp:cO H ps (mv.map ak)){r:Nat}(hr:r<n):
  ps[r]? =some (ps.getD r 0)/\H (ps.getD r 0)=some (.tup ((ak (mv.getD r [])).map V.int))/\(mv.getD r []).length=b:=by
 have lp:ps.length=n:=by rw[Aq tp,AB,h.len]
 have hp:=item_at 0 (show r<ps.length by omega)
 obtain⟨l',hl',el⟩:=tp.get hp
 have hm:=item_at [] (show r<mv.length by rw[h.len];exact hr)
 rw[AJ,hm] at hl'
 have:=AN hl'
 subst this
 exact⟨hp,el,(h.lead _ (AI hm)).1⟩
def QR(H:Hp)(ma nm:Addr)(bs:List Bool)(mv:List (List Nat)):Prop:=∃(ya va:Addr) (ps:List Addr),H ma=some (.tup [.ref nm,.ref ya,.ref va])/\H ya=some (.tup (bs.map V.bl))/\H va=some (.tup (ps.map V.ref))/\cO H ps (mv.map ak)
def stp(mv:List (List Nat))(r a:Nat):Nat:=(mv.getD r []).getD a 0
def run(mv:List (List Nat)):Nat->List Nat->Nat
 | r,[]=>r
 | r,a::w=>run mv (stp mv r a) w
def bM(B:Nat)(w:List Nat):Prop:=∀a∈w,a<B
theorem bM.nil(B:Nat):bM B []:=λa h=>by cases h
theorem bM.cons{B a:Nat}{w:List Nat}(h:a<B)(hw:bM B w):bM B (a::w):=λx hx=>(AV.mp hx).elim (λe=>e▸h) (hw x)
theorem bM.app{B:Nat}{v w:List Nat}(hv:bM B v)(hw:bM B w):bM B (v++w):=λx hx=>(A6.mp hx).elim (hv x) (hw x)
theorem bM.rev{B:Nat}{w:List Nat}(hw:bM B w):bM B w.reverse:=λx hx=>hw x (FO.mp hx)
theorem MN(mv:List (List Nat)):∀(v w:List Nat) (r:Nat),run mv r (v++w)=run mv (run mv r v) w
 | [],_,_=>rfl
 | a::v,w,r=>MN mv v w (stp mv r a)
theorem Moves.stp{n B:Nat}{mv:List (List Nat)}(m:Moves n B mv){r a:Nat}(hr:r<n)(ha:a<B):stp mv r a<n:=by
 unfold My.stp
 have h1:mv[r]? =some (mv.getD r []):=item_at [] (by rw[m.len];exact hr)
 obtain⟨h2,h3⟩:=m.lead _ (AI h1)
 have h4:=item_at 0 (show a<(mv.getD r []).length by rw[h2];exact ha)
 exact h3 _ (AI h4)
theorem Moves.run{n B:Nat}{mv:List (List Nat)}(m:Moves n B mv):∀{w:List Nat} {r:Nat},r<n->bM B w->My.run mv r w<n
 | [],_,hr,_=>hr
 | a::w,r,hr,hw=>Moves.run m (w:=w) (m.stp hr (hw a AQ)) λx hx=>hw x (AM _ hx)
def bB:List Nat->Nat->Option Nat
 | [],s=>some s
 | t::l,s=>if t<s then bB l s else if t=s then bB l (s+1) else none
def bY:List (List Nat)->Nat->Nat->Option Nat
 | [],_,s=>some s
 | r::rs,i,s=>if i<s then(bB r s).bind λs'=>bY rs (i+1) s' else none
theorem jW:∀(l:List Nat) (t s:Nat),bB (l++[t]) s=(bB l s).bind λs'=>bB [t] s'
 | [],_,_=>rfl
 | x::l,t,s=>by
  show bB (x::(l++[t])) s=(bB (x::l) s).bind _
  simp only[bB]
  by_cases h:x<s
  ·rw[if_pos h,if_pos h];exact jW l t s
  ·rw[if_neg h,if_neg h]
   by_cases h2:x=s
   ·rw[if_pos h2,if_pos h2];exact jW l t (s+1)
   ·rw[if_neg h2,if_neg h2];rfl
theorem oY:∀(rs:List (List Nat)) (r:List Nat) (i s:Nat),bY (rs++[r]) i s=(bY rs i s).bind λs'=>if i+rs.length<s' then bB r s' else none
 | [],r,i,s=>by
  show(if i<s then(bB r s).bind λs'=>some s' else none)=if i+0<s then bB r s else none
  rw[E5]
  split
  ·cases bB r s<;>rfl
  ·rfl
 | x::rs,r,i,s=>by
  show(if i<s then(bB x s).bind λs'=>bY (rs++[r]) (i+1) s' else none)=(if i<s then(bB x s).bind λs'=>bY rs (i+1) s' else none).bind _
  by_cases h:i<s
  ·rw[if_pos h,if_pos h]
   cases bB x s with
   | none=>rfl
   | some s'=>
    show bY (rs++[r]) (i+1) s'=(bY rs (i+1) s').bind _
    rw[oY rs r (i+1) s']
    congr 1
    funext q
    rw[Aj,show i+1+rs.length=i+(rs.length+1) by omega]
  ·rw[if_neg h,if_neg h];rfl
theorem oZ:∀{l:List Nat} {s s':Nat},bB l s=some s'->s<=s'
 | [],s,s',h=>by have:=AN h;omega
 | x::l,s,s',h=>by
  simp only[bB] at h
  split at h
  ·exact oZ h
  ·split at h
   ·have:=oZ h;omega
   ·cases h
theorem xO:∀{rs:List (List Nat)} {i s s':Nat},bY rs i s=some s'->s<=s'
 | [],_,s,s',h=>by have:=AN h;omega
 | r::rs,i,s,s',h=>by
  simp only[bY] at h
  split at h
  ·cases e:bB r s with
   | none=>rw[e] at h;cases h
   | some q=>
    rw[e] at h
    have h1:=oZ e
    have h2:=xO (show bY rs (i+1) q=some s' from h)
    omega
  ·cases h
def dc{α:Type}(on:α->Nat->α):α->List Nat->α
 | x,[]=>x
 | x,a::w=>dc on (on x a) w
theorem Kv{α:Type}(on:α->Nat->α):∀(v w:List Nat) (x:α),dc on x (v++w)=dc on (dc on x v) w
 | [],_,_=>rfl
 | a::v,w,x=>Kv on v w (on x a)
structure cw {α:Type}(x0:α)(on:α->Nat->α)(m:Nat)(xs:List α)(mv:List (List Nat)):Prop where
 once:xs.Nodup
 first:xs[0]? =some x0
 reach:∀x∈xs,∃w,bM m w/\x=dc on x0 w
 row:∀(i:Nat) (r:List Nat),mv[i]? =some r->r.length=m/\∃x,xs[i]? =some x/\∀(c t:Nat),r[c]? =some t->xs[t]? =some (on x c)
 go:bY mv 0 1=some xs.length
theorem cw.aV{α:Type}{x0:α}{on:α->Nat->α}{m:Nat}{xs:List α}{mv:List (List Nat)}(g:cw x0 on m xs mv)(h:mv.length=xs.length):Moves xs.length m mv:=by
 refine⟨h,λl hl=>?_⟩
 obtain⟨i,hi⟩:=Ak hl
 obtain⟨h1,x,_,h2⟩:=g.row i l hi
 refine⟨h1,λt ht=>?_⟩
 obtain⟨c,hc⟩:=Ak ht
 exact(AF.mp (h2 c t hc)).1
theorem cw.run{α:Type}{x0:α}{on:α->Nat->α}{m:Nat}{xs:List α}{mv:List (List Nat)}(g:cw x0 on m xs mv)(h:mv.length=xs.length):∀(w:List Nat) (i:Nat) (x:α),xs[i]? =some x->bM m w->xs[run mv i w]? =some (dc on x w)
 | [],_,_,e,_=>e
 | a::w,i,x,e,hw=>by
  have hi:=(AF.mp e).1
  have ha:=hw a AQ
  have h1:=item_at [] (show i<mv.length by omega)
  obtain⟨l1,y,ey,h2⟩:=g.row i _ h1
  rw[e] at ey
  have:=AN ey
  subst this
  have h3:=item_at 0 (show a<(mv.getD i []).length by rw[l1];exact ha)
  exact cw.run g h w _ _ (h2 a _ h3) λz hz=>hw z (AM _ hz)
theorem Y0{n i:Nat}(h:i<n):pF n (i:Int)=some i:=by
 unfold pF
 rw[if_pos (by omega),if_pos (by omega),Ae]
theorem m4{α β:Type}{F:α->β->Prop}{l:List α}{m:List β}{a:α}{b:β}(h:BV F l m)(r:F a b):BV F (l++[a]) (m++[b]):=by
 induction h with
 | nil=>exact .cons r .nil
 | cons q t ih=>exact .cons q ih
def lets(b:Nat):Nat->List (List Int)
 | 0=>[[]]
 | n+1=>(lets b n).flatMap λl=>(Ao b).map λ(f:Nat)=>l++[(f:Int)]
theorem jE(b:Nat):∀n,(lets b n).length=b ^ n
 | 0=>rfl
 | n+1=>by
  show((lets b n).flatMap λl=>(Ao b).map λ(f:Nat)=>l++[(f:Int)]).length=_
  rw[Ia]
  have:(HF (λl:List Int=>((Ao b).map λ(f:Nat)=>l++[(f:Int)]).length) (lets b n))=C' (lets b n).length b:=by
   rw[Fm (g:=λ_=>b) (λl _=>by simp)]
   exact List.map_const' ..
  rw[this,HW,jE b n,Cp]
theorem tK(b:Nat):∀(n:Nat) (l:List Int),l∈lets b n->l.length=n
 | 0,l,h=>by
  have h':l∈[([]:List Int)]:=h
  simp at h';subst h';rfl
 | n+1,l,h=>by
  have h':l∈(lets b n).flatMap λl=>(Ao b).map λ(f:Nat)=>l++[(f:Int)]:=h
  obtain⟨l',h1,h2⟩:=FP.mp h'
  obtain⟨f,_,rfl⟩:=As.mp h2
  rw[AR,tK b n l' h1];rfl
theorem Tz(b:Nat)(ls:List (List Int)):(ls.flatMap λl=>(Ao b).map λ(f:Nat)=>l++[(f:Int)]).length=ls.length*b:=by
 rw[Ia]
 have:(HF (λl:List Int=>((Ao b).map λ(f:Nat)=>l++[(f:Int)]).length) ls)=C' ls.length b:=by
  rw[Fm (g:=λ_=>b) (λl _=>by simp)]
  exact List.map_const' ..
 rw[this,HW]
def QS:Sp:=λvs H Q _=>∃(b n:Nat),vs=[.int b,.int n]/\b<=4/\n<=4/\∀(D:Addr) (ps:List Addr) (H':Hp),H D=none->Same H H'->H' D=some (.lst (ps.map V.ref))->cO H' ps (lets b n)->Q (.ref D) H'
theorem dN:aN ["base","many","letters","spot","longer","letter"] ["base","many"] (ah dq):=⟨rfl,rfl,rfl,by decide+kernel,rfl,by decide+kernel,by decide+kernel⟩
theorem mO{b n:Nat}(hb:b<=4)(hn:n<=4):b ^ n<=256:=
 A1 (EJ hb n) (BP (by decide) hn)
theorem nV{a:bF}(T:Txt K mg a):aR P w K mg base bh 1 a.h_ a.jx ["base","many"] QS:=by
 refine T.yo.ok dN (λvs H Q E h=>?_) (λcdv A outer s H vs Q E hr h=>?_)
 ·obtain⟨b,n,rfl,_⟩:=h
  rfl
 ·obtain⟨b,n,rfl,hb,hn,k⟩:=h
  refine⟨_,(ai (az (i:=2) dN.nd rfl (Ai rfl) (eO (ae (bx ag) ag)))
  (ai (cp A7 rfl (cg rfl T.cW (ae (pv 1) ag)) (aH (i:=3) dN.nd rfl (Ai rfl))
   (ai (az (i:=4) dN.nd rfl (Ai rfl) (eO ag))
   (ai (cp A7 rfl (dJ (pv 2)) (aH (i:=5) dN.nd rfl (DD rfl))
    (aq (cM (fq A3 DT DU p7 (pv 4) (ae (cz (aP.mk' (esc:=ah dq) (N:=["base","many","letters","spot","longer","letter"]) (own:=["figure"]) (aI:=["letter"]) (bN:=[5]) rfl rfl (by decide+kernel)) rfl (cg rfl T.cW (ae (pv 0) ag)) (λ_ _ _ _=>(aH (i:=0) (show Bs (["figure","letter"]:List Str) by decide+kernel) rfl (Ai rfl))) (λ_ _ _ _=>bK) (λ_ _ _ _=>(aS (rZ K) (pv 1) (bx (ae (pv 0) ag))))) ag)))))
   (aq (az (i:=2) dN.nd rfl (Ai rfl) (pv 4))))))
  (aq (aM (pv 2))))),?_⟩
  refine⟨by decide,λp hp=>⟨by show 1<=sizeLine;decide,λD hD=>?_⟩⟩
  have QT:H D=none:=(Same.new hp).free hD
  refine⟨_,rfl,n,rfl,by omega,by omega,jS (lo:=0) (n:=(n:Int).toNat) (λi σ H'=>∃(D:Addr) (ps:List Addr) (v3 v4 v5:Option V),σ=[some (.int b),some (.int n),some (.ref D),v3,v4,v5]/\H D=none/\Same H H'/\H' D=some (.lst (ps.map V.ref))/\cO H' ps (lets b i))
   ⟨D,[p],none,none,none,rfl,QT,(Same.new hp).trans (Same.new hD),af,.cons (by rw[aD (aC (o:=.tup []) af hD)];exact af) .nil⟩ ?_ ?_⟩
  ·rintro i σ H1 hi ⟨D,ps,v3,v4,v5,rfl,hD,s1,eD,t1⟩
   rw[Ae] at hi
   have lps:ps.length=b ^ i:=by rw[Aq t1,jE]
   have bi:b ^ i<=256:=mO hb (by omega)
   have bi1:b ^ (i+1)<=256:=mO hb (by omega)
   refine⟨by decide,λE hE=>?_⟩
   have hE0:H E=none:=s1.free hE
   have Y1:D≠E:=aC eD hE
   refine⟨_,rfl,D,rfl,⟨ps.map V.ref,.of (by rw[aD Y1];exact eD)⟩,iA (xs:=ps.map V.ref) (λj σ H'=>∃(qs:List Addr) (v5:Option V),σ=[some (.int b),some (.int n),some (.ref D),some (.int (0+(i:Int))),some (.ref E),v5]/\
     Same H H'/\H' D=some (.lst (ps.map V.ref))/\cO H' ps (lets b i)/\H' E=some (.lst (qs.map V.ref))/\cO H' qs (((lets b i).take j).flatMap λl=>(Ao b).map λ(f:Nat)=>l++[(f:Int)]))
    ⟨[],v5,rfl,s1.trans (Same.new hE),by rw[aD Y1];exact eD,t1.keep (Same.new hE).kt,af,.nil⟩ (λj σ H' _ ⟨_,_,_,_,h,_⟩=>.of h) ?_ ?_⟩
   ·rintro j y σ H2 hj ⟨qs,v5,rfl,s2,Kw,t2,QU,u2⟩
    rw[AJ] at hj
    cases ep:ps[j]? with
    | none=>rw[ep] at hj;cases hj
    | some p=>
     rw[ep] at hj
     have ey:y=.ref p:=(AN hj).symm
     subst ey
     obtain⟨l,el,hl⟩:=t2.get ep
     have jlt:j<ps.length:=(AF.mp ep).1
     refine⟨_,rfl,.inl ⟨rfl,_,.of QU⟩,_,rfl,b,rfl,by omega,by omega,λC hC=>?_⟩
     have nEC:E≠C:=aC QU hC
     have nDC:D≠C:=aC Kw hC
     refine gH (λf σ H'=>∃(rs:List Addr) (v:Option V),σ=[v,some (.ref p)]/\Same H2 H'/\H' C=some (.lst (rs.map V.ref))/\cO H' rs ((Ao f).map λ(f:Nat)=>l++[(f:Int)]))
      ⟨[],none,rfl,Same.new hC,af,.nil⟩ ?_ ?_
     ·rintro f σ H3 hf ⟨rs,v,rfl,s3,rF,t3⟩
      refine⟨_,rfl,_,rfl,by show 1<=sizeLine;decide,λq hq=>?_⟩
      have lrs:rs.length=f:=by rw[Aq t3];simp
      have Y3:C≠q:=aC rF hq
      have ll:l.length=i:=tK b i l (AI el)
      have e0:(0:Int)+(f:Int)=(f:Int):=by omega
      have hq2:H2 q=none:=s3.free hq
      have szf:(rs.map V.ref).length<sizeLine:=by rw[AB,lrs];exact AZ (show f<10 by omega) (by decide)
      have s4:Same H2 (upd H3 q (.tup [.int (0+(f:Int))])):=s3.trans (Same.new hq)
      have t4:=t3.keep (Same.new (o:=.tup [.int (0+(f:Int))]) hq).kt
      refine⟨p,q,l.map V.int,[.int (0+(f:Int))],rfl,rfl,.of (s4 _ _ hl),.of af,by simp,?_,λhl0=>?_,λhl0 r hr=>?_⟩
      ·rw[AB,ll];exact A1 (show i+1<=10 by omega) (by decide)
      ·have hl1:l=[]:=by cases l with | nil=>rfl | cons _ _=>cases hl0
       subst hl1
       have Kx:(upd H3 q (.tup [.int (0+(f:Int))])) C=some (.lst (rs.map V.ref)):=by rw[aD Y3];exact rF
       refine⟨rs.map V.ref,Kx,szf,rs++[q],_,rfl,?_,by rw[af,AW];rfl,?_⟩
       ·exact s4.kbn hC KB.write
       ·rw[EX,AW]
        refine dj (t4.keep (bq.lst Kx)) (.cons (bq.lst Kx _ _ ?_) .nil)
        rw[af]
        simp
      ·have nCr:C≠r:=aC (by rw[aD Y3];exact rF) hr
       have Kx:(upd (upd H3 q (.tup [.int (0+(f:Int))])) r (.tup (l.map V.int++[.int (0+(f:Int))]))) C=some (.lst (rs.map V.ref)):=by rw[aD nCr,aD Y3];exact rF
       refine⟨rs.map V.ref,Kx,szf,rs++[r],_,rfl,?_,by rw[af,AW];rfl,?_⟩
       ·exact(s4.trans (Same.new hr)).kbn hC KB.write
       ·rw[EX,AW]
        refine dj ((t4.keep (Same.new hr).kt).keep (bq.lst Kx)) (.cons (bq.lst Kx _ _ ?_) .nil)
        rw[af]
        simp
     ·rintro σ H3 ⟨rs,v,rfl,s3,rF,t3⟩
      have lrs:rs.length=b:=by rw[Aq t3];simp
      have lqs:qs.length<=1024:=by
       rw[Aq u2,Tz,Az]
       have:=Nat.mul_le_mul (show min j (lets b i).length<=256 by rw[jE];omega) hb
       omega
      have eE3:=s3 _ _ QU
      refine⟨E,C,qs.map V.ref,rs.map V.ref,rfl,rfl,eE3,rF,?_,?_⟩
      ·rw[AB,AB,lrs];exact A1 (show qs.length+b<=2000 by omega) (by decide)
      ·have kt:=bq.lst (o:=.lst (qs.map V.ref++rs.map V.ref)) eE3
       refine⟨qs++rs,_,rfl,(s2.trans s3).kbn hE0 KB.write,?_,(t2.keep s3.kt).keep kt,?_,?_⟩
       ·rw[aD Y1];exact s3 _ _ Kw
       ·rw[af,AW]
       ·have e1:(lets b i).take (j+1)=(lets b i).take j++[l]:=by rw[DM,el];rfl
        rw[e1,Ib]
        refine dj ((u2.keep s3.kt).keep kt) ?_
        rw[List.flatMap_singleton]
        have:=t3.keep kt
        rwa [show((b:Nat):Int).toNat=b from Ae b] at this
   ·rintro σ H2 ⟨qs,v5,rfl,s2,Kw,t2,QU,u2⟩
    refine⟨_,rfl,E,qs,_,_,_,rfl,hE0,s2,QU,?_⟩
    have e1:(lets b i).take (ps.map V.ref).length=lets b i:=by rw[AB,Aq t2];exact BQ ..
    rw[e1] at u2
    exact u2
  ·rintro σ H1 ⟨D,ps,v3,v4,v5,rfl,hD,s1,eD,t1⟩
   exact⟨_,rfl,k D ps H1 hD s1 eD (by rwa [Ae] at t1)⟩
def fk(b n:Nat):List Int:=if h:n=0∨b<2 then [] else((n % b:Nat):Int)::fk b (n / b)
termination_by n
decreasing_by exact EY (by omega) (by omega)
theorem gC(b:Nat):fk b 0=[]:=by rw[fk,dif_pos (.inl rfl)]
theorem jF{b n:Nat}(hb:2<=b)(hn:0<n):fk b n=((n % b:Nat):Int)::fk b (n / b):=by rw[fk,dif_neg (by omega)]
theorem tL{b:Nat}(hb:2<=b):∀(L n:Nat),n<2 ^ L->(fk b n).length<=L
 | 0,n,h=>by
  have:n=0:=by simpa using h
  subst this;rw[gC];simp
 | L+1,n,h=>by
  by_cases hn:n=0
  ·subst hn;rw[gC];simp
  ·rw[jF hb (by omega),Aj]
   refine Nat.succ_le_succ (tL hb L _ ?_)
   rw[Nat.div_lt_iff_lt_mul (by omega)]
   refine AZ h ?_
   rw[Cp]
   exact Nat.mul_le_mul_left _ hb
theorem MO{b:Nat}(hb:2<=b)(n:Nat):∀f∈fk b n,0<=f/\f<b:=by
 induction n using Nat.strongRecOn with
 | ind n ih=>
  by_cases hn:n=0
  ·subst hn;rw[gC];intro f hf;cases hf
  ·rw[jF hb (by omega)]
   intro f hf
   rcases AV.mp hf with rfl | hf
   ·have:=DQ n (show 0<b by omega)
    omega
   ·exact ih _ (EY (by omega) (by omega)) f hf
theorem xP{b:Nat}(h:b<=1000):(b:Int).natAbs.log2<9000:=by
 rw[Int.natAbs_natCast]
 by_cases hb:b=0
 ·subst hb;decide
 ·rw[Nat.log2_lt hb]
  refine BX h ?_
  refine AZ (show 1000<2 ^ 10 by decide) (BP (by decide) (by decide))
structure Term where
 num:Int
 parts:List (Str×Int)
def lX(p:Str×Int):Dt:=.tup [.str p.1,.int p.2]
def Term.dt(t:Term):Dt:=.tup [.int t.num,.tup (t.parts.map lX)]
inductive ax where
 | same (t u:Term) | less (t u:Term) | sign (a:Str) (t:Term) (s:Int) | alike (a:Str) (t:Term) (b:Str) (u:Term)
 | no (f:ax) | and (f g:ax) | or (f g:ax) | some (n:Str) (f:ax) | each (n:Str) (f:ax)
def ax.dt:ax->Dt
 | .same t u=>.tup [.str "same",t.dt,u.dt]
 | .less t u=>.tup [.str "less",t.dt,u.dt]
 | .sign a t s=>.tup [.str "sign",.str a,t.dt,.int s]
 | .alike a t b u=>.tup [.str "alike",.str a,t.dt,.str b,u.dt]
 | .no f=>.tup [.str "not",f.dt]
 | .and f g=>.tup [.str "and",f.dt,g.dt]
 | .or f g=>.tup [.str "or",f.dt,g.dt]
 | .some n f=>.tup [.str "some",.str n,f.dt]
 | .each n f=>.tup [.str "each",.str n,f.dt]
def ax.deep:ax->Nat
 | .no f=>f.deep+1
 | .and f g=>max f.deep g.deep+1
 | .or f g=>max f.deep g.deep+1
 | .some _ f=>f.deep+1
 | .each _ f=>f.deep+1
 | _=>0
theorem xQ:∀ps:List (Str×Int),Dt.iD (ps.map lX)=true
 | []=>by simp[Dt.iD]
 | p::ps=>by rw[Aw,Dt.iD,xQ ps];simp[lX,Dt.gZ,Dt.iD]
theorem Term.gZ(t:Term):t.dt.gZ=true:=by simp[Term.dt,Dt.gZ,Dt.iD,xQ]
theorem ax.gZ(s:ax):s.dt.gZ=true:=by
 induction s<;>simp[ax.dt,Dt.gZ,Dt.iD,Term.gZ, *]
def iu(ss:List Str)(t:Term):Prop:=t.parts.length<=3/\∀q∈t.parts,q.1∈ss
def ax.Over(ss:List Str):ax->Prop
 | .same t u=>iu ss t/\iu ss u
 | .less t u=>iu ss t/\iu ss u
 | .sign _ t _=>iu ss t
 | .alike _ t _ u=>iu ss t/\iu ss u
 | .no f=>f.Over ss
 | .and f g=>f.Over ss/\g.Over ss
 | .or f g=>f.Over ss/\g.Over ss
 | .some _ f=>f.Over ss
 | .each _ f=>f.Over ss
def ax.word:ax->Str
 | .same _ _=>"same" | .less _ _=>"less" | .sign _ _ _=>"sign" | .alike _ _ _ _=>"alike" | .no _=>"not" | .and _ _=>"and" | .or _ _=>"or" | .some _ _=>"some" | .each _ _=>"each"
def ax.inner:ax->List ax
 | .no f=>[f] | .and f g=>[f,g] | .or f g=>[f,g] | .some _ f=>[f] | .each _ f=>[f] | _=>[]
def ax.spots:ax->List Nat
 | .no _=>[1] | .and _ _=>[1,2] | .or _ _=>[1,2] | .some _ _=>[2] | .each _ _=>[2] | _=>[]
structure lY where
 d:Addr
 no:Addr
 an:Addr
 or:Addr
 so:Addr
 ea:Addr
def dO(b:lY):List (Str×Option V):=
 [("not",some (.ref b.no)),("and",some (.ref b.an)),("or",some (.ref b.or)),("some",some (.ref b.so)),("each",some (.ref b.ea)),("same",none),("less",none),("sign",none),("alike",none)]
structure ji (K:AD)(pr:Hz)(mg:Str->Option Value)(b:lY):Prop where
 Y4:mg "PART_SPOTS"=some (.ref b.d)
 Y5:nE K pr b.d (dO b)
 no:∀H,aY K H b.no [.int 1]
 an:∀H,aY K H b.an [.int 1,.int 2]
 or:∀H,aY K H b.or [.int 1,.int 2]
 so:∀H,aY K H b.so [.int 2]
 ea:∀H,aY K H b.ea [.int 2]
theorem ji.spots{K:AD}{pr:Hz}{mg:Str->Option Value}{b:lY}(U:ji K pr mg b)(f:ax)(H:Hp)(e:Addr)(he:aY K H e []):
  ∃r p,(f.word,r)∈dO b/\r.getD (.ref e)=.ref p/\aY K H p (f.spots.map λ(n:Nat)=>V.int (n:Int)):=by
 cases f with
 | same t u=>exact⟨none,e,by simp[dO,ax.word],rfl,he⟩
 | less t u=>exact⟨none,e,by simp[dO,ax.word],rfl,he⟩
 | sign a t s=>exact⟨none,e,by simp[dO,ax.word],rfl,he⟩
 | alike a t c u=>exact⟨none,e,by simp[dO,ax.word],rfl,he⟩
 | no f=>exact⟨some (.ref b.no),b.no,by simp[dO,ax.word],rfl,U.no H⟩
 | and f g=>exact⟨some (.ref b.an),b.an,by simp[dO,ax.word],rfl,U.an H⟩
 | or f g=>exact⟨some (.ref b.or),b.or,by simp[dO,ax.word],rfl,U.or H⟩
 | some n f=>exact⟨some (.ref b.so),b.so,by simp[dO,ax.word],rfl,U.so H⟩
 | each n f=>exact⟨some (.ref b.ea),b.ea,by simp[dO,ax.word],rfl,U.ea H⟩
theorem bf{K:AD}{H:Hp}{xs:List V}{d:Dt}{ds:List Dt}(h:aG K H xs (d::ds)):∃y ys,xs=y::ys/\au K H y d/\aG K H ys ds:=by
 cases xs with
 | nil=>simp[aG] at h
 | cons y ys=>rw[aG] at h;exact⟨y,ys,rfl,h.1,h.2⟩
theorem hG{K:AD}{H:Hp}{x:V}{ds:List Dt}(h:au K H x (.tup ds)):∃a xs,x=.ref a/\aY K H a xs/\aG K H xs ds:=by rw[au] at h;exact h
theorem ax.isTup(f:ax):∃ds,f.dt=.tup (.str f.word::ds):=by
 cases f<;>exact⟨_,rfl⟩
theorem Y6{K:AD}{H:Hp}{x:V}(f:ax)(h:au K H x f.dt):∃a xs,x=.ref a/\aY K H a xs/\xs[0]? =some (.str f.word)/\
  ∀(i n:Nat),f.spots[i]? =some n->∃y g,xs[n]? =some y/\f.inner[i]? =some g/\au K H y g.dt:=by
 obtain⟨ds,e⟩:=f.isTup
 have h':=h
 rw[e] at h'
 obtain⟨a,xs,rfl,hq,hd⟩:=hG h'
 obtain⟨y0,ys,rfl,h0,hd1⟩:=bf hd
 clear hd
 refine⟨a,_,rfl,hq,by rw[au] at h0;rw[h0];rfl,?_⟩
 have one:∀{i n m:Nat},([m]:List Nat)[i]? =some n->i=0/\n=m:=λ{i n m} z=>by
  cases i with
  | zero=>simp at z;exact⟨rfl,z.symm⟩
  | succ i=>simp at z
 have two:∀{i n m k:Nat},([m,k]:List Nat)[i]? =some n->(i=0/\n=m)∨(i=1/\n=k):=λ{i n m k} z=>by
  match i with
  | 0=>simp at z;exact .inl ⟨rfl,z.symm⟩
  | 1=>simp at z;exact .inr ⟨rfl,z.symm⟩
  | i+2=>simp at z
 cases f with
 | same t u=>intro i n z;simp[ax.spots] at z
 | less t u=>intro i n z;simp[ax.spots] at z
 | sign b t s=>intro i n z;simp[ax.spots] at z
 | alike b t c u=>intro i n z;simp[ax.spots] at z
 | no f=>
  cases e
  obtain⟨y1,ys,rfl,h1,_⟩:=bf hd1
  intro i n z
  obtain⟨rfl,rfl⟩:=one z
  exact⟨y1,f,rfl,rfl,h1⟩
 | and f g=>
  cases e
  obtain⟨y1,ys,rfl,h1,hd2⟩:=bf hd1
  obtain⟨y2,ys,rfl,h2,_⟩:=bf hd2
  intro i n z
  rcases two z with⟨rfl,rfl⟩ | ⟨rfl,rfl⟩
  ·exact⟨y1,f,rfl,rfl,h1⟩
  ·exact⟨y2,g,rfl,rfl,h2⟩
 | or f g=>
  cases e
  obtain⟨y1,ys,rfl,h1,hd2⟩:=bf hd1
  obtain⟨y2,ys,rfl,h2,_⟩:=bf hd2
  intro i n z
  rcases two z with⟨rfl,rfl⟩ | ⟨rfl,rfl⟩
  ·exact⟨y1,f,rfl,rfl,h1⟩
  ·exact⟨y2,g,rfl,rfl,h2⟩
 | some m f=>
  cases e
  obtain⟨y1,ys,rfl,h1,hd2⟩:=bf hd1
  obtain⟨y2,ys,rfl,h2,_⟩:=bf hd2
  intro i n z
  obtain⟨rfl,rfl⟩:=one z
  exact⟨y2,f,rfl,rfl,h2⟩
 | each m f=>
  cases e
  obtain⟨y1,ys,rfl,h1,hd2⟩:=bf hd1
  obtain⟨y2,ys,rfl,h2,_⟩:=bf hd2
  intro i n z
  obtain⟨rfl,rfl⟩:=one z
  exact⟨y2,f,rfl,rfl,h2⟩
theorem xR(f:ax):f.spots.length=f.inner.length:=by cases f<;>rfl
theorem hJ(f:ax):f.inner.length<=2:=by cases f<;>simp[ax.inner]
theorem Oj(f g:ax)(h:g∈f.inner):g.deep<f.deep:=by
 cases f with
 | no f=>
  have:g=f:=by simpa[ax.inner] using h
  subst this;simp[ax.deep]
 | and f1 f2=>
  have:g=f1∨g=f2:=by simpa[ax.inner] using h
  rcases this with rfl | rfl<;>simp only[ax.deep]<;>omega
 | or f1 f2=>
  have:g=f1∨g=f2:=by simpa[ax.inner] using h
  rcases this with rfl | rfl<;>simp only[ax.deep]<;>omega
 | some n f=>
  have:g=f:=by simpa[ax.inner] using h
  subst this;simp[ax.deep]
 | each n f=>
  have:g=f:=by simpa[ax.inner] using h
  subst this;simp[ax.deep]
 | _=>simp[ax.inner] at h
theorem Ky:∀fs:List ax,Dt.iD (fs.map ax.dt)=true
 | []=>by simp[Dt.iD]
 | f::fs=>by rw[Aw,Dt.iD,Ky fs,f.gZ];rfl
def vV(K:AD):Sp:=λvs H Q _=>∃(x:V) (f:ax),vs=[x]/\au K H x f.dt/\∀(D:Addr) (xs:List V) (H':Hp),H D=none->Same H H'->H' D=some (.lst xs)->aG K H' xs (f.inner.map ax.dt)->Q (.ref D) H'
theorem vW:aN ["saying"] ["saying"] (ah dr):=⟨rfl,rfl,rfl,by decide+kernel,rfl,by decide+kernel,by decide+kernel⟩
theorem nW{a:bF}{b:lY}(T:Txt K mg a)(U:ji K w.params mg b):aR P w K mg base bh 1 a.eG a.fI ["saying"] (vV K):=by
 refine T.yp.ok vW (λvs H Q E h=>?_) (λcdv A outer s H vs Q E hr h=>?_)
 ·obtain⟨x,f,rfl,_⟩:=h
  rfl
 ·obtain⟨x,f,rfl,hf,k⟩:=h
  obtain⟨a,xs,rfl,hq,h0,hsp⟩:=Y6 f hf
  refine⟨_,(aq (aM (cz (aP.mk' (esc:=ah dr) (N:=["saying"]) (own:=["spot"]) (aI:=["saying"]) (bN:=[0]) rfl rfl (by decide+kernel)) rfl (kY (xo U.Y5 rfl U.Y4 (aA (av K) (pv 0) aj (λ_ _=>rfl)) (bx ag))) (λ_ _ _ _=>(aH (i:=0) (show Bs (["spot","saying"]:List Str) by decide+kernel) rfl (Ai rfl))) (λ_ _ _ _=>bK) (λ_ _ _ _=>(aA (av K) (pv 1) (pv 0) (λ_ _=>rfl)))))),?_⟩
  refine⟨_,rfl,a,xs,0,.str f.word,rfl,rfl,hq,ao (j:=0) h0,by decide,λe he=>?_⟩
  have s1:=Same.new (o:=.tup []) he
  obtain⟨r,p,hr1,hr2,MP⟩:=U.spots f (upd H e (.tup [])) e (.of af)
  refine⟨f.word,r,rfl,hr1,p,hr2,⟨_,MP⟩,λC hC=>?_⟩
  refine jn (xs:=f.spots.map λ(n:Nat)=>V.int (n:Int)) (λi σ H'=>∃(ys:List V) (v:Option V),σ=[v,some (.ref a)]/\Same (upd H e (.tup [])) H'/\H' C=some (.lst ys)/\aG K H' ys ((f.inner.take i).map ax.dt)/\ys.length=i)
   ⟨[],none,rfl,Same.new hC,af,fh,rfl⟩ (λi σ H' _ ⟨_,_,_,h,_⟩=>h.rY MP) ?_ ?_
  ·rintro i y σ H1 hy ⟨ys,v,rfl,s2,e2,U_,ly⟩
   rw[AJ] at hy
   cases en:f.spots[i]? with
   | none=>rw[en] at hy;cases hy
   | some n=>
    rw[en] at hy
    have ey:y=.int (n:Int):=(AN hy).symm
    subst ey
    obtain⟨z,g,hz,hg,QV⟩:=hsp i n en
    have kt:jl K H H1:=(s1.trans s2).kts
    refine⟨_,rfl,_,rfl,a,xs,_,z,rfl,rfl,kt _ _ hq,ao hz,ys,e2,?_,ys++[z],_,rfl,s2.kbn hC KB.write,af,?_,?_⟩
    ·have:i<f.spots.length:=(AF.mp en).1
     have h2:=hJ f
     rw[xR] at this
     exact AZ (show ys.length<10 by omega) (by decide)
    ·have e1:f.inner.take (i+1)=f.inner.take i++[g]:=by rw[DM,hg];rfl
     rw[e1,AW]
     have kk:jl K H1 (upd H1 C (.lst (ys++[z]))):=KB.kts e2 KB.write
     exact zO (xp kk _ _ (Ky _) U_) (bP (fO (kt.trans kk) _ _ g.gZ QV) fh)
    ·rw[AR,ly];rfl
  ·rintro σ H1 ⟨ys,v,rfl,s2,e2,U_,ly⟩
   rw[AB,xR,BQ] at U_
   exact k C ys H1 (s1.free hC) (s1.trans s2) e2 U_
def ax.terms:ax->List Term
 | .same t u=>[t,u] | .less t u=>[t,u] | .sign _ t _=>[t] | .alike _ t _ u=>[t,u] | _=>[]
def ax.hU:ax->List Nat
 | .same _ _=>[1,2] | .less _ _=>[1,2] | .sign _ _ _=>[2] | .alike _ _ _ _=>[2,4] | _=>[]
def nX(t:Term):List Str:=t.parts.map (·.1)
def ax.hV(f:ax):List Str:=f.terms.flatMap nX
def ax.binds:ax->Option Str
 | .some n _=>JY n | .each n _=>JY n | _=>H_
def ax.Free:ax->Str->Prop
 | .same t u,y=>y∈nX t∨y∈nX u
 | .less t u,y=>y∈nX t∨y∈nX u
 | .sign _ t _,y=>y∈nX t
 | .alike _ t _ u,y=>y∈nX t∨y∈nX u
 | .no f,y=>f.Free y
 | .and f g,y=>f.Free y∨g.Free y
 | .or f g,y=>f.Free y∨g.Free y
 | .some n f,y=>f.Free y/\y≠n
 | .each n f,y=>f.Free y/\y≠n
theorem oM(f:ax)(y:Str):f.Free y↔(y∈f.hV∨∃g∈f.inner,g.Free y)/\f.binds≠some y:=by
 cases f<;>simp[ax.Free,ax.hV,ax.terms,ax.inner,ax.binds]
 all_goals (intro _;constructor<;>(intro h e;exact h e.symm))
theorem o_{ss:List Str}{f:ax}(h:f.Over ss):∀t∈f.terms,iu ss t:=by
 cases f<;>simp[ax.Over,ax.terms] at h ⊢ <;>first | exact h | skip
theorem uR{ss:List Str}{f:ax}(h:f.Over ss):∀g∈f.inner,g.Over ss:=by
 cases f<;>simp[ax.Over,ax.inner] at h ⊢ <;>first | exact h | skip
theorem lZ{ss:List Str}{t:Term}(h:iu ss t){y:Str}(hy:y∈nX t):y∈ss:=by
 obtain⟨q,hq,rfl⟩:=As.mp hy
 exact h.2 q hq
theorem gP{ss:List Str}{y:Str}:∀{f:ax},f.Over ss->f.Free y->y∈ss
 | .same t u,h,hf=>hf.elim (lZ h.1) (lZ h.2)
 | .less t u,h,hf=>hf.elim (lZ h.1) (lZ h.2)
 | .sign _ t _,h,hf=>lZ (show iu ss t from h) hf
 | .alike _ t _ u,h,hf=>hf.elim (lZ h.1) (lZ h.2)
 | .no f,h,hf=>gP (f:=f) h hf
 | .and f g,h,hf=>hf.elim (gP h.1) (gP h.2)
 | .or f g,h,hf=>hf.elim (gP h.1) (gP h.2)
 | .some n f,h,hf=>gP (f:=f) h hf.1
 | .each n f,h,hf=>gP (f:=f) h hf.1
structure d_ (ks:List Str)(f:ax):Prop where
 sorted:PyProof.Rows.sortedS ks=true
 once:ks.Nodup
 mem:∀y,y∈ks↔f.Free y
theorem d_.uniq{ks ls:List Str}{f:ax}(h:d_ ks f)(g:d_ ls f):ks=ls:=rn h.sorted g.sorted h.once g.once λy=>(h.mem y).trans (g.mem y).symm
theorem d_.len{ks ss:List Str}{f:ax}(h:d_ ks f)(o:f.Over ss):ks.length<=ss.length:=gp h.once λy hy=>gP o ((h.mem y).mp hy)
theorem rH(f:ax):f.terms.length<=2:=by cases f<;>simp[ax.terms]
theorem Ol(f:ax):f.hU.length=f.terms.length:=by cases f<;>rfl
theorem o3{ss:List Str}:∀{ts:List Term},(∀t∈ts,iu ss t)->(ts.flatMap nX).length<=3*ts.length
 | [],_=>BI _
 | t::ts,h=>by
  rw[E9,AR,Aj,nX,AB]
  have h1:=(h t AQ).1
  have h2:=o3 (ts:=ts) λu hu=>h u (AM _ hu)
  omega
theorem Kz{ss:List Str}{f:ax}(h:f.Over ss):f.hV.length<=6:=by
 have h1:=o3 (o_ h)
 have h2:=rH f
 unfold ax.hV
 omega
structure m5 where
 d:Addr
 sa:Addr
 le:Addr
 si:Addr
 al:Addr
def dP(b:m5):List (Str×Option V):=
 [("same",some (.ref b.sa)),("less",some (.ref b.le)),("sign",some (.ref b.si)),("alike",some (.ref b.al)),("not",none),("and",none),("or",none),("some",none),("each",none)]
structure jP (K:AD)(pr:Hz)(mg:Str->Option Value)(b:m5):Prop where
 Y7:mg "TERM_SPOTS"=some (.ref b.d)
 Y8:nE K pr b.d (dP b)
 sa:∀H,aY K H b.sa [.int 1,.int 2]
 le:∀H,aY K H b.le [.int 1,.int 2]
 si:∀H,aY K H b.si [.int 2]
 al:∀H,aY K H b.al [.int 2,.int 4]
theorem jP.spots{K:AD}{pr:Hz}{mg:Str->Option Value}{b:m5}(U:jP K pr mg b)(f:ax)(H:Hp)(e:Addr)(he:aY K H e []):
  ∃r p,(f.word,r)∈dP b/\r.getD (.ref e)=.ref p/\aY K H p (f.hU.map λ(n:Nat)=>V.int (n:Int)):=by
 cases f with
 | same t u=>exact⟨some (.ref b.sa),b.sa,by simp[dP,ax.word],rfl,U.sa H⟩
 | less t u=>exact⟨some (.ref b.le),b.le,by simp[dP,ax.word],rfl,U.le H⟩
 | sign a t s=>exact⟨some (.ref b.si),b.si,by simp[dP,ax.word],rfl,U.si H⟩
 | alike a t c u=>exact⟨some (.ref b.al),b.al,by simp[dP,ax.word],rfl,U.al H⟩
 | no f=>exact⟨none,e,by simp[dP,ax.word],rfl,he⟩
 | and f g=>exact⟨none,e,by simp[dP,ax.word],rfl,he⟩
 | or f g=>exact⟨none,e,by simp[dP,ax.word],rfl,he⟩
 | some n f=>exact⟨none,e,by simp[dP,ax.word],rfl,he⟩
 | each n f=>exact⟨none,e,by simp[dP,ax.word],rfl,he⟩
theorem xS{K:AD}{H:Hp}{x:V}(f:ax)(h:au K H x f.dt):∃a xs,x=.ref a/\aY K H a xs/\xs[0]? =some (.str f.word)/\
  (∀(i n:Nat),f.hU[i]? =some n->∃y t,xs[n]? =some y/\f.terms[i]? =some t/\au K H y t.dt)/\∀n,f.binds=some n->xs[1]? =some (.str n):=by
 obtain⟨ds,e⟩:=f.isTup
 have h':=h
 rw[e] at h'
 obtain⟨a,xs,rfl,hq,hd⟩:=hG h'
 obtain⟨y0,ys,rfl,h0,hd1⟩:=bf hd
 clear hd
 refine⟨a,_,rfl,hq,by rw[au] at h0;rw[h0];rfl,?_⟩
 have one:∀{i n m:Nat},([m]:List Nat)[i]? =some n->i=0/\n=m:=λ{i n m} z=>by
  cases i with
  | zero=>simp at z;exact⟨rfl,z.symm⟩
  | succ i=>simp at z
 have two:∀{i n m k:Nat},([m,k]:List Nat)[i]? =some n->(i=0/\n=m)∨(i=1/\n=k):=λ{i n m k} z=>by
  match i with
  | 0=>simp at z;exact .inl ⟨rfl,z.symm⟩
  | 1=>simp at z;exact .inr ⟨rfl,z.symm⟩
  | i+2=>simp at z
 have nb:∀{P:Prop} {n:Str},(H_:Option Str)=some n->P:=λz=>nomatch z
 cases f with
 | same t u=>
  cases e
  obtain⟨y1,ys,rfl,h1,hd2⟩:=bf hd1
  obtain⟨y2,ys,rfl,h2,_⟩:=bf hd2
  refine⟨λi n z=>?_,λn z=>nb z⟩
  rcases two z with⟨rfl,rfl⟩ | ⟨rfl,rfl⟩
  ·exact⟨y1,t,rfl,rfl,h1⟩
  ·exact⟨y2,u,rfl,rfl,h2⟩
 | less t u=>
  cases e
  obtain⟨y1,ys,rfl,h1,hd2⟩:=bf hd1
  obtain⟨y2,ys,rfl,h2,_⟩:=bf hd2
  refine⟨λi n z=>?_,λn z=>nb z⟩
  rcases two z with⟨rfl,rfl⟩ | ⟨rfl,rfl⟩
  ·exact⟨y1,t,rfl,rfl,h1⟩
  ·exact⟨y2,u,rfl,rfl,h2⟩
 | sign b t s=>
  cases e
  obtain⟨y1,ys,rfl,h1,hd2⟩:=bf hd1
  obtain⟨y2,ys,rfl,h2,_⟩:=bf hd2
  refine⟨λi n z=>?_,λn z=>nb z⟩
  obtain⟨rfl,rfl⟩:=one z
  exact⟨y2,t,rfl,rfl,h2⟩
 | alike b t c u=>
  cases e
  obtain⟨y1,ys,rfl,h1,hd2⟩:=bf hd1
  obtain⟨y2,ys,rfl,h2,hd3⟩:=bf hd2
  obtain⟨y3,ys,rfl,h3,hd4⟩:=bf hd3
  obtain⟨y4,ys,rfl,h4,_⟩:=bf hd4
  refine⟨λi n z=>?_,λn z=>nb z⟩
  rcases two z with⟨rfl,rfl⟩ | ⟨rfl,rfl⟩
  ·exact⟨y2,t,rfl,rfl,h2⟩
  ·exact⟨y4,u,rfl,rfl,h4⟩
 | no f=>exact⟨λi n z=>by simp[ax.hU] at z,λn z=>nb z⟩
 | and f g=>exact⟨λi n z=>by simp[ax.hU] at z,λn z=>nb z⟩
 | or f g=>exact⟨λi n z=>by simp[ax.hU] at z,λn z=>nb z⟩
 | some m f=>
  cases e
  obtain⟨y1,ys,rfl,h1,hd2⟩:=bf hd1
  refine⟨λi n z=>by simp[ax.hU] at z,λn z=>?_⟩
  have z':m=n:=AN z
  rw[au] at h1
  rw[<-z',h1];rfl
 | each m f=>
  cases e
  obtain⟨y1,ys,rfl,h1,hd2⟩:=bf hd1
  refine⟨λi n z=>by simp[ax.hU] at z,λn z=>?_⟩
  have z':m=n:=AN z
  rw[au] at h1
  rw[<-z',h1];rfl
theorem WQ{K:AD}{H:Hp}{x:V}{t:Term}(h:au K H x t.dt):∃a p ys,x=.ref a/\aY K H a [.int t.num,.ref p]/\aY K H p ys/\aG K H ys (t.parts.map lX):=by
 obtain⟨a,xs,rfl,hq,hd⟩:=hG (show au K H x (.tup [.int t.num,.tup (t.parts.map lX)]) from h)
 obtain⟨y0,ys,rfl,h0,hd1⟩:=bf hd
 obtain⟨y1,ys,rfl,h1,hd2⟩:=bf hd1
 have e:ys=[]:=by
  have:=hd2.length
  simpa using this
 subst e
 rw[au] at h0
 subst h0
 obtain⟨p,zs,rfl,hp,hz⟩:=hG h1
 exact⟨a,p,zs,rfl,hq,hp,hz⟩
theorem TC{K:AD}{H:Hp}{x:V}{p:Str×Int}(h:au K H x (lX p)):∃a,x=.ref a/\aY K H a [.str p.1,.int p.2]:=by
 obtain⟨a,xs,rfl,hq,hd⟩:=hG (show au K H x (.tup [.str p.1,.int p.2]) from h)
 obtain⟨y0,ys,rfl,h0,hd1⟩:=bf hd
 obtain⟨y1,ys,rfl,h1,hd2⟩:=bf hd1
 have e:ys=[]:=by
  have:=hd2.length
  simpa using this
 subst e
 rw[au] at h0
 rw[au] at h1
 subst h0 h1
 exact⟨a,rfl,hq⟩
theorem eX{α:Type}{xs:List α}{i:Nat}{x:α}(h:xs[i]? =some x):xs.take (i+1)=xs.take i++[x]:=by rw[DM,h];rfl
def rJ(K:AD):Sp:=λvs H Q _=>∃(x:V) (f:ax) (ss:List Str),vs=[x]/\au K H x f.dt/\f.Over ss/\∀(D:Addr) (H':Hp),H D=none->Same H H'->H' D=some (.lst (f.hV.map V.str))->Q (.ref D) H'
theorem kc:aN ["saying","names","spot"] ["saying"] (ah dW):=⟨rfl,rfl,rfl,by decide+kernel,rfl,by decide+kernel,by decide+kernel⟩
theorem yN{a:bF}{b:m5}(T:Txt K mg a)(Y:jP K w.params mg b):aR P w K mg base bh 1 a.gx a.ib ["saying"] (rJ K):=by
 refine T.Kc.ok kc (λvs H Q E h=>?_) (λcdv A outer s H vs Q E hr h=>?_)
 ·obtain⟨x,f,ss,rfl,_⟩:=h
  rfl
 ·obtain⟨x,f,ss,rfl,hf,ov,k⟩:=h
  obtain⟨a,xs,rfl,hq,h0,hsp,_⟩:=xS f hf
  refine⟨_,(ai (az (i:=1) kc.nd rfl (Ai rfl) (eO ag))
  (ai (cp A7 rfl (kY (xo Y.Y8 rfl Y.Y7 (aA (av K) (pv 0) aj (λ_ _=>rfl)) (bx ag))) (aH (i:=2) kc.nd rfl (Ai rfl))
   (aq (cM (fq A3 DT DU p7 (pv 1) (ae (cz (aP.mk' (esc:=ah dW) (N:=["saying","names","spot"]) (own:=["part"]) (aI:=[]) (bN:=[]) rfl rfl (by decide+kernel)) rfl (kY (aA (av K) (aA (av K) (pv 0) (pv 2) (λ_ _=>rfl)) aj (λ_ _=>rfl))) (λ_ _ _ _=>(aH (i:=0) (show Bs (["part"]:List Str) by decide+kernel) rfl (Ai rfl))) (λ_ _ _ _=>bK) (λ_ _ _ _=>(aA (av K) (pv 0) aj (λ_ _=>rfl)))) ag)))))
  (aq (aM (pv 1))))),?_⟩
  refine⟨by decide,λN hN=>?_⟩
  have sN:=Same.new (o:=.lst []) hN
  refine⟨_,rfl,a,xs,0,.str f.word,rfl,rfl,sN.rY hq,ao (j:=0) h0,by decide,λe he=>?_⟩
  have s1:=sN.trans (Same.new (o:=.tup []) he)
  obtain⟨r,p,hr1,hr2,MP⟩:=Y.spots f (upd (upd H N (.lst [])) e (.tup [])) e (.of af)
  have U0:(upd (upd H N (.lst [])) e (.tup [])) N=some (.lst []):=(Same.new (o:=.tup []) he) _ _ af
  generalize upd (upd H N (.lst [])) e (.tup [])=H1 at s1 MP U0 ⊢
  refine⟨f.word,r,rfl,hr1,p,hr2,⟨_,MP⟩,L7 (xs:=f.hU.map λ(n:Nat)=>V.int (n:Int)) (λi σ H'=>∃v2:Option V,σ=[some (.ref a),some (.ref N),v2]/\KB N H1 H'/\H' N=some (.lst (((f.terms.take i).flatMap nX).map V.str)))
   ⟨none,rfl,KB.refl _ _,U0⟩ (λi σ H' _ ⟨_,_,h,e⟩=>(KB.kts U0 h) _ _ MP) ?_ ?_⟩
  ·rintro i y σ H2 hy ⟨v2,rfl,k2,eN⟩
   rw[AJ] at hy
   cases en:f.hU[i]? with
   | none=>rw[en] at hy;cases hy
   | some n=>
    rw[en] at hy
    have ey:y=.int (n:Int):=(AN hy).symm
    subst ey
    obtain⟨z,t,hz,ht,QV⟩:=hsp i n en
    have kt:jl K H H2:=s1.kts.trans (KB.kts U0 k2)
    obtain⟨ta,pa,ys,rfl,q1,q2,q3⟩:=WQ (fO kt _ _ t.gZ QV)
    have to:=o_ ov t (AI ht)
    refine⟨_,rfl,.inl ⟨rfl,_,.of eN⟩,_,rfl,_,rfl,a,xs,_,_,rfl,rfl,kt _ _ hq,ao hz,ta,_,_,_,rfl,rfl,q1,ao (j:=1) (v:=.ref pa) rfl,pa,rfl,⟨_,q2⟩,λC hC=>?_⟩
    have nNC:N≠C:=aC eN hC
    refine jn (xs:=ys) (λj σ H'=>∃v:Option V,σ=[v]/\Same H2 H'/\H' C=some (.lst (((t.parts.take j).map (·.1)).map V.str)))
     ⟨none,?sg,Same.new hC,af⟩ (λj σ H' _ ⟨_,_,s,_⟩=>s.rY q2) ?_ ?_
    case sg=>rfl
    ·rintro j y σ H3 hy ⟨v,rfl,s3,eC⟩
     obtain⟨d,ed,hd⟩:=q3.get hy
     rw[AJ] at ed
     cases ep:t.parts[j]? with
     | none=>rw[ep] at ed;cases ed
     | some pp=>
      rw[ep] at ed
      have ed':lX pp=d:=AN ed
      subst ed'
      obtain⟨qa,rfl,hqa⟩:=TC hd
      refine⟨_,rfl,qa,_,_,_,rfl,rfl,s3.rY hqa,ao (j:=0) (v:=.str pp.1) rfl,_,eC,?_,_,rfl,s3.kbn hC KB.write,?_⟩
      ·rw[AB,AB,Az]
       exact BX (show min j t.parts.length<=3 by have:=to.1;omega) (by decide)
      ·rw[af,eX ep,AW,AW];rfl
    rintro σ H3 ⟨v,rfl,s3,eC⟩
    have ly:ys.length=t.parts.length:=by rw[q3.length,AB]
    rw[ly,BQ] at eC
    have MQ:=s3 _ _ eN
    have hl1:=o3 (ts:=f.terms.take i) λu hu=>o_ ov u (CY hu)
    have hl2:(f.terms.take i).length<=2:=by rw[Az];have:=rH f;omega
    refine⟨N,C,_,_,rfl,rfl,MQ,eC,?_,_,rfl,(k2.trans s3.kb).trans KB.write,?_⟩
    ·rw[AB,AB,AB]
     exact A1 (show _<=20 by have:=to.1;omega) (by decide)
    ·rw[af,eX ht,Ib,AW]
     simp[nX]
  ·rintro σ H2 ⟨v2,rfl,k2,eN⟩
   rw[AB,Ol,BQ] at eN
   exact⟨_,rfl,k N H2 hN (s1.kbn hN k2) eN⟩
def cB(ns:List Nat):List V:=ns.map λ(n:Nat)=>V.int (n:Int)
def ax.at :ax->List Nat->Option ax
 | f,[]=>JY f
 | f,n::ns=>(f.inner[n]?).bind λg=>g.at ns
theorem QW:∀(ns:List Nat) (f g h:ax) (k:Nat),f.at ns=some g->g.inner[k]? =some h->f.at (ns++[k])=some h
 | [],f,g,h,k,e,e2=>by
  have e':f=g:=AN e
  subst e'
  show(f.inner[k]?).bind (λg=>g.at [])=some h
  rw[e2];rfl
 | n::ns,f,g,h,k,e,e2=>by
  have e':(f.inner[n]?).bind (λg=>g.at ns)=some g:=e
  obtain⟨u,eu,ea⟩:=CA.mp e'
  show(f.inner[n]?).bind (λg=>g.at (ns++[k]))=some h
  rw[eu]
  exact QW ns u g h k ea e2
def ax.size:ax->Nat
 | .no f=>f.size+1 | .and f g=>f.size+g.size+1 | .or f g=>f.size+g.size+1 | .some _ f=>f.size+1 | .each _ f=>f.size+1 | _=>1
theorem size_inner(f:ax):(f.inner.map ax.size).sum+1=f.size:=by cases f<;>simp[ax.inner,ax.size]
theorem fN:∀f:ax,f.size+1<=2 ^ (f.deep+1)
 | .same _ _=>by simp[ax.size,ax.deep]
 | .less _ _=>by simp[ax.size,ax.deep]
 | .sign _ _ _=>by simp[ax.size,ax.deep]
 | .alike _ _ _ _=>by simp[ax.size,ax.deep]
 | .no f=>by
  have:=fN f
  simp only[ax.size,ax.deep]
  rw[Cp]
  omega
 | .and f g=>by
  have h1:=fN f
  have h2:=fN g
  have a1:=BP (n:=2) (by decide) (show f.deep+1<=max f.deep g.deep+1 by omega)
  have a2:=BP (n:=2) (by decide) (show g.deep+1<=max f.deep g.deep+1 by omega)
  simp only[ax.size,ax.deep]
  rw[Cp 2 (max f.deep g.deep+1)]
  omega
 | .or f g=>by
  have h1:=fN f
  have h2:=fN g
  have a1:=BP (n:=2) (by decide) (show f.deep+1<=max f.deep g.deep+1 by omega)
  have a2:=BP (n:=2) (by decide) (show g.deep+1<=max f.deep g.deep+1 by omega)
  simp only[ax.size,ax.deep]
  rw[Cp 2 (max f.deep g.deep+1)]
  omega
 | .some n f=>by
  have:=fN f
  simp only[ax.size,ax.deep]
  rw[Cp]
  omega
 | .each n f=>by
  have:=fN f
  simp only[ax.size,ax.deep]
  rw[Cp]
  omega
abbrev Ent:=List Nat×ax
def kids(ns:List Nat):Nat->List ax->List Ent
 | _,[]=>[]
 | k,h::t=>(ns++[k],h)::kids ns (k+1) t
theorem qQ(ns:List Nat):∀(l:List ax) (k i:Nat),(kids ns k l)[i]? =(l[i]?).map λh=>(ns++[k+i],h)
 | [],k,i=>by simp[kids]
 | h::t,k,0=>rfl
 | h::t,k,i+1=>by
  rw[kids,B0,B0,qQ ns t (k+1) i,show k+1+i=k+(i+1) by omega]
theorem tM(ns:List Nat):∀(l:List ax) (k:Nat),(kids ns k l).length=l.length
 | [],_=>rfl
 | h::t,k=>by rw[kids,Aj,tM ns t,Aj]
theorem KA(ns:List Nat):∀(l:List ax) (k:Nat),((kids ns k l).map λe=>e.2.size).sum=(l.map ax.size).sum
 | [],_=>rfl
 | h::t,k=>by rw[kids,Aw,Aw,G3,G3,KA ns t]
def tN(K:AD)(H:Hp)(q:Addr)(e:Ent):Prop:=∃pl y,H q=some (.tup [.ref pl,y])/\H pl=some (.tup (cB e.1))/\au K H y e.2.dt
theorem tN.keep{K:AD}{H H':Hp}{q:Addr}{e:Ent}(h:tN K H q e)(k:bq H H')(ks:jl K H H'):tN K H' q e:=by
 obtain⟨pl,y,h1,h2,h3⟩:=h
 exact⟨pl,y,k _ _ h1,k _ _ h2,fO ks _ _ e.2.gZ h3⟩
abbrev bU (K:AD)(H:Hp):List Addr->List Ent->Prop:=BV (tN K H)
theorem bU.keep{K:AD}{H H':Hp}(k:bq H H')(ks:jl K H H'):∀{qs:List Addr} {es:List Ent},bU K H qs es->bU K H' qs es
 | _,_,.nil=>.nil
 | _,_,.cons h t=>.cons (h.keep k ks) (bU.keep k ks t)
theorem qR{K:AD}{H:Hp}{qs rs:List Addr}{es ds:List Ent}(a:bU K H qs es)(b:bU K H rs ds):bU K H (qs++rs) (es++ds):=dj a b
theorem MS{K:AD}{H:Hp}:∀{qs:List Addr} {es:List Ent} {i:Nat} {q:Addr},bU K H qs es->qs[i]? =some q->∃e,es[i]? =some e/\tN K H q e
 | _,_,_,_,.nil,h=>by simp at h
 | _,_,0,_,.cons a _,h=>by simp at h;subst h;exact⟨_,rfl,a⟩
 | _,_,i+1,_,.cons _ t,h=>by
  simp only[B0] at h ⊢
  exact MS t h
theorem KC{K:AD}{H:Hp}:∀{qs:List Addr} {es:List Ent},bU K H qs es->qs≠[]->∃U1 q es' e,qs=U1++[q]/\es=es'++[e]/\bU K H U1 es'/\tN K H q e
 | _,_,.nil,h=>absurd rfl h
 | [q],[e],.cons a .nil,_=>⟨[],q,[],e,rfl,rfl,.nil,a⟩
 | q::q2::qs,e::e2::es,.cons a (.cons b t),_=>by
  obtain⟨U1,r,es',d,e1,e3,h1,h2⟩:=KC (.cons b t) (by simp)
  exact⟨q::U1,r,e::es',d,by rw[e1];rfl,by rw[e3];rfl,.cons a h1,h2⟩
structure Ord (f:ax)(we fe:List Ent):Prop where
 here:∀e,e∈we∨e∈fe->f.at e.1=some e.2
 kid:∀(i:Nat) (ns:List Nat) (g:ax),fe[i]? =some (ns,g)->∀k h,g.inner[k]? =some h->(ns++[k],h)∈we∨∃j,i<j/\fe[j]? =some (ns++[k],h)
 root:([],f)∈we∨([],f)∈fe
theorem Ord.step{f:ax}{we fe:List Ent}{ns:List Nat}{g:ax}(o:Ord f (we++[(ns,g)]) fe):Ord f (we++kids ns 0 g.inner) (fe++[(ns,g)]) where
 here:=λe he=>by
  have hg:f.at ns=some g:=o.here (ns,g) (.inl (by simp))
  rcases he with he | he
  ·rcases A6.mp he with he | he
   ·exact o.here e (.inl (A6.mpr (.inl he)))
   ·obtain⟨i,hi⟩:=Ak he
    rw[qQ] at hi
    cases eh:g.inner[i]? with
    | none=>rw[eh] at hi;cases hi
    | some h=>
     rw[eh] at hi
     have hi':(ns++[0+i],h)=e:=AN hi
     rw[<-hi',Dh]
     exact QW ns f g h i hg eh
  ·rcases A6.mp he with he | he
   ·exact o.here e (.inr he)
   ·rw[Ad.mp he];exact hg
 kid:=λi ms u hi k h hk=>by
  by_cases lt:i<fe.length
  ·rw[Am lt] at hi
   rcases o.kid i ms u hi k h hk with z | ⟨j,hj,z⟩
   ·rcases A6.mp z with z | z
    ·exact .inl (A6.mpr (.inl z))
    ·refine .inr ⟨fe.length,lt,?_⟩
     rw[Ag (AK _),B_,Ad.mp z];rfl
   ·have hj2:=(AF.mp z).1
    exact .inr ⟨j,hj,by rw[Am hj2];exact z⟩
  ·have hl:=(AF.mp hi).1
   rw[AR] at hl
   have hl':i<fe.length+1:=hl
   have e:i=fe.length:=by omega
   subst e
   rw[Ag (AK _),B_] at hi
   have hi':(ns,g)=(ms,u):=AN hi
   cases hi'
   refine .inl (A6.mpr (.inr (AI (i:=k) ?_)))
   rw[qQ,hk,Dh];rfl
 root:=by
  rcases o.root with z | z
  ·rcases A6.mp z with z | z
   ·exact .inl (A6.mpr (.inl z))
   ·exact .inr (A6.mpr (.inr z))
  ·exact .inr (A6.mpr (.inl z))
structure Y9 (f:ax)(es:List Ent):Prop where
 here:∀e∈es,f.at e.1=some e.2
 kid:∀(i:Nat) (ns:List Nat) (g:ax),es[i]? =some (ns,g)->∀k h,g.inner[k]? =some h->∃j,j<i/\es[j]? =some (ns++[k],h)
 root:([],f)∈es
theorem Ord.late{f:ax}{fe:List Ent}(o:Ord f [] fe):Y9 f fe.reverse where
 here:=λe he=>o.here e (.inr (FO.mp he))
 kid:=λi ns g hi k h hk=>by
  have lt:i<fe.length:=by have:=(AF.mp hi).1;rwa [Bw] at this
  rw[FD lt] at hi
  rcases o.kid _ ns g hi k h hk with z | ⟨j,hj,z⟩
  ·cases z
  ·have hj2:=(AF.mp z).1
   refine⟨fe.length-1-j,by omega,?_⟩
   rw[FD (by omega),show fe.length-1-(fe.length-1-j)=j by omega]
   exact z
 root:=by
  rcases o.root with z | z
  ·cases z
  ·exact FO.mpr z
theorem MT:∀we:List Ent,we.length<=(we.map λe=>e.2.size).sum
 | []=>AK _
 | e::we=>by
  have h1:=MT we
  have h2:=size_inner e.2
  rw[Aw,G3,Aj]
  omega
theorem MU:∀(ns:List Nat) (f g:ax),f.at ns=some g->ns.length+g.deep<=f.deep
 | [],f,g,e=>by
  have e':f=g:=AN e
  subst e'
  simp
 | n::ns,f,g,e=>by
  have e':(f.inner[n]?).bind (λg=>g.at ns)=some g:=e
  obtain⟨u,eu,ea⟩:=CA.mp e'
  have h1:=MU ns u g ea
  have h2:=Oj f u (AI eu)
  rw[Aj]
  omega
theorem KG{f g:ax}{ns:List Nat}(h:f.deep<=15)(e:f.at ns=some g):ns.length<=15:=by
 have:=MU ns f g e
 omega
theorem MV{K:AD}{H:Hp}:∀{qs:List Addr} {es:List Ent},bU K H qs es->bU K H qs.reverse es.reverse
 | _,_,.nil=>.nil
 | _,_,.cons a t=>by
  rw[Dy,Dy]
  exact qR (MV t) (.cons a .nil)
def MW(K:AD):Sp:=λvs H Q _=>∃(x:V) (f:ax),vs=[x]/\au K H x f.dt/\f.deep<=15/\
 ∀(D:Addr) (qs:List Addr) (es:List Ent) (H':Hp),H D=none->Same H H'->H' D=some (.lst (qs.map V.ref))->bU K H' qs es->Y9 f es->es.length<=100000->Q (.ref D) H'
theorem KH{rs:List Addr}{i:Nat}{x:V}(h:(rs.map V.ref)[i]? =some x):∃r,x=.ref r/\rs[i]? =some r:=by
 rw[AJ] at h
 cases e:rs[i]? with
 | none=>rw[e] at h;cases h
 | some r=>rw[e] at h;exact⟨r,(AN h).symm,rfl⟩
theorem cG:aN ["saying","waiting","found","pair","number","part"] ["saying"] (ah cP):=⟨rfl,rfl,rfl,by decide+kernel,rfl,by decide+kernel,by decide+kernel⟩
theorem qV{a:bF}{b:lY}(T:Txt K mg a)(U:ji K w.params mg b):aR P w K mg base bh 2 a.dY a.fu ["saying"] (MW K):=by
 have ke:aR P w K mg base bh 1 a.eG a.fI ["saying"] (vV K):=nW T U
 refine T.sU.ok cG (λvs H Q E h=>?_) (λcdv A outer s H vs Q E hr h=>?_)
 ·obtain⟨x,f,rfl,_⟩:=h
  rfl
 ·obtain⟨x,f,rfl,hf,hdp,k⟩:=h
  have jG:aL 1 _:=hr
  refine⟨_,(ai (az (i:=1) cG.nd rfl (Ai rfl) (eO (ae (bx (ae (bx ag) (ae (pv 0) ag))) ag)))
  (ai (az (i:=2) cG.nd rfl (Ai rfl) (eO ag))
  (ai (oj A7 (gj (pv 1) (λ_=>rfl))
   (ai (az (i:=3) cG.nd rfl (Ai rfl) (XQ A3 Hr Hs XR (pv 1)))
   (ai (cM (fq A3 Ba Bb cZ (pv 2) (ae (pv 3) ag)))
   (aq (cp A7 rfl (Ml rfl T.jO (ae (aB ke jG rfl T.pM T.pN T.pO .nil aJ (ae (aA (av K) (pv 3) aj (λ_ _=>rfl)) ag)) ag)) (kX rfl (bV (aH (i:=4) cG.nd rfl (Ai rfl)) (bV (aH (i:=5) cG.nd rfl (Ai rfl)) iK)))
    (aq (cM (fq A3 Ba Bb cZ (pv 1) (ae (bx (ae (aS (rZ K) (aA (av K) (pv 3) aj (λ_ _=>rfl)) (bx (ae (pv 4) ag))) (ae (pv 5) ag))) ag)))))))))
  (aq (aM (uq K rfl rfl T.Ks rfl T.uP (ae (pv 2) ag))))))),?_⟩
  have fsz:f.size<=70000:=by
   have h1:=fN f
   have h2:=BP (n:=2) (by decide) (show f.deep+1<=16 by omega)
   have h3:(2:Nat) ^ 16=65536:=by decide
   omega
  refine⟨by decide,λe0 he0=>⟨_,rfl,by show 2<=sizeLine;decide,λq0 hq0=>⟨by show 1<=sizeLine;decide,λWt hWt=>?_⟩⟩⟩
  have s0:=Same.new (o:=.tup []) he0
  have s1:=Same.new (o:=.tup [.ref e0,x]) hq0
  have s2:=Same.new (o:=.lst [.ref q0]) hWt
  refine⟨by decide,λFo Y'=>?_⟩
  have s3:=Same.new (o:=.lst []) Y'
  have eW:=s3 _ _ (af (H:=upd (upd H e0 (.tup [])) q0 (.tup [.ref e0,x])) (a:=Wt) (o:=.lst [.ref q0]))
  have eF:(upd (upd (upd (upd H e0 (.tup [])) q0 (.tup [.ref e0,x])) Wt (.lst [.ref q0])) Fo (.lst [])) Fo=some (.lst []):=af
  have pr:tN K (upd (upd (upd (upd H e0 (.tup [])) q0 (.tup [.ref e0,x])) Wt (.lst [.ref q0])) Fo (.lst [])) q0 ([],f):=
   ⟨e0,x,s3 _ _ (s2 _ _ af),s3 _ _ (s2 _ _ (s1 _ _ af)),fO (((s0.trans s1).trans s2).trans s3).kts _ _ f.gZ hf⟩
  have sA:=((s0.trans s1).trans s2).trans s3
  have Za:Wt≠Fo:=aC af Y'
  have hW0:H Wt=none:=(s0.trans s1).free hWt
  have hF0:H Fo=none:=((s0.trans s1).trans s2).free Y'
  generalize upd (upd (upd (upd H e0 (.tup [])) q0 (.tup [.ref e0,x])) Wt (.lst [.ref q0])) Fo (.lst [])=H1 at eW eF pr sA ⊢
  refine⟨λm σ H'=>∃(ws fs:List Addr) (we fe:List Ent) (v3 v4 v5:Option V),σ=[some x,some (.ref Wt),some (.ref Fo),v3,v4,v5]/\Same H H'/\H' Wt=some (.lst (ws.map V.ref))/\H' Fo=some (.lst (fs.map V.ref))/\bU K H' ws we/\bU K H' fs fe/\Ord f we fe/\
    m=(we.map λe=>e.2.size).sum/\fe.length+(we.map λe=>e.2.size).sum<=70000,
   ⟨_,[q0],[],[([],f)],[],none,none,none,rfl,sA,eW,eF,.cons pr .nil,.nil,⟨λe he=>?_,λi ns g z=>by simp at z,.inl (by simp)⟩,rfl,by simpa using fsz⟩,?_⟩
  ·have e':e=([],f):=by simpa using he
   rw[e'];rfl
  rintro m σ H2 ⟨ws,fs,we,fe,v3,v4,v5,rfl,s2',QX,eF2,pw,pf,od,rfl,hsz⟩
  refine⟨_,rfl, !(ws.map V.ref).isEmpty,.inl ⟨_,.of QX,rfl⟩,?_⟩
  refine iB (λhne=>?_) (λhem=>?_)
  ·have wne:ws≠[]:=λz=>by subst z;simp at hne
   obtain⟨ws',q,KI,⟨ns,g⟩,rfl,rfl,pw',pq⟩:=KC pw wne
   refine⟨λσ' H'=>∃(ws fs:List Addr) (we fe:List Ent) (v3 v4 v5:Option V),σ'=[some x,some (.ref Wt),some (.ref Fo),v3,v4,v5]/\Same H H'/\H' Wt=some (.lst (ws.map V.ref))/\H' Fo=some (.lst (fs.map V.ref))/\bU K H' ws we/\bU K H' fs fe/\Ord f we fe/\
     (we.map λe=>e.2.size).sum<((KI++[(ns,g)]).map λe=>e.2.size).sum/\fe.length+(we.map λe=>e.2.size).sum<=70000,
    λσ' H' ⟨ws,fs,we,fe,v3,v4,v5,a1,a2,a3,a4,a5,a6,a7,a8,a9⟩=>⟨_,a8,ws,fs,we,fe,v3,v4,v5,a1,a2,a3,a4,a5,a6,a7,rfl,a9⟩,?_⟩
   refine⟨_,rfl,.inl ⟨rfl,_,.of QX⟩,Wt,_,.ref q,rfl,rfl,QX,by simp,?_⟩
   have dl:((ws'++[q]).map V.ref).dropLast=ws'.map V.ref:=by rw[AW];simp
   rw[dl]
   have kW:=KB.write (d:=Wt) (H:=H2) (o:=.lst (ws'.map V.ref))
   have Zb:=bq.lst (o:=.lst (ws'.map V.ref)) QX
   have Zc:=KB.kts (K:=K) QX kW
   have eW3:(upd H2 Wt (.lst (ws'.map V.ref))) Wt=some (.lst (ws'.map V.ref)):=af
   have QY:=kW _ _ eF2 Za.symm
   have pw3:=bU.keep Zb Zc pw'
   have pf3:=bU.keep Zb Zc pf
   have pq3:=pq.keep Zb Zc
   have QZ:=s2'.kbn hW0 kW
   generalize upd H2 Wt (.lst (ws'.map V.ref))=H3 at eW3 QY pw3 pf3 pq3 QZ ⊢
   have lfe:fs.length=fe.length:=Aq pf
   refine⟨_,rfl,.inl ⟨rfl,_,.of QY⟩,_,rfl,Fo,_,_,rfl,rfl,QY,?_,?_⟩
   ·rw[AB];exact BX (show fs.length<=70000 by omega) (by decide)
   have kF:=KB.write (d:=Fo) (H:=H3) (o:=.lst (fs.map V.ref++[.ref q]))
   have Zd:=bq.lst (o:=.lst (fs.map V.ref++[.ref q])) QY
   have Ze:=KB.kts (K:=K) QY kF
   have eF4:(upd H3 Fo (.lst (fs.map V.ref++[.ref q]))) Fo=some (.lst ((fs++[q]).map V.ref)):=by rw[af,AW];rfl
   have Zf:=kF _ _ eW3 Za
   have pw4:=bU.keep Zd Ze pw3
   have pf4:=bU.keep Zd Ze pf3
   have Zg:=pq3.keep Zd Ze
   have sH4:=QZ.kbn hF0 kF
   generalize upd H3 Fo (.lst (fs.map V.ref++[.ref q]))=H4 at eF4 Zf pw4 pf4 Zg sH4 ⊢
   obtain⟨pl,y,eq,MX,dy⟩:=id Zg
   refine⟨_,rfl,q,_,_,_,rfl,rfl,.of eq,ao (j:=1) (v:=y) rfl,y,g,rfl,dy,λD xs H5 hD s5 eD U2=>?_⟩
   have Q_:=s5 _ _ Zf
   have nDW:D≠Wt:=(aC Zf hD).symm
   have lx:xs.length=g.inner.length:=by rw[U2.length,AB]
   have gin:=hJ g
   refine⟨D,rfl,⟨_,.of eD⟩,zG (xs:=xs) (λi σ H'=>∃(rs:List Addr) (v4 v5:Option V),σ=[some x,some (.ref Wt),some (.ref Fo),some (.ref q),v4,v5]/\KB Wt H5 H'/\H' Wt=some (.lst ((ws'++rs).map V.ref))/\bU K H' rs ((kids ns 0 g.inner).take i))
    ⟨[],_,_,rfl,KB.refl _ _,by rw[Bg];exact Q_,.nil⟩ (λi σ H' _ ⟨_,_,_,_,h,_⟩=>.of (h _ _ eD nDW)) ?_ ?_⟩
   ·rintro i z pp σ H6 hz ⟨rs,v4,v5,rfl,k6,Zh,U3⟩ hpp
    have sp:=Same.new (o:=.tup [.int i,z]) hpp
    refine⟨pp,_,rfl,.of af,rfl,_,_,rfl,_,_,rfl,rfl,?_⟩
    obtain⟨dz,Q0,QV⟩:=U2.get hz
    rw[AJ] at Q0
    cases eh:g.inner[i]? with
    | none=>rw[eh] at Q0;cases Q0
    | some h=>
     rw[eh] at Q0
     have afp:h.dt=dz:=AN Q0
     subst afp
     have xT:bq H5 H6:=bq.kb Q_ k6
     have Q3:jl K H5 H6:=KB.kts Q_ k6
     have TF:H6 pl=some (.tup (cB ns)):=xT _ _ (s5 _ _ MX)
     have eq6:H6 q=some (.tup [.ref pl,y]):=xT _ _ (s5 _ _ eq)
     have Zi:=sp _ _ Zh
     have Zj:=fO (Q3.trans sp.kts) _ _ h.gZ QV
     have Zk:=bU.keep sp.kt sp.kts U3
     have Zl:=sp _ _ TF
     have eq7:=sp _ _ eq6
     have k7:KB Wt H5 (upd H6 pp (.tup [.int i,z])):=k6.trans sp.kb
     generalize upd H6 pp (.tup [.int i,z])=H7 at Zi Zj Zk Zl eq7 k7 ⊢
     refine⟨_,rfl,.inl ⟨rfl,_,.of Zi⟩,_,rfl,q,_,_,_,rfl,rfl,.of eq7,ao (j:=0) (v:=.ref pl) rfl,_,rfl,by show 1<=sizeLine;decide,λoo hoo=>?_⟩
     have so:=Same.new (o:=.tup [.int (i:Int)]) hoo
     have Q4:(upd H7 oo (.tup [.int (i:Int)])) oo=some (.tup [.int (i:Int)]):=af
     have done:∀(pn:Addr) (H8:Hp),Same H7 H8->H8 pn=some (.tup (cB (ns++[i])))->∀jX,H8 jX=none->
       H8 Wt=some (.lst ((ws'++rs).map V.ref))/\(∃(rs':List Addr) (v4 v5:Option V),[some x,some (.ref Wt),some (.ref Fo),some (.ref q),some (.int (i:Int)),some z]=[some x,some (.ref Wt),some (.ref Fo),some (.ref q),v4,v5]/\
        KB Wt H5 (upd (upd H8 jX (.tup [.ref pn,z])) Wt (.lst ((ws'++rs).map V.ref++[.ref jX])))/\(upd (upd H8 jX (.tup [.ref pn,z])) Wt (.lst ((ws'++rs).map V.ref++[.ref jX]))) Wt=some (.lst ((ws'++rs').map V.ref))/\
        bU K (upd (upd H8 jX (.tup [.ref pn,z])) Wt (.lst ((ws'++rs).map V.ref++[.ref jX]))) rs' ((kids ns 0 g.inner).take (i+1))):=λpn H8 s8 Zm jX tO=>by
      have eW8:=s8 _ _ Zi
      have s9:=Same.new (o:=.tup [.ref pn,z]) tO
      have eW9:=s9 _ _ eW8
      have kt9:=bq.lst (o:=.lst ((ws'++rs).map V.ref++[.ref jX])) eW9
      have ks9:jl K (upd H8 jX (.tup [.ref pn,z])) (upd (upd H8 jX (.tup [.ref pn,z])) Wt (.lst ((ws'++rs).map V.ref++[.ref jX]))):=KB.kts eW9 KB.write
      refine⟨eW8,rs++[jX],_,_,rfl,((k7.trans s8.kb).trans s9.kb).trans KB.write,?_,?_⟩
      ·rw[af];simp
      ·have ek:(kids ns 0 g.inner).take (i+1)=(kids ns 0 g.inner).take i++[(ns++[i],h)]:=eX (by rw[qQ,eh,Dh];rfl)
       rw[ek]
       refine qR (bU.keep ((s8.kt.trans s9.kt).trans kt9) ((s8.kts.trans s9.kts).trans ks9) Zk) (.cons ⟨pn,z,kt9 _ _ af,kt9 _ _ (s9 _ _ Zm),fO ((s8.kts.trans s9.kts).trans ks9) _ _ h.gZ Zj⟩ .nil)
     have lr:rs.length<=2:=by rw[Aq Zk,Az,tM];omega
     have lw:((ws'++rs).map V.ref).length<sizeLine:=by
      rw[AB,AR]
      have lw':ws'.length=KI.length:=Aq pw'
      have:KI.length<=(KI.map λe=>e.2.size).sum:=MT KI
      rw[AW,EZ] at hsz
      exact BX (show _<=80000 by omega) (by decide)
     refine⟨pl,oo,cB ns,[.int (i:Int)],rfl,rfl,.of (so _ _ Zl),.of Q4,by simp,?_,λhn=>?_,λhn pn hpn=>?_⟩
     ·have:ns.length<=15:=KG hdp (od.here (ns,g) (.inl (by simp)))
      show(cB ns).length+1<=sizeLine
      rw[cB,AB]
      exact A1 (show _<=100 by omega) (by decide)
     ·have hn':ns=[]:=by cases ns with | nil=>rfl | cons _ _=>cases hn
      subst hn'
      refine⟨_,rfl,by show 2<=sizeLine;decide,λjX tO=>?_⟩
      obtain⟨d1,d2⟩:=done oo _ so Q4 jX tO
      exact⟨Wt,_,_,rfl,rfl,(Same.new tO) _ _ d1,lw,d2⟩
     ·have spn:=Same.new (o:=.tup (cB ns++[.int (i:Int)])) hpn
      refine⟨_,rfl,by show 2<=sizeLine;decide,λjX tO=>?_⟩
      obtain⟨d1,d2⟩:=done pn _ (so.trans spn) (by rw[af,cB,cB,AW];rfl) jX tO
      exact⟨Wt,_,_,rfl,rfl,(Same.new tO) _ _ d1,lw,d2⟩
   ·rintro σ H6 ⟨rs,v4,v5,rfl,k6,Zh,U3⟩
    rw[lx,BD (by rw[tM];exact AK _)] at U3
    have xT:bq H4 H6:=s5.kt.trans (bq.kb Q_ k6)
    have Q3:jl K H4 H6:=s5.kts.trans (KB.kts Q_ k6)
    have nFW:=Za.symm
    have sz:=KA ns g.inner 0
    have sg:=size_inner g
    refine⟨ws'++rs,fs++[q],KI++kids ns 0 g.inner,fe++[(ns,g)],_,_,_,rfl,(sH4.trans s5).kbn hW0 k6,Zh,k6 _ _ (s5 _ _ eF4) nFW,qR (bU.keep xT Q3 pw4) U3,qR (bU.keep xT Q3 pf4) (.cons (Zg.keep xT Q3) .nil),od.step,?_,?_⟩
    ·rw[AW,AW,EZ,EZ,sz]
     show _<_+(g.size+0)
     omega
    ·rw[AW,EZ,sz,AR]
     rw[AW,EZ] at hsz
     have hsz':fe.length+((KI.map λe=>e.2.size).sum+(g.size+0))<=70000:=hsz
     show fe.length+1+_<=70000
     omega
  ·have wem:ws=[]:=by
    cases ws with
    | nil=>rfl
    | cons q qs=>exact absurd rfl hem
   subst wem
   have wee:we=[]:=by cases pw;rfl
   subst wee
   refine⟨_,rfl,Fo,_,rfl,.of eF2,λl hl=>?_⟩
   have sl:=Same.new (o:=.lst (fs.map V.ref).reverse) hl
   refine k l fs.reverse fe.reverse _ (s2'.free hl) (s2'.trans sl) (by rw[af,HB]) ?_ od.late (by rw[Bw];omega)
   exact MV (bU.keep sl.kt sl.kts pf)
theorem KB.afq{K:AD}{d:Addr}{kvs:List (List Key×V)}{H H':Hp}(h:H d=some (.dT kvs))(k:KB d H H'):jl K H H':=λa ys e=>by
 rcases e with(e | ⟨o,e⟩) | e
 ·exact .inl (.inl (k _ _ e (iV e h (λz=>nomatch z))))
 ·exact .inl (.inr ⟨o,k _ _ e (iV e h (λz=>nomatch z))⟩)
 ·exact .inr e
theorem bq.dT{d:Addr}{kvs:List (List Key×V)}{H H':Hp}(h:H d=some (.dT kvs))(k:KB d H H'):bq H H':=λb ys e=>k b _ e (iV e h (λz=>nomatch z))
def iw(H:Hp):List Addr->List (List Str)->Prop:=BV λr ks=>H r=some (.tup (ks.map V.str))
theorem iw.keep{H H':Hp}(k:bq H H'):∀{rs:List Addr} {bZ:List (List Str)},iw H rs bZ->iw H' rs bZ
 | _,_,.nil=>.nil
 | _,_,.cons a t=>.cons (k _ _ a) (iw.keep k t)
theorem iw.get{H:Hp}:∀{rs:List Addr} {bZ:List (List Str)} {i:Nat} {r:Addr},iw H rs bZ->rs[i]? =some r->∃ks,bZ[i]? =some ks/\H r=some (.tup (ks.map V.str))
 | _,_,_,_,.nil,h=>by simp at h
 | _,_,0,_,.cons a _,h=>by simp at h;subst h;exact⟨_,rfl,a⟩
 | _,_,i+1,_,.cons _ t,h=>by
  simp only[B0] at h ⊢
  exact iw.get t h
theorem Om(f:ax):inV (V.str f.word) [V.str "some",V.str "each"]=f.binds.isSome:=by
 have e:inV (V.str f.word) [V.str "some",V.str "each"]=decide (f.word∈[("some":Str),"each"]):=Sy f.word [("some":Str),"each"]
 rw[e]
 have w1:decide (("same":Str)∈[("some":Str),"each"])=false:=by decide+kernel
 have w2:decide (("less":Str)∈[("some":Str),"each"])=false:=by decide+kernel
 have w3:decide (("sign":Str)∈[("some":Str),"each"])=false:=by decide+kernel
 have w4:decide (("alike":Str)∈[("some":Str),"each"])=false:=by decide+kernel
 have w5:decide (("not":Str)∈[("some":Str),"each"])=false:=by decide+kernel
 have w6:decide (("and":Str)∈[("some":Str),"each"])=false:=by decide+kernel
 have w7:decide (("or":Str)∈[("some":Str),"each"])=false:=by decide+kernel
 have w8:decide (("some":Str)∈[("some":Str),"each"])=true:=by decide+kernel
 have w9:decide (("each":Str)∈[("some":Str),"each"])=true:=by decide+kernel
 cases f with
 | same t u=>exact w1
 | less t u=>exact w2
 | sign a t s=>exact w3
 | alike a t c u=>exact w4
 | no f=>exact w5
 | and f g=>exact w6
 | or f g=>exact w7
 | some n f=>exact w8
 | each n f=>exact w9
theorem qy{N:Nat}:∀{bZ:List (List Str)},(∀ks∈bZ,ks.length<=N)->bZ.flatten.length<=N*bZ.length
 | [],_=>BI _
 | ks::bZ,h=>by
  rw[List.flatten_cons,AR,Aj]
  have h1:=h ks AQ
  have h2:=qy (bZ:=bZ) λx hx=>h x (AM _ hx)
  rw[Nat.mul_succ]
  omega
def Q5(K:AD):Sp:=λvs H Q _=>∃(x:V) (f:ax) (ss:List Str) (I:Addr) (rs:List Addr) (bZ:List (List Str)),vs=[x,.ref I]/\au K H x f.dt/\f.Over ss/\ss.length<=10/\H I=some (.lst (rs.map V.ref))/\iw H rs bZ/\bZ.length=f.inner.length/\
 (∀(j:Nat) (ks:List Str) (g:ax),bZ[j]? =some ks->f.inner[j]? =some g->d_ ks g)/\∀(D:Addr) (ks:List Str) (H':Hp),H D=none->Same H H'->H' D=some (.tup (ks.map V.str))->d_ ks f->Q (.ref D) H'
theorem ix:aN ["saying","inner","names","some"] ["saying","inner"] (ah dX):=⟨rfl,rfl,rfl,by decide+kernel,rfl,by decide+kernel,by decide+kernel⟩
theorem yO{a:bF}{b:m5}(T:Txt K mg a)(Y:jP K w.params mg b):aR P w K mg base bh 2 a.gy a.ic ["saying","inner"] (Q5 K):=by
 have KJ:aR P w K mg base bh 1 a.gx a.ib ["saying"] (rJ K):=yN T Y
 refine T.Kg.ok ix (λvs H Q E h=>?_) (λcdv A outer s H vs Q E hr h=>?_)
 ·obtain⟨x,f,ss,I,rs,bZ,rfl,_⟩:=h
  rfl
 ·obtain⟨x,f,ss,I,rs,bZ,rfl,hf,ov,hss,eI,tp,lk,fr,k⟩:=h
  have yP:aL 1 _:=hr
  obtain⟨a,xs,rfl,hq,h0,_,hbd⟩:=xS f hf
  refine⟨_,(ai (az (i:=2) ix.nd rfl (Ai rfl) (aB KJ yP rfl T.Kd T.Ke T.Kf .nil aJ (ae (pv 0) ag)))
  (ai (cp A7 rfl (dJ (pv 1)) (aH (i:=3) ix.nd rfl (Ai rfl))
   (aq (cM (fq A3 DT DU (NU K) (pv 2) (ae (pv 3) ag)))))
  (ai (bW (bj (X3 K) (aA (av K) (pv 0) aj (λ_ _=>rfl)) (bx (ae eJ (ae eJ ag))) (by with_unfolding_all rfl))
   (aq (oz (i:=2) (aP.mk' (esc:=ah dX) (N:=["saying","inner","names","some"]) (own:=["name"]) (aI:=["saying"]) (bN:=[0]) rfl rfl (by decide+kernel)) rfl (dJ (pv 2)) (λ_ _ _ _=>(aH (i:=0) (show Bs (["name","saying"]:List Str) by decide+kernel) rfl (Ai rfl))) (λ_ _ _ _=>(Sk (bj i_ (pv 0) (aA (av K) (pv 1) aj (λ_ _=>rfl)) (bt _)))) (λ_ _ _ _=>(pv 0)) ix.nd rfl rfl))
   bu)
  (aq (aM (bD (bO K) (by rfl) T.dh cE (ae (aQ (zW rfl) (by rfl) T.tI p9 (ae (bD (P_ rfl) (by rfl) T.UW PB (ae (pv 2) ag)) ag)) ag))))))),?_⟩
  refine⟨_,rfl,_,f,ss,rfl,hf,ov,λN H1 hN s1 eN=>?_⟩
  have nIN:I≠N:=aC eI hN
  have lr:rs.length=bZ.length:=Aq tp
  have li:=hJ f
  have lt6:=Kz ov
  have kl:∀ks∈bZ,ks.length<=10:=λks hks=>by
   obtain⟨j,hj⟩:=Ak hks
   have hl:j<f.inner.length:=by rw[<-lk];exact(AF.mp hj).1
   have:=(fr j ks _ hj (Al hl)).len (uR ov _ (Cj hl))
   omega
  refine⟨_,rfl,I,rfl,⟨_,.of (s1 _ _ eI)⟩,iA (xs:=rs.map V.ref) (λi σ H'=>∃v3:Option V,σ=[some (.ref a),some (.ref I),some (.ref N),v3]/\KB N H1 H'/\H' N=some (.lst ((f.hV++(bZ.take i).flatten).map V.str)))
   ⟨none,rfl,KB.refl _ _,by rw[List.take_zero,List.flatten_nil,Bg];exact eN⟩ (λi σ H' _ ⟨_,_,h,_⟩=>.of (h _ _ (s1 _ _ eI) nIN)) ?_ ?_⟩
  ·rintro i y σ H2 hy ⟨v3,rfl,k2,MY⟩
   obtain⟨r,rfl,hr'⟩:=KH hy
   obtain⟨ks,eks,er⟩:=iw.get tp hr'
   have kt:bq H1 H2:=bq.kb eN k2
   have Zn:=kt _ _ (s1 _ _ er)
   have l1:=qy (N:=10) (bZ:=bZ.take i) λz hz=>kl z (CY hz)
   have l2:(bZ.take i).length<=2:=by rw[Az];omega
   have l3:=kl ks (AI eks)
   refine⟨_,rfl,.inl ⟨rfl,_,.of MY⟩,_,rfl,N,r,_,_,rfl,rfl,MY,.of Zn,?_,_,rfl,k2.trans KB.write,?_⟩
   ·rw[AB,AB,AR]
    exact A1 (show _<=100 by omega) (by decide)
   ·rw[af,eX eks,List.flatten_append,<-DN,AW]
    simp
  rintro σ H2 ⟨v3,rfl,k2,MY⟩
  rw[AB,lr,BQ] at MY
  have s2:Same H H2:=s1.kbn hN k2
  have l1:=qy kl
  have TH:∀y,y∈f.hV++bZ.flatten↔(y∈f.hV∨∃g∈f.inner,g.Free y):=λy=>by
   rw[A6,List.mem_flatten]
   constructor
   ·rintro(z | ⟨ks,hks,hy⟩)
    ·exact .inl z
    ·obtain⟨j,hj⟩:=Ak hks
     have hl:j<f.inner.length:=by rw[<-lk];exact(AF.mp hj).1
     exact .inr ⟨_,Cj hl,((fr j ks _ hj (Al hl)).mem y).mp hy⟩
   ·rintro(z | ⟨g,hg,hy⟩)
    ·exact .inl z
    ·obtain⟨j,hj⟩:=Ak hg
     have hl:j<bZ.length:=by rw[lk];exact(AF.mp hj).1
     exact .inr ⟨_,Cj hl,((fr j _ g (Al hl) hj).mem y).mpr hy⟩
  have len0:(f.hV++bZ.flatten).length<=40:=by rw[AR];omega
  generalize f.hV++bZ.flatten=U4 at MY TH len0
  dsimp only[aO]
  refine zM (t:=Nj _ _ _) (u:=Xo _) (λσ H'=>∃(L:Addr) (ls:List Str) (v3:Option V),σ=[some (.ref a),some (.ref I),some (.ref L),v3]/\Same H H'/\H' L=some (.lst (ls.map V.str))/\(∀y,y∈ls↔f.Free y)/\ls.length<=40) ?re (λrest=>?ifp)
  case re=>
   rintro σ H3 ⟨L,ls,v3,rfl,s3,eL,mem,ll⟩
   refine⟨_,rfl,L,ls,rfl,.of eL,BX (show ls.length+1<=41 by omega) (by decide),λp ks hp nd mk lk2=>?_⟩
   have qZ:∀y,y∈ks↔f.Free y:=λy=>(mk y).trans (mem y)
   have l10:ks.length<=ss.length:=gp nd λy hy=>gP ov ((qZ y).mp hy)
   have sp:=Same.new (o:=zV P w p ks) hp
   refine⟨p,ks,rfl,af,by omega,λp2 zs hp2 perm srt=>?_⟩
   have sp2:=Same.new (o:=.lst (zs.map V.str)) hp2
   refine⟨p2,_,rfl,.inl ⟨.of af,λD hD=>?_⟩⟩
   have sD:=Same.new (o:=.tup (zs.map V.str)) hD
   exact k D zs _ ((s3.trans (sp.trans sp2)).free hD) (s3.trans ((sp.trans sp2).trans sD)) af ⟨srt,perm.nodup_iff.mpr nd,λy=>perm.mem_iff.trans (qZ y)⟩
  case ifp=>
   refine⟨_,rfl,a,xs,0,.str f.word,rfl,rfl,s2.rY hq,ao (j:=0) h0,by show 2<=sizeLine;decide,λZ hZ=>⟨Z,_,rfl,.inr (.of af),rfl,rfl,_,rfl,?_⟩⟩
   have sZ:=Same.new (o:=.tup [.str "some",.str "each"]) hZ
   have s3:=s2.trans sZ
   have MQ:=sZ _ _ MY
   generalize upd H2 Z (.tup [.str "some",.str "each"])=H3 at s3 MQ ⊢
   have ew:(if false=true then !inV (V.str f.word) [V.str "some",V.str "each"] else inV (V.str f.word) [V.str "some",V.str "each"])=f.binds.isSome:=by rw[if_neg (by decide),Om]
   rw[ew]
   cases eb:f.binds with
   | none=>
    refine cN (rest _ _ ⟨N,U4,_,rfl,s3,MQ,λy=>?_,len0⟩)
    rw[TH y,oM,eb]
    simp
   | some n=>
    refine p8 ?_
    have at1:=hbd n eb
    refine⟨_,rfl,N,rfl,⟨_,.of MQ⟩,λC hC=>?_⟩
    refine iN (xs:=U4.map V.str) (λj σ H'=>∃v:Option V,σ=[v,some (.ref a)]/\Same H3 H'/\H' C=some (.lst (((U4.take j).filter λy=> !decide (y=n)).map V.str)))
     ⟨none,?sg,Same.new hC,af⟩ (λj σ H' _ ⟨_,_,s,_⟩=>.of (s _ _ MQ)) ?_ ?_
    case sg=>rfl
    ·rintro j y σ H4 hy ⟨v,rfl,s4,eC⟩
     obtain⟨z,rfl,ez⟩:=Mu hy
     have ed:decide (V.str z=V.str n)=decide (z=n):=decide_eq_decide.mpr ⟨λh=>by injection h,λh=>by rw[h]⟩
     refine⟨_,rfl,_,rfl,a,xs,1,.str n,rfl,rfl,(s3.trans s4).rY hq,ao (j:=1) at1,rfl,_,rfl,?_⟩
     rw[ed]
     refine iB (λhh=>?_) (λhh=>?_)
     ·refine⟨_,rfl,_,eC,?_,_,rfl,s4.kbn hC KB.write,?_⟩
      ·rw[AB]
       refine BX (Ht _ _) ?_
       rw[Az]
       exact BX (show min j U4.length<=40 by omega) (by decide)
      ·rw[af,eX ez,List.filter_append,AW]
       simp[hh]
     ·refine⟨_,rfl,s4,?_⟩
      have hh':(!decide (z=n))=false:=by simpa using hh
      rw[eC,eX ez,List.filter_append]
      simp[hh']
    rintro σ H4 ⟨v,rfl,s4,eC⟩
    rw[AB,BQ] at eC
    refine rest _ _ ⟨C,_,_,rfl,s3.trans s4,eC,λy=>?_,A1 (Ht _ _) len0⟩
    rw[EU,TH y,oM,eb]
    constructor
    ·rintro⟨a1,a2⟩
     exact⟨a1,λz=>by rw[<-AN z] at a2;simp at a2⟩
    ·rintro⟨a1,a2⟩
     exact⟨a1,by simpa using λz=>a2 (by rw[z])⟩
def keyOf(ns:List Nat):List Key:=ns.map λ(n:Nat)=>DK (n:Int)
theorem KL(ns:List Nat):cB ns=(keyOf ns).map kV:=by
 unfold cB keyOf
 rw[B']
 rfl
theorem MZ{ss:List Str}:∀(ns:List Nat) (f g:ax),f.Over ss->f.at ns=some g->g.Over ss
 | [],f,g,o,e=>by
  have e':f=g:=AN e
  rw[<-e'];exact o
 | n::ns,f,g,o,e=>by
  have e':(f.inner[n]?).bind (λg=>g.at ns)=some g:=e
  obtain⟨u,eu,ea⟩:=CA.mp e'
  exact MZ ns u g (uR o u (AI eu)) ea
theorem xU:∀{ns ms:List Nat},keyOf ns=keyOf ms->ns=ms
 | [],[],_=>rfl
 | [],_::_,h=>by cases h
 | _::_,[],h=>by cases h
 | n::ns,m::ms,h=>by
  have h1:(DK (n:Int):Key)=DK (m:Int):=(List.cons.inj h).1
  have h2:(n:Int)=m:=Sum.inl.inj h1
  rw[xU (List.cons.inj h).2,Int.ofNat_inj.mp h2]
def Known(H:Hp)(kvs:List (List Key×V))(es:List Ent):Prop:=∀e∈es,∃r ks,bC kvs (keyOf e.1)=some (.ref r)/\H r=some (.tup (ks.map V.str))/\d_ ks e.2
theorem Oo{H:Hp}{kvs:List (List Key×V)}{g:ax}{ns:List Nat}{es:List Ent}(kn:Known H kvs es)(hk:∀(j:Nat) (h:ax),g.inner[j]? =some h->(ns++[j],h)∈es):
  ∃(rs:List Addr) (bZ:List (List Str)),iw H rs bZ/\bZ.length=g.inner.length/\(∀(j:Nat) (u:V),(rs.map V.ref)[j]? =some u->bC kvs (keyOf (ns++[j]))=some u)/\
   ∀(j:Nat) (ks:List Str) (h:ax),bZ[j]? =some ks->g.inner[j]? =some h->d_ ks h:=by
 have all:∀n,n<=g.inner.length->∃(rs:List Addr) (bZ:List (List Str)),iw H rs bZ/\bZ.length=n/\(∀(j:Nat) (u:V),(rs.map V.ref)[j]? =some u->bC kvs (keyOf (ns++[j]))=some u)/\
   ∀(j:Nat) (ks:List Str) (h:ax),bZ[j]? =some ks->g.inner[j]? =some h->d_ ks h:=by
  intro n
  induction n with
  | zero=>exact λ_=>⟨[],[],.nil,rfl,λj u z=>by simp at z,λj ks h z=>by simp at z⟩
  | succ n ih=>
   intro hn
   obtain⟨rs,bZ,tp,lk,vs,fr⟩:=ih (by omega)
   have lrs:rs.length=bZ.length:=Aq tp
   obtain⟨h,hh⟩:∃h,g.inner[n]? =some h:=⟨_,Al hn⟩
   obtain⟨r,ks,ev,er,Q6⟩:=kn _ (hk n h hh)
   refine⟨rs++[r],bZ++[ks],dj tp (.cons er .nil),by rw[AR,lk];rfl,λj u z=>?_,λt ks' h' z1 z2=>?_⟩
   ·rw[AW] at z
    by_cases lt:j<rs.length
    ·rw[Am (by rw[AB];exact lt)] at z
     exact vs j u z
    ·have hl:=(AF.mp z).1
     rw[AR,AB] at hl
     have hl':j<rs.length+1:=hl
     have e:j=n:=by omega
     subst e
     rw[Ag (by rw[AB];omega),AB,lrs,lk,B_] at z
     have z':V.ref r=u:=AN z
     rw[<-z'];exact ev
   ·by_cases lt:t<bZ.length
    ·rw[Am lt] at z1
     exact fr t ks' h' z1 z2
    ·have hl:=(AF.mp z1).1
     rw[AR] at hl
     have hl':t<bZ.length+1:=hl
     have e:t=bZ.length:=by omega
     subst e
     rw[Ag (AK _),B_] at z1
     have z1':ks=ks':=AN z1
     rw[lk,hh] at z2
     have z2':h=h':=AN z2
     rw[<-z1',<-z2'];exact Q6
 exact all _ (AK _)
def KN(K:AD):Sp:=λvs H Q _=>∃(D pl:Addr) (y:V) (g:ax) (kvs:List (List Key×V)) (ns:List Nat) (us:List V),vs=[.ref D,.ref pl,y]/\au K H y g.dt/\H D=some (.dT kvs)/\H pl=some (.tup (cB ns))/\ns.length<=15/\us.length=g.inner.length/\
 (∀(j:Nat) (u:V),us[j]? =some u->bC kvs (keyOf (ns++[j]))=some u)/\∀(C:Addr) (H':Hp),H C=none->Same H H'->H' C=some (.lst us)->Q (.ref C) H'
def xV(K:AD):Sp:=λvs H Q _=>∃(x:V) (f:ax) (ss:List Str),vs=[x]/\au K H x f.dt/\f.deep<=15/\f.Over ss/\ss.length<=10/\
 ∀(D:Addr) (kvs:List (List Key×V)) (r:Addr) (ks:List Str) (H':Hp),Same H H'->H' D=some (.dT kvs)->bC kvs []=some (.ref r)->H' r=some (.tup (ks.map V.str))->d_ ks f->Q (.ref D) H'
def Q7(K:AD):Sp:=λvs H Q _=>∃(x:V) (f:ax) (ss:List Str),vs=[x]/\au K H x f.dt/\f.deep<=15/\f.Over ss/\ss.length<=10/\
 ∀(r:Addr) (ks:List Str) (H':Hp),Same H H'->H' r=some (.tup (ks.map V.str))->d_ ks f->Q (.ref r) H'
theorem tP:aN ["told","place","saying"] ["told","place","saying"] (ah cF):=⟨rfl,rfl,rfl,by decide+kernel,rfl,by decide+kernel,by decide+kernel⟩
theorem tQ{a:bF}{b:lY}(T:Txt K mg a)(U:ji K w.params mg b):aR P w K mg base bh 2 a.eQ a.fR ["told","place","saying"] (KN K):=by
 have ke:aR P w K mg base bh 1 a.eG a.fI ["saying"] (vV K):=nW T U
 refine T.uI.ok tP (λvs H Q E h=>?_) (λcdv A outer s H vs Q E hr h=>?_)
 ·obtain⟨D,pl,y,g,kvs,ns,us,rfl,_⟩:=h
  rfl
 ·obtain⟨D,pl,y,g,kvs,ns,us,rfl,dy,eD,MX,hns,Zo,hus,k⟩:=h
  have jG:aL 1 _:=hr
  refine⟨_,(aq (aM (cz (aP.mk' (esc:=ah cF) (N:=["told","place","saying"]) (own:=["number"]) (aI:=["told","place"]) (bN:=[0,1]) rfl rfl (by decide+kernel)) rfl (cg rfl T.cW (ae (aQ (aZ K) (by rfl) T.cA bR (ae (aB ke jG rfl T.pM T.pN T.pO .nil aJ (ae (pv 2) ag)) ag)) ag)) (λ_ _ _ _=>(aH (i:=0) (show Bs (["number","told","place"]:List Str) by decide+kernel) rfl (Ai rfl))) (λ_ _ _ _=>bK) (λ_ _ _ _=>(iM (gg hr) (pv 1) (aS (rZ K) (pv 2) (bx (ae (pv 0) ag))) (λ_ _=>rfl)))))),?_⟩
  refine⟨_,rfl,y,g,rfl,dy,λD2 xs H4 hD2 s4 afr U2=>?_⟩
  have lx:xs.length=g.inner.length:=by rw[U2.length,AB]
  refine⟨_,xs.length,rfl,.inl ⟨_,.of afr,rfl⟩,?_⟩
  have gin:=hJ g
  have eD4:=s4 _ _ eD
  have afs:=s4 _ _ MX
  refine⟨_,rfl,by omega,by omega,λC hC=>?_⟩
  refine gH (lo:=0) (λj σ H'=>∃(v:Option V),σ=[v,some (.ref D),some (.ref pl)]/\Same H4 H'/\H' C=some (.lst (us.take j)))
   ⟨none,?sg,Same.new hC,af⟩ ?_ ?_
  case sg=>rfl
  ·rintro j σ H5 hj ⟨v,rfl,s5,eC⟩
   have hj':j<us.length:=by omega
   have ej:(0:Int)+(j:Int)=(j:Int):=by omega
   obtain⟨u,hu⟩:∃u,us[j]? =some u:=⟨_,Al hj'⟩
   have ev:=hus j u hu
   have done:∀(pn:Addr) (H6:Hp),Same H5 H6->H6 pn=some (.tup (cB (ns++[j])))->∃(a:Addr) (v:V),V.ref D=.ref a/\gU H6 a (.ref pn) (some v)/\∃ys,H6 C=some (.lst ys)/\ys.length<sizeLine/\
     ∃(v':Option V),[some (V.int (0+(j:Int))),some (.ref D),some (.ref pl)]=[v',some (.ref D),some (.ref pl)]/\Same H4 (upd H6 C (.lst (ys++[v])))/\(upd H6 C (.lst (ys++[v]))) C=some (.lst (us.take (j+1))):=λpn H6 s6 Zm=>by
    have s46:=s5.trans s6
    have eC6:=s6 _ _ eC
    refine⟨D,u,rfl,.inr ⟨kvs,keyOf (ns++[j]),pn,.inl (s46 _ _ eD4),rfl,by rw[Zm,KL],ev.symm⟩,_,eC6,?_,_,rfl,s46.kbn hC KB.write,by rw[af,eX hu]⟩
    rw[Az];exact AZ (show min j us.length<10 by omega) (by decide)
   refine⟨_,rfl,_,rfl,_,rfl,by show 1<=sizeLine;decide,λoo hoo=>?_⟩
   have so:=Same.new (o:=.tup [.int (0+(j:Int))]) hoo
   have Q4:(upd H5 oo (.tup [.int (0+(j:Int))])) oo=some (.tup (cB [j])):=by rw[af,ej];rfl
   have aft:=s5 _ _ afs
   refine⟨pl,oo,cB ns,cB [j],rfl,rfl,.of (so _ _ aft),.of Q4,by simp[cB],?_,λhn=>?_,λhn pn hpn=>?_⟩
   ·rw[cB,cB,AB,AB]
    exact A1 (show _<=100 by simp;omega) (by decide)
   ·have hn':ns=[]:=by cases ns with | nil=>rfl | cons _ _=>cases hn
    have e1:cB (ns++[j])=cB [j]:=by rw[hn'];rfl
    exact done oo _ so (by rw[e1];exact Q4)
   ·exact done pn _ (so.trans (Same.new hpn)) (by rw[af,cB,cB,cB,AW])
  rintro σ H5 ⟨v,rfl,s5,eC⟩
  rw[Ae,lx,<-Zo,BQ] at eC
  exact k C H5 (s4.free hC) (s4.trans s5) eC
theorem fA:aN ["saying","names","place","part"] ["saying"] (ah cQ):=⟨rfl,rfl,rfl,by decide+kernel,rfl,by decide+kernel,by decide+kernel⟩
theorem qW{a:bF}{b:lY}{c:m5}(T:Txt K mg a)(U:ji K w.params mg b)(Y:jP K w.params mg c):aR P w K mg base bh 3 a.dZ a.fz ["saying"] (xV K):=by
 have uS:aR P w K mg base bh 2 a.eQ a.fR ["told","place","saying"] (KN K):=tQ T U
 have tR:aR P w K mg base bh 2 a.dY a.fu ["saying"] (MW K):=qV T U
 have KO:aR P w K mg base bh 2 a.gy a.ic ["saying","inner"] (Q5 K):=yO T Y
 refine T.tj.ok fA (λvs H Q E h=>?_) (λcdv A outer s H vs Q E hr h=>?_)
 ·obtain⟨x,f,ss,rfl,_⟩:=h
  rfl
 ·obtain⟨x,f,ss,rfl,hf,hdp,ov,hss,k⟩:=h
  have tS:aL 2 _:=hr
  have qX:aL 2 _:=hr
  have yQ:aL 2 _:=hr
  refine⟨_,(ai (az (i:=1) fA.nd rfl (Ai rfl) Si)
  (ai (cp A7 rfl (dJ (aB tR qX rfl T.sW T.sX T.tf .nil aJ (ae (pv 0) ag))) (kX rfl (bV (aH (i:=2) fA.nd rfl (Ai rfl)) (bV (aH (i:=3) fA.nd rfl (Ai rfl)) iK)))
   (aq (Wi (gg hr) (pv 1) (pv 2) (aB KO yQ rfl T.Kh T.Ki T.Kj .nil aJ (ae (pv 3) (ae (aB uS tS rfl T.uJ T.uK T.uL .nil aJ (ae (pv 1) (ae (pv 2) (ae (pv 3) ag)))) ag))) rfl)))
  (aq (aM (pv 1))))),?_⟩
  refine λD hD=>?_
  have sD:=Same.new (o:=.dT []) hD
  refine⟨_,rfl,x,f,rfl,fO sD.kts _ _ f.gZ hf,hdp,λL qs es H2 hL s2 eL prs late les=>?_⟩
  have Kw:H2 D=some (.dT []):=s2 _ _ af
  have nLD:L≠D:=(aC af hL).symm
  have lqs:qs.length=es.length:=Aq prs
  have sH2:=sD.trans s2
  refine⟨L,rfl,⟨_,.of eL⟩,iA (xs:=qs.map V.ref) (λi σ H'=>∃(kvs:List (List Key×V)) (v2 v3:Option V),σ=[some x,some (.ref D),v2,v3]/\KB D H2 H'/\H' D=some (.dT kvs)/\kvs.length<=i/\Known H' kvs (es.take i))
   ⟨[],none,none,rfl,KB.refl _ _,Kw,AK _,λe he=>by simp at he⟩ (λi σ H' _ ⟨_,_,_,_,h,_⟩=>.of (h _ _ eL nLD)) ?_ ?_⟩
  ·rintro i y0 σ H3 hy ⟨kvs,v2,v3,rfl,k3,U5,lkv,kn⟩
   obtain⟨q,rfl,hq⟩:=KH hy
   obtain⟨⟨ns,g⟩,he,pq⟩:=MS prs hq
   have Q8:bq H2 H3:=bq.dT Kw k3
   have ks3:jl K H2 H3:=KB.afq Kw k3
   obtain⟨pl,y,eq,MX,dy⟩:=pq.keep Q8 ks3
   have hin:=AI he
   have U6:f.at ns=some g:=late.here _ hin
   have gov:=MZ ns f g ov U6
   have hi:i<es.length:=(AF.mp he).1
   refine⟨q,_,rfl,.of eq,rfl,_,_,rfl,_,_,rfl,rfl,?_⟩
   have gin:=hJ g
   obtain⟨rs,bZ,tp,lk,vs',fr⟩:=Oo (kvs:=kvs) (H:=H3) (g:=g) (ns:=ns) (es:=es.take i) kn (λj h hh=>by
    obtain⟨j',hj2,ee⟩:=late.kid i ns g he j h hh
    exact AI (i:=j') (by rw[EN hj2];exact ee))
   have lrs:rs.length=bZ.length:=Aq tp
   refine⟨_,rfl,_,rfl,_,rfl,_,rfl,D,pl,y,g,kvs,ns,rs.map V.ref,rfl,dy,U5,MX,KG hdp U6,by rw[AB,lrs,lk],vs',λC H5 hC s5 eC=>?_⟩
   refine⟨y,g,ss,C,rs,bZ,rfl,fO s5.kts _ _ g.gZ dy,gov,hss,eC,iw.keep s5.kt tp,lk,fr,λD3 ks H6 hD3 s6 afu Q6=>?_⟩
   have U7:=s5.trans s6
   have eD6:=U7 _ _ U5
   have TF:=U7 _ _ MX
   refine⟨_,rfl,_,rfl,D,_,rfl,j_.t (k:=keyOf ns) eD6 (by rw[TF,KL]) (BX (show kvs.length<=100000 by omega) (by decide)),?_⟩
   have ktD:bq H6 (upd H6 D (.dT (putK kvs (keyOf ns) (.ref D3)))):=bq.dT eD6 KB.write
   refine⟨_,_,_,rfl,(k3.trans U7.kb).trans KB.write,af,A1 (jI _ _ _) (by omega),λe hm=>?_⟩
   rw[eX he] at hm
   by_cases ek:keyOf e.1=keyOf ns
   ·have en:=xU ek
    have eg:e.2=g:=by
     have h1:f.at e.1=some e.2:=by
      rcases A6.mp hm with z | z
      ·exact late.here e (CY z)
      ·rw[Ad.mp z];exact U6
     rw[en,U6] at h1
     exact(AN h1).symm
    exact⟨D3,ks,by rw[rV,if_pos ek],ktD _ _ afu,by rw[eg];exact Q6⟩
   ·rcases A6.mp hm with z | z
    ·obtain⟨r,ks',a1,a2,a3⟩:=kn e z
     exact⟨r,ks',by rw[rV,if_neg ek];exact a1,ktD _ _ (U7.kt _ _ a2),a3⟩
    ·exact absurd (by rw[Ad.mp z]) ek
  ·rintro σ H3 ⟨kvs,v2,v3,rfl,k3,U5,lkv,kn⟩
   rw[AB,lqs,BQ] at kn
   obtain⟨r,ks,a1,a2,a3⟩:=kn _ late.root
   exact⟨_,rfl,k D kvs r ks H3 (sH2.kbn hD k3) U5 a1 a2 a3⟩
theorem yR:aN ["saying"] ["saying"] (ah fG):=⟨rfl,rfl,rfl,by decide+kernel,rfl,by decide+kernel,by decide+kernel⟩
theorem yS{a:bF}{b:lY}{c:m5}(T:Txt K mg a)(U:ji K w.params mg b)(Y:jP K w.params mg c):aR P w K mg base bh 4 a.gA a.ie ["saying"] (Q7 K):=by
 have tT:aR P w K mg base bh 3 a.dZ a.fz ["saying"] (xV K):=qW T U Y
 refine T.Kk.ok yR (λvs H Q E h=>?_) (λcdv A outer s H vs Q E hr h=>?_)
 ·obtain⟨x,f,ss,rfl,_⟩:=h
  rfl
 ·obtain⟨x,f,ss,rfl,hf,hdp,ov,hss,k⟩:=h
  have qY:aL 3 _:=hr
  refine⟨_,(aq (aM (iM (gg hr) (aB tT qY rfl T.tu T.tD T.tE .nil aJ (ae (pv 0) ag)) (bx ag) (λ_ _=>rfl)))),?_⟩
  refine⟨_,rfl,x,f,ss,rfl,hf,hdp,ov,hss,λD kvs r ks H1 s1 eD ev er Q6=>⟨by decide,λe he=>?_⟩⟩
  have se:=Same.new (o:=.tup []) he
  exact⟨D,.ref r,rfl,.inr ⟨kvs,[],e,.inl (se _ _ eD),rfl,af,ev.symm⟩,k r ks _ (s1.trans se) (se _ _ er) Q6⟩
structure kg {α:Type}(x0:α)(on:α->Nat->α)(m:Nat)(xs:List α)(x:α)(leads:List Nat)(ys:List α):Prop where
 once:ys.Nodup
 pre:∃more,ys=xs++more
 reach:∀y∈ys,∃w,bM m w/\y=dc on x0 w
 at':∀(c t:Nat),leads[c]? =some t->ys[t]? =some (on x c)
 go:bB leads xs.length=some ys.length
theorem o4:∀(l:List Nat) (s s':Nat),bB l s=some s'->s'<=s+l.length
 | [],s,s',h=>by cases h;exact AK _
 | t::l,s,s',h=>by
  rw[bB] at h
  rw[Aj]
  split at h
  ·have:=o4 l s s' h;omega
  ·split at h
   ·have:=o4 l (s+1) s' h;omega
   ·cases h
theorem nY{α:Type}{xs more:List α}{i:Nat}{x:α}(h:xs[i]? =some x):(xs++more)[i]? =some x:=by
 rw[Am (AF.mp h).1];exact h
section
variable{α:Type}{x0:α}{on:α->Nat->α}{m:Nat}{xs ys:List α}{mv:List (List Nat)}{x:α}{leads:List Nat}
theorem cw.begin:cw x0 on m [x0] []:=⟨by simp,rfl,λx hx=>⟨[],.nil m,by rw[Ad.mp hx];rfl⟩,λi r h=>by simp at h,rfl⟩
theorem kg.start(g:cw x0 on m xs mv):kg x0 on m xs x [] xs:=⟨g.once,⟨[],by simp⟩,g.reach,λc t h=>by simp at h,rfl⟩
theorem kg.old(g:kg x0 on m xs x leads ys){t:Nat}(h:ys[t]? =some (on x leads.length)):kg x0 on m xs x (leads++[t]) ys:=by
 have ht:=(AF.mp h).1
 refine⟨g.once,g.pre,g.reach,λc u hu=>?_,?_⟩
 ·by_cases hc:c<leads.length
  ·rw[Am hc] at hu;exact g.at' c u hu
  ·have hb:=(AF.mp hu).1
   rw[AR] at hb
   have e:c=leads.length:=by simp at hb;omega
   subst e
   rw[Ag (AK _),B_] at hu
   have:=AN hu
   subst this
   exact h
 ·rw[jW,g.go]
  show bB [t] ys.length=_
  simp only[bB]
  rw[if_pos ht]
theorem kg.new(g:kg x0 on m xs x leads ys)(hm:leads.length<m)(hx:∃w,bM m w/\x=dc on x0 w)(h:on x leads.length ∉ ys):kg x0 on m xs x (leads++[ys.length]) (ys++[on x leads.length]):=by
 obtain⟨more,e⟩:=g.pre
 refine⟨?_,⟨more++[on x leads.length],by rw[e,DN]⟩,λy hy=>?_,λc u hu=>?_,?_⟩
 ·rw[Cs]
  exact⟨g.once,by simp,λa ha b hb z=>h (by rw[<-Ad.mp hb,<-z];exact ha)⟩
 ·rcases A6.mp hy with z | z
  ·exact g.reach y z
  ·rw[Ad.mp z]
   obtain⟨w,hw,ex⟩:=hx
   exact⟨w++[leads.length],hw.app (.cons hm (.nil m)),by rw[Kv,<-ex];rfl⟩
 ·by_cases hc:c<leads.length
  ·rw[Am hc] at hu;exact nY (g.at' c u hu)
  ·have hb:=(AF.mp hu).1
   rw[AR] at hb
   have e:c=leads.length:=by simp at hb;omega
   subst e
   rw[Ag (AK _),B_] at hu
   have:=AN hu
   subst this
   rw[Ag (AK _),B_];rfl
 ·rw[jW,g.go,AR]
  show bB [ys.length] ys.length=_
  simp only[bB]
  rw[if_neg (Bm _)]
  simp
theorem cw.next(g:cw x0 on m xs mv)(hx:xs[mv.length]? =some x)(r:kg x0 on m xs x leads ys)(hl:leads.length=m):cw x0 on m ys (mv++[leads]):=by
 obtain⟨more,e⟩:=r.pre
 have hlt:=(AF.mp hx).1
 refine⟨r.once,by rw[e];exact nY g.first,r.reach,λi row hr=>?_,?_⟩
 ·by_cases hi:i<mv.length
  ·rw[Am hi] at hr
   obtain⟨h1,y,h2,h3⟩:=g.row i row hr
   exact⟨h1,y,by rw[e];exact nY h2,λc t ht=>by rw[e];exact nY (h3 c t ht)⟩
  ·have hb:=(AF.mp hr).1
   rw[AR] at hb
   have ei:i=mv.length:=by simp at hb;omega
   subst ei
   rw[Ag (AK _),B_] at hr
   have:=AN hr
   subst this
   exact⟨hl,x,by rw[e];exact nY hx,r.at'⟩
 ·rw[oY,g.go]
  show(if 0+mv.length<xs.length then bB leads xs.length else none)=_
  rw[if_pos (by omega)];exact r.go
end
def kh{P:Af}{w:World}{α:Type}(R:oK P w α)(H:Hp)(vs:List V)(xs:List α):Prop:=BV (λv x=>R.Rep x v H) vs xs
section
variable{P:Af}{w:World}{α:Type}(R:oK P w α)(many:Nat)(on:α->Nat->α)(yes:α->Bool)(Ok:α->Prop)(Ev:Hp->Prop)
def vX:Sp:=λvs H Q _=>∃(x:α) (v:V) (a:Nat),vs=[v,.int a]/\R.Rep x v H/\Ok x/\a<many/\Ev H/\∀v' H',Same H H'->R.Rep (on x a) v' H'->Q v' H'
def vY:Sp:=λvs H Q _=>∃(x:α) (v:V),vs=[v]/\R.Rep x v H/\Ok x/\Ev H/\∀H',Same H H'->Q (.bl (yes x)) H'
def WR(f1 f2:Addr):Sp:=λvs H Q _=>∃(x0:α) (v0:V) (most:Nat),vs=[v0,.int many,.ref f1,.ref f2,.int most]/\R.Rep x0 v0 H/\Ok x0/\Ev H/\(most<=10000∨∀l:List α,l.Nodup->(∀x∈l,∃w,bM many w/\x=dc on x0 w)->l.length<=10000)/\many<=1000/\
 (∀(xs:List α) (H':Hp),Same H H'->xs.Nodup->(∀x∈xs,∃w,bM many w/\x=dc on x0 w)->most<xs.length->Q .non H')/\
 ∀(xs:List α) (mv:List (List Nat)) (vs:List V) (p Rr ya va:Addr) (ps:List Addr) (H':Hp),Same H H'->H Rr=none->mv.length=xs.length->xs.length<=most->cw x0 on many xs mv->H' p=some (.tup [.ref Rr,.ref ya,.ref va])->H' Rr=some (.lst vs)->kh R H' vs xs->H' ya=some (.tup ((xs.map yes).map V.bl))->H' va=some (.tup (ps.map V.ref))->cO H' ps (mv.map ak)->Q (.ref p) H'
end
theorem vZ{H:Hp}{a:Addr}{o o':HO}(h:H a=some o)(hn:∀l,o≠.tup l):bq H (upd H a o'):=λb xs e=>by
 rw[aD (iV e h λz=>hn xs z.symm)];exact e
theorem Zp{H H':Hp}{a:Addr}{o:HO}(h:H a=some o)(hn:∀l,o≠.tup l)(k:KB a H H'):bq H H':=λb xs e=>k _ _ e (iV e h λz=>hn xs z.symm)
theorem kh.keep{P:Af}{w:World}{α:Type}{R:oK P w α}{H H':Hp}{vs:List V}{xs:List α}(h:kh R H vs xs)(k:bq H H'):kh R H' vs xs:=Paired.og h λ_ _ z=>R.same z k
theorem kh.at{P:Af}{w:World}{α:Type}{R:oK P w α}{H:Hp}:∀{vs:List V} {xs:List α} {i:Nat} {x:α},kh R H vs xs->xs[i]? =some x->∃v,vs[i]? =some v/\R.Rep x v H
 | _,_,_,_,.nil,e=>by simp at e
 | _,_,0,_,.cons r _,e=>by simp at e;subst e;exact⟨_,rfl,r⟩
 | _,_,i+1,_,.cons _ t,e=>by
  simp only[B0] at e ⊢
  exact kh.at t e
theorem cx:aN ["first","many","onward","is_yes","most","rooms","numbers","moves","room","leads","letter","to","yes"] ["first","many","onward","is_yes","most"] (ah bJ):=⟨rfl,rfl,rfl,by decide+kernel,rfl,by decide+kernel,by decide+kernel⟩
set_option maxHeartbeats 16000000 in
theorem ki{a:bF}(T:Txt K mg a){α:Type}(R:oK P w α){many:Nat}{on:α->Nat->α}{yes:α->Bool}{Ok:α->Prop}{Ev:Hp->Prop}{f1 f2:Addr}{k:Nat}
  (F1:FnAt P w K mg base k f1 2 (vX R many on Ok Ev)) (F2:FnAt P w K mg base k f2 1 (vY R yes Ok Ev)) (Q9:∀x a,Ok x->a<many->Ok (on x a)) (Ra:∀H H',Ev H->Same H H'->Ev H'):
  aR P w K mg base bh (k+1) a.jc a.ia ["first","many","onward","is_yes","most"] (WR R many on yes Ok Ev f1 f2):=by
 obtain⟨o1,fd1,ps1,ho1,hf1,hl1,hb1,G1⟩:=F1
 obtain⟨o2,fd2,ps2,ho2,hf2,hl2,hb2,G2⟩:=F2
 refine T.J7.ok cx (λvs H Q E h=>?_) (λAr outer sh H vs Q E hr h=>?_)
 ·obtain⟨x0,v0,most,rfl,_⟩:=h
  rfl
 ·obtain⟨x0,v0,most,rfl,r0,k0,U8,hbm,am0,q0,q⟩:=h
  refine⟨_,(ai (az (i:=5) cx.nd rfl (Ai rfl) (eO (ae (pv 0) ag)))
  (ai (az (i:=6) cx.nd rfl (Ai rfl) (R.vD (gg hr) (pv 0) aj rfl rfl))
  (ai (az (i:=7) cx.nd rfl (Ai rfl) (eO ag))
  (ai (oj A7 (R7 Nr Uy (aQ (aZ K) (by rfl) T.cA bR (ae (pv 7) ag)) (aQ (aZ K) (by rfl) T.cA bR (ae (pv 5) ag)) (pv 4))
   (ai (az (i:=8) cx.nd rfl (Ai rfl) (aA (fb K) (pv 5) (aQ (aZ K) (by rfl) T.cA bR (ae (pv 7) ag)) (λ_ _=>rfl)))
   (ai (az (i:=9) cx.nd rfl (Ai rfl) (eO ag))
   (ai (cp A7 rfl (cg rfl T.cW (ae (pv 1) ag)) (aH (i:=10) cx.nd rfl (Ai rfl))
    (ai (az (i:=11) cx.nd rfl (Ai rfl) (zX (i:=2) G1 ho1 hf1 hr hb1 rfl (Ai rfl) (ae (pv 8) (ae (pv 10) ag))))
    (ai (bW (Xn (Qc (P:=P) (w:=w) (gg hr) (pv 11) (pv 6)) (by with_unfolding_all rfl))
     (ai (WC (P:=P) (w:=w) (gg hr) (pv 6) (pv 11) (aQ (aZ K) (by rfl) T.cA bR (ae (pv 5) ag)) rfl)
     (aq (cM (fq A3 Ba Bb cZ (pv 5) (ae (pv 11) ag)))))
     bu)
    (aq (cM (fq A3 Ba Bb cZ (pv 9) (ae (WB (P:=P) (w:=w) (gg hr) (pv 6) (pv 11) (λ_ _=>rfl)) ag)))))))
   (aq (cM (fq A3 Ba Bb cZ (pv 7) (ae (bD (bO K) (by rfl) T.dh cE (ae (pv 9) ag)) ag))))))))
  (ai (bW (bj t9 (aQ (aZ K) (by rfl) T.cA bR (ae (pv 5) ag)) (pv 4) (bt _))
   (aq (aM t_))
   bu)
  (ai (az (i:=12) cx.nd rfl (Ai rfl) (bD (bO K) (by rfl) T.dh cE (ae (cz (aP.mk' (esc:=ah bJ) (N:=["first","many","onward","is_yes","most","rooms","numbers","moves","room","leads","letter","to","yes"]) (own:=["room"]) (aI:=["is_yes"]) (bN:=[3]) rfl rfl (by decide+kernel)) rfl (dJ (pv 5)) (λ_ _ _ _=>(aH (i:=0) (show Bs (["room","is_yes"]:List Str) by decide+kernel) rfl (Ai rfl))) (λ_ _ _ _=>bK) (λ_ _ _ _=>(bD Nu (by rfl) T.QJ Mq (ae (zX (i:=1) G2 ho2 hf2 hr hb2 (by rfl) (by first | exact Ai rfl | exact DD (Ai rfl) | exact DD (DD rfl)) (ae (pv 0) ag)) ag)))) ag)))
  (aq (aM (bx (ae (pv 5) (ae (pv 12) (ae (bD (bO K) (by rfl) T.dh cE (ae (pv 7) ag)) ag)))))))))))),?_⟩
  have big:(100000:Nat)<=sizeLine:=by decide
  have U9:∀(w:List Nat) (x:α),Ok x->bM many w->Ok (dc on x w):=by
   intro w
   induction w with
   | nil=>intro x hx _;exact hx
   | cons c w ih=>intro x hx hw;exact ih _ (Q9 x c hx (hw c AQ)) λz hz=>hw z (AM _ hz)
  refine aW λY hY=>?_
  refine⟨_,rfl,by show 1<=sizeLine;omega,λRr hR=>?_⟩
  have sR:=Same.new (o:=.lst [v0]) hR
  dsimp only[aO]
  subst hY
  refine aW λY hY=>?_
  refine⟨x0,v0,rfl,R.same r0 sR.kt,λD H2 hD s2 num=>?_⟩
  have eR2:H2 Rr=some (.lst [v0]):=s2 _ _ af
  have QT:H D=none:=sR.free hD
  have DR:Rr≠D:=aC (show(upd H Rr (.lst [v0])) Rr=some (.lst [v0]) from af) hD
  dsimp only[aO]
  subst hY
  refine aW λY hY=>?_
  refine⟨by show 0<=sizeLine;omega,λM hM=>?_⟩
  have sM:=Same.new (o:=.lst []) hM
  have hM0:H M=none:=sR.free (s2.free hM)
  have MR:M≠Rr:=(aC eR2 hM).symm
  obtain⟨oD,eoD,_,_⟩:=R.isD num
  have MD:M≠D:=(aC eoD hM).symm
  have QZ:=(sR.trans s2).trans sM
  dsimp only[aO]
  subst hY
  refine xA (t:=pX _ _) (u:=zo _ _) (λσ H'=>∃(xs:List α) (mv:List (List Nat)) (vs:List V) (ps:List Addr) (v8 v9 v10 v11:Option V),σ=[some v0,some (.int (many:Nat)),some (.ref f1),some (.ref f2),some (.int (most:Nat)),some (.ref Rr),some (.ref D),some (.ref M),v8,v9,v10,v11,none]/\Same H H'/\
   H' Rr=some (.lst vs)/\kh R H' vs xs/\H' M=some (.lst (ps.map V.ref))/\cO H' ps (mv.map ak)/\cw x0 on many xs mv/\xs.length<=20000/\(xs.length<=most->mv.length=xs.length)) ?re (λY rest=>?_)
  case re=>
   rintro σ H' ⟨xs,mv,vs,ps,v8,v9,v10,v11,rfl,s',eR,rp,eM,tp,g,lx,hl⟩
   have Rb:vs.length=xs.length:=Aq rp
   have lps:ps.length=mv.length:=by rw[Aq tp,AB]
   refine aW λY hY=>?_
   refine⟨_,rfl,_,vs.length,rfl,.inl ⟨_,.of eR,rfl⟩,_,rfl,_,_,rfl,rfl,_,rfl,?_⟩
   by_cases hc:xs.length<=most
   rotate_left
   ·rw[show decide ((most:Int)<((vs.length:Nat):Int))=true from decide_eq_true (by omega)]
    exact p8 (q0 xs H' s' g.once g.reach (by omega))
   have hl:=hl hc
   rw[show decide ((most:Int)<((vs.length:Nat):Int))=false from decide_eq_false (by omega)]
   refine cN ?_
   subst hY
   dsimp only[Uu]
   refine aW λY hY=>?_
   refine⟨_,rfl,Rr,rfl,⟨_,.of eR⟩,λC hC=>?_⟩
   refine iN (xs:=vs) (λj σ H2=>∃v:Option V,σ=[v,some (.ref f2)]/\Same H' H2/\H2 C=some (.lst (((xs.take j).map yes).map V.bl)))
    ⟨none,?sg,Same.new hC,af⟩ (λj σ H2 _ ⟨_,_,s2,_⟩=>.of (s2 _ _ eR)) ?_ ?_
   case sg=>rfl
   ·rintro j y σ H2 hy ⟨v,rfl,s2,c2⟩
    have hj:j<xs.length:=by rw[<-Rb];exact(AF.mp hy).1
    have ex:xs[j]? =some xs[j]:=Al hj
    obtain⟨v',hv',rv⟩:=rp.at ex
    rw[hy] at hv'
    have hv2:=AN hv'
    subst hv2
    obtain⟨w,hw,ew⟩:=g.reach xs[j] (Cj ..)
    have okx:Ok xs[j]:=by rw[ew];exact U9 w x0 k0 hw
    refine⟨rfl,_,rfl,xs[j],y,rfl,R.same rv s2.kt,okx,Ra _ _ U8 (s'.trans s2),λH3 s3=>?_⟩
    refine .inr ⟨_,rfl,_,s3 _ _ c2,by rw[AB,AB,Az];omega,_,rfl,(s2.trans s3).kbn hC KB.write,?_⟩
    rw[af,take_snoc ex,AW,AW];rfl
   rintro σ H2 ⟨v,rfl,s2,c2⟩
   rw[Rb,BQ] at c2
   refine⟨C,_,rfl,.inl ⟨.of c2,λYa hYa=>?_⟩⟩
   have sY:=Same.new (o:=.tup ((xs.map yes).map V.bl)) hYa
   dsimp only[aO]
   subst hY
   refine⟨_,rfl,_,rfl,_,rfl,M,_,rfl,.inl ⟨.of (sY _ _ (s2 _ _ eM)),λVa hVa=>⟨by show 3<=sizeLine;omega,λp hp=>?_⟩⟩⟩
   have sV:=Same.new (o:=.tup (ps.map V.ref)) hVa
   have sP:=Same.new (o:=.tup [.ref Rr,.ref Ya,.ref Va]) hp
   have m6:=((s2.trans sY).trans sV).trans sP
   exact q xs mv vs p Rr Ya Va ps _ (s'.trans m6) hR hl hc g af (m6 _ _ eR) (rp.keep m6.kt) (sP _ _ (sV _ _ af)) (sP _ _ af) (tp.keep m6.kt)
  refine Wz (λm σ H'=>∃(xs:List α) (mv:List (List Nat)) (vs:List V) (ps:List Addr) (v8 v9 v10 v11:Option V),m=most+1-mv.length/\σ=[some v0,some (.int (many:Nat)),some (.ref f1),some (.ref f2),some (.int (most:Nat)),some (.ref Rr),some (.ref D),some (.ref M),v8,v9,v10,v11,none]/\Same H H'/\
    H' Rr=some (.lst vs)/\kh R H' vs xs/\R.Num H' D xs/\H' M=some (.lst (ps.map V.ref))/\cO H' ps (mv.map ak)/\cw x0 on many xs mv/\mv.length<=xs.length/\xs.length<=20000)
   ⟨_,[x0],[],[v0],[],none,none,none,none,rfl,rfl,QZ,sM _ _ eR2,.cons (R.same r0 QZ.kt) .nil,R.keep num (aD MD.symm),af,.nil,cw.begin,by simp,by simp⟩ ?_ ?_
  ·rintro m σ H4 N hN ⟨xs,mv,vs,ps,v8,v9,v10,v11,rfl,rfl,s4,eR,rp,nm,eM,tp,g,hl,lx⟩
   have Rb:vs.length=xs.length:=Aq rp
   have lps:ps.length=mv.length:=by rw[Aq tp,AB]
   refine⟨_,rfl,_,ps.length,rfl,.inl ⟨_,.of eM,by rw[AB]⟩,_,rfl,_,vs.length,rfl,.inl ⟨_,.of eR,rfl⟩,_,_,rfl,rfl,_,rfl,?_⟩
   by_cases hlt:mv.length<xs.length
   ·rw[show decide (((ps.length:Nat):Int)<((vs.length:Nat):Int))=true from decide_eq_true (by omega)]
    refine p8 ⟨_,rfl,_,_,rfl,rfl,_,rfl,?_⟩
    by_cases hc:xs.length<=most
    rotate_left
    ·rw[show decide (((vs.length:Nat):Int)<=((most:Nat):Int))=false from decide_eq_false (by omega)]
     refine cN ?_
     exact rest _ _ ⟨xs,mv,vs,ps,v8,v9,v10,v11,rfl,s4,eR,rp,eM,tp,g,lx,λz=>absurd z hc⟩
    rw[show decide (((vs.length:Nat):Int)<=((most:Nat):Int))=true from decide_eq_true (by omega)]
    refine p8 ?_
    refine aW λY hY=>?_
    obtain⟨x,ex⟩:∃x,xs[mv.length]? =some x:=⟨_,Al hlt⟩
    obtain⟨vx,hvx,rx⟩:=rp.at ex
    have Zq:=g.reach x (AI ex)
    have okx:Ok x:=by obtain⟨w,hw,ew⟩:=Zq;rw[ew];exact U9 w x0 k0 hw
    refine⟨_,rfl,_,rfl,_,ps.length,rfl,.inl ⟨_,.of eM,by rw[AB]⟩,Rr,_,_,vx,rfl,rfl,.of eR,ao (by rw[lps];exact hvx),?_⟩
    dsimp only[aO]
    subst hY
    refine aW λY hY=>?_
    refine⟨by show 0<=sizeLine;omega,λL hL=>?_⟩
    have sL:=Same.new (o:=.lst []) hL
    have hL0:H L=none:=s4.free hL
    have LR:L≠Rr:=(aC eR hL).symm
    have LM:L≠M:=(aC eM hL).symm
    obtain⟨oD4,afv,_,_⟩:=R.isD nm
    have LD:L≠D:=(aC afv hL).symm
    dsimp only[aO]
    subst hY
    refine aW λY hY=>?_
    refine⟨_,rfl,_,rfl,by omega,by omega,i6 (n:=(many:Int).toNat) (λj σ H'=>∃(ys:List α) (us:List V) (leads:List Nat) (v10 v11:Option V),σ=[some v0,some (.int (many:Nat)),some (.ref f1),some (.ref f2),some (.int (most:Nat)),some (.ref Rr),some (.ref D),some (.ref M),some vx,some (.ref L),v10,v11,none]/\Same H H'/\bq H4 H'/\
      H' Rr=some (.lst us)/\kh R H' us ys/\R.Num H' D ys/\H' M=some (.lst (ps.map V.ref))/\H' L=some (.lst ((ak leads).map V.int))/\leads.length=j/\kg x0 on many xs x leads ys)
     ⟨xs,vs,[],v10,v11,rfl,s4.trans sL,sL.kt,sL _ _ eR,rp.keep sL.kt,R.keep nm (aD LD.symm),sL _ _ eM,af,rfl,kg.start g⟩ ?_ ?_⟩
    ·rintro j σ H5 N2 M_ hj ⟨ys,us,leads,v10,v11,rfl,s5,U',Vb,Vc,Rc,Rf,Zr,ll,gr⟩
     have ej:(0:Int)+(j:Int)=((j:Nat):Int):=by omega
     rw[ej]
     have YC:j<many:=by omega
     have ly:=o4 _ _ _ gr.go
     have h10:xs.length<=10000:=hbm.elim (λz=>A1 hc z) λz=>z xs g.once g.reach
     have Zo:us.length=ys.length:=Aq Vc
     dsimp only[aO]
     refine aW λY hY=>?_
     refine⟨rfl,_,rfl,_,rfl,x,vx,j,rfl,R.same rx U',okx,YC,Ra _ _ U8 s5,λto H6 s6 Rg=>?_⟩
     have Zs:=s6 _ _ Vb
     have Rh:=s6 _ _ Rf
     have eL6:=s6 _ _ Zr
     have rp6:=Vc.keep s6.kt
     obtain⟨oD5,KP,nD1,nD2⟩:=R.isD Rc
     have Vd:=R.keep Rc ((s6 _ _ KP).trans KP.symm)
     have afw:=s6 _ _ KP
     have xT:bq H4 H6:=λb l z=>s6 _ _ (U' _ _ z)
     have sH6:=s5.trans s6
     dsimp only[aO]
     subst hY
     refine xA (t:=Nj _ _ _) (u:=Uv _) (λσ H'=>∃(zs:List α) (ws:List V) (t:Nat),σ=[some v0,some (.int (many:Nat)),some (.ref f1),some (.ref f2),some (.int (most:Nat)),some (.ref Rr),some (.ref D),some (.ref M),some vx,some (.ref L),some (.int (j:Nat)),some to,none]/\Same H H'/\bq H6 H'/\
      H' Rr=some (.lst ws)/\kh R H' ws zs/\R.Num H' D zs/\H' M=some (.lst (ps.map V.ref))/\H' L=some (.lst ((ak leads).map V.int))/\zs[t]? =some (on x j)/\kg x0 on many xs x (leads++[t]) zs) ?re2 (λY Ve=>?_)
     case re2=>
      rintro σ H7 ⟨zs,ws,t,rfl,s7,M0,Ri,Rj,Vf,eM7,Zt,hz,gr7⟩
      refine⟨_,rfl,Ai ⟨rfl,_,.of Zt⟩,_,rfl,_,rfl,D,_,rfl,R.there Vf (R.same Rg M0) gr7.once hz,L,_,_,rfl,rfl,Zt,by rw[AB,a_];omega,?_⟩
      have kL:bq H7 (upd H7 L (.lst ((ak leads).map V.int++[.int (t:Nat)]))):=vZ Zt (λl z=>nomatch z)
      refine M_ _ _ ⟨zs,ws,leads++[t],_,_,rfl,s7.kbn hL0 KB.write,λb l z=>kL _ _ (M0 _ _ (xT _ _ z)),by rw[aD LR.symm];exact Ri,Rj.keep kL,R.keep Vf (aD LD.symm),by rw[aD LM.symm];exact eM7,?_,by rw[AR,ll];rfl,gr7⟩
      rw[af,eV,AW];rfl
     by_cases hm:on x j∈ys
     ·obtain⟨i,hi⟩:=Ak hm
      refine⟨_,rfl,_,rfl,D,_,rfl,R.there Vd Rg gr.once hi,_,rfl,?_⟩
      refine cN ?_
      exact Ve _ _ ⟨ys,us,i,rfl,sH6,λ_ _ z=>z,Zs,rp6,Vd,Rh,eL6,hi,gr.old (by rw[ll];exact hi)⟩
     ·refine⟨_,rfl,_,rfl,D,_,rfl,R.miss Vd Rg hm,_,rfl,?_⟩
      refine p8 ?_
      obtain⟨H7,afx,Rk,Vf⟩:=R.put Vd Rg hm (by omega)
      have gr':=gr.new (by omega) Zq (by rw[ll];exact hm)
      rw[ll] at gr'
      have Ri:=Rk _ _ Zs DR
      refine⟨_,rfl,_,us.length,rfl,.inl ⟨_,.of Zs,rfl⟩,_,rfl,_,rfl,D,H7,rfl,by rw[Zo];exact afx,?_⟩
      refine⟨_,rfl,Ai ⟨rfl,_,.of Ri⟩,_,rfl,Rr,_,_,rfl,rfl,Ri,by omega,?_⟩
      have M0:bq H6 H7:=Zp afw nD2 Rk
      have kR:bq H7 (upd H7 Rr (.lst (us++[to]))):=vZ Ri (λl z=>nomatch z)
      have Zu:bq H6 (upd H7 Rr (.lst (us++[to]))):=λb l z=>kR _ _ (M0 _ _ z)
      refine Ve _ _ ⟨ys++[on x j],us++[to],ys.length,rfl,(sH6.kbn QT Rk).kbn hR KB.write,Zu,af,?_,R.keep Vf (aD DR.symm),by rw[aD MR];exact Rk _ _ Rh MD,by rw[aD LR];exact Rk _ _ eL6 LD,by rw[Ag (AK _),B_];rfl,gr'⟩
      exact m4 (rp6.keep Zu) (R.same Rg Zu)
    ·rintro σ H5 ⟨ys,us,leads,v10,v11,rfl,s5,U',Vb,Vc,Rc,Rf,Zr,ll,gr⟩
     subst hY
     have ll2:leads.length=many:=by rw[ll];omega
     have g2:=g.next ex gr ll2
     have ly:=o4 _ _ _ gr.go
     have h10:xs.length<=10000:=hbm.elim (λz=>A1 hc z) λz=>z xs g.once g.reach
     obtain⟨more,acm⟩:=gr.pre
     have lxy:xs.length<=ys.length:=by rw[acm,AR];omega
     refine⟨_,rfl,Ai ⟨rfl,_,.of Rf⟩,_,rfl,L,_,rfl,.inl ⟨.of Zr,λt ht=>?_⟩⟩
     have sT:=Same.new (o:=.tup ((ak leads).map V.int)) ht
     have nMt:M≠t:=aC Rf ht
     have nRt:Rr≠t:=aC Vb ht
     obtain⟨oD5,KP,nD1,nD2⟩:=R.isD Rc
     have nDt:D≠t:=aC KP ht
     have Rh:=sT _ _ Rf
     refine⟨M,_,_,rfl,rfl,Rh,by rw[AB];omega,?_⟩
     have kM:bq (upd H5 t (.tup ((ak leads).map V.int))) (upd (upd H5 t (.tup ((ak leads).map V.int))) M (.lst (ps.map V.ref++[.ref t]))):=vZ Rh (λl z=>nomatch z)
     have kA:bq H5 (upd (upd H5 t (.tup ((ak leads).map V.int))) M (.lst (ps.map V.ref++[.ref t]))):=λb l z=>kM _ _ (sT.kt _ _ z)
     refine hN _ _ _ ?_ ⟨ys,mv++[leads],us,ps++[t],_,_,_,_,rfl,rfl,(s5.trans sT).kbn hM0 KB.write,by rw[aD MR.symm];exact sT _ _ Vb,Vc.keep kA,R.keep Rc (by rw[aD MD.symm,aD nDt]),by rw[af,AW];rfl,?_,g2,by rw[AR];simp;omega,by omega⟩
     ·rw[AR];simp;omega
     ·rw[AW]
      exact m4 ((tp.keep U').keep kA) (by rw[aD nMt.symm,af])
   ·have e:mv.length=xs.length:=by omega
    rw[show decide (((ps.length:Nat):Int)<((vs.length:Nat):Int))=false from decide_eq_false (by omega)]
    refine cN ⟨_,rfl,cN ?_⟩
    exact rest _ _ ⟨xs,mv,vs,ps,v8,v9,v10,v11,rfl,s4,eR,rp,eM,tp,g,lx,λ_=>e⟩
  ·rintro σ H Q Q' h ⟨v,e1,v2,n1,e2,l1,v3,e3,v4,n2,e4,l2,i,j,e5,e6,k,e7,z⟩
   refine⟨v,e1,v2,n1,e2,l1,v3,e3,v4,n2,e4,l2,i,j,e5,e6,k,e7,?_⟩
   cases k with
   | false=>
    rw[if_neg An] at z ⊢
    obtain⟨k',e8,q⟩:=z
    exact⟨k',e8,h _ _ q⟩
   | true=>
    rw[if_pos rfl] at z ⊢
    obtain⟨v5,e9,i2,j2,e10,X0,k2,e12,q⟩:=z
    exact⟨v5,e9,i2,j2,e10,X0,k2,e12,h _ _ q⟩
def TJ(P:Af)(w:World)(K:AD)(mg:Str->Option Value)(base:Heap)(k:Nat):Sp:=λvs H Q _=>∃(b most:Nat) (nm g:Addr) (ss:List Str) (α:Type) (R:oK P w α) (on:α->Nat->α) (yes:α->Bool) (Ok:α->Prop) (Ev:Hp->Prop) (x0:α) (v0:V) (f1 f2:Addr) (D:List Addr),
 vs=[.int b,.ref nm,.ref g,.int most]/\b<=4/\ss.length<=4/\H nm=some (.tup (ss.map V.str))/\H g=some (.tup [v0,.ref f1,.ref f2])/\(∀a∈D,∃φ,H a=some (.ext φ))/\
 jt P w K mg base H D k f1 2 (vX R (b ^ ss.length) on Ok Ev)/\jt P w K mg base H D k f2 1 (vY R yes Ok Ev)/\(∀x a,Ok x->a<b ^ ss.length->Ok (on x a))/\(∀H H',Ev H->Same H H'->Ev H')/\
 (∀D H,(∀a∈D,∃φ,H a=some (.ext φ))->Ev H->Ev (dk D H))/\R.Rep x0 v0 H/\Ok x0/\Ev H/\most<=10000/\(∀(xs:List α) (H':Hp),Same H H'->xs.Nodup->(∀x∈xs,∃w,bM (b ^ ss.length) w/\x=dc on x0 w)->most<xs.length->Q .non H')/\
 ∀(xs:List α) (mv:List (List Nat)) (p:Addr) (H':Hp),Same H H'->mv.length=xs.length->xs.length<=most->cw x0 on (b ^ ss.length) xs mv->QR H' p nm (xs.map yes) mv->Q (.ref p) H'
theorem kj:aN ["base","names","growth","most","many","grown"] ["base","names","growth","most"] (ah fF):=⟨rfl,rfl,rfl,by decide+kernel,rfl,by decide+kernel,by decide+kernel⟩
theorem yT{a:bF}(T:Txt K mg a)(k:Nat):aR P w K mg base bh (k+2) a.jd a.j7 ["base","names","growth","most"] (TJ P w K mg base k):=by
 have km:=nV (P:=P) (w:=w) (base:=base) T
 refine T.J8.ok kj (λvs H Q E h=>?_) (λcdv A outer s H vs Q E hr h=>?_)
 ·obtain⟨b,most,nm,g,ss,α,R,on,yes,Ok,Ev,x0,v0,f1,f2,D,rfl,_⟩:=h
  rfl
 ·obtain⟨b,most,nm,g,ss,α,R,on,yes,Ok,Ev,x0,v0,f1,f2,D,rfl,hb4,hs4,Rm,eg,hD,F1,F2,Q9,Ra,evU,r0,ok0,U8,hbm,q0,q⟩:=h
  have jH:aL 1 _:=hr.mono (by omega)
  have md:aL (k+1) _:=hr
  refine⟨_,(ai (az (i:=4) kj.nd rfl (Ai rfl) (aQ (aZ K) (by rfl) T.cA bR (ae (aB km jH rfl T.pJ T.pK T.pL .nil aJ (ae (pv 0) (ae (aQ (aZ K) (by rfl) T.cA bR (ae (pv 1) ag)) ag))) ag)))
  (ai (az (i:=5) kj.nd rfl (Ai rfl) (r9 (λ_=>rfl) md rfl T.lT T.lU T.lV (ae (aA (av K) (pv 2) aj (λ_ _=>rfl)) (ae (pv 4) (ae (aA (av K) (pv 2) aj (λ_ _=>rfl)) (ae (aA (av K) (pv 2) aj (λ_ _=>rfl)) (ae (pv 3) ag)))))))
  (ai (bW (bj Xy (pv 5) t_ (bt _))
   (aq (aM t_))
   bu)
  (aq (aM (bx (ae (pv 1) (ae (aA (av K) (pv 5) aj (λ_ _=>rfl)) (ae (aA (av K) (pv 5) aj (λ_ _=>rfl)) ag))))))))),?_⟩
  have big:(10000:Nat)<=sizeLine:=by decide
  have hB:b ^ ss.length<=256:=mO hb4 hs4
  refine⟨_,rfl,_,rfl,_,ss.length,rfl,.inr ⟨_,.of Rm,by rw[AB]⟩,b,ss.length,rfl,hb4,hs4,λD0 xW H1 QT s1 e1 t1=>?_⟩
  refine⟨_,b ^ ss.length,rfl,.inl ⟨_,.of e1,by rw[AB,Aq t1,jE]⟩,?_⟩
  dsimp only[aO]
  have Zv:=s1 _ _ eg
  refine⟨_,rfl,g,_,_,v0,rfl,rfl,.of Zv,ao (j:=0) rfl,_,rfl,_,rfl,g,_,_,.ref f1,rfl,rfl,.of Zv,ao (j:=1) rfl,_,rfl,g,_,_,.ref f2,rfl,rfl,.of Zv,ao (j:=2) rfl,_,rfl,?_⟩
  have hD1:∀a∈D,∃φ,H1 a=some (.ext φ):=λa ha=>let ⟨φ,e⟩:=hD a ha;⟨φ,s1 _ _ e⟩
  refine⟨D,hD1,λbase' W=>?_⟩
  have F1':=(F1.same λb φ _ e=>s1 _ _ e) base' W.b
  have F2':=(F2.same λb φ _ e=>s1 _ _ e) base' W.b
  refine⟨_,ki (k:=k) T R F1' F2' Q9 Ra,?_⟩
  have ktu:bq H1 (dk D H1):=λb xs z=>lC hD1 z (λ_ y=>nomatch y)
  refine⟨x0,v0,most,rfl,R.same (R.same r0 s1.kt) ktu,ok0,evU D H1 hD1 (Ra _ _ U8 s1),.inl hbm,by omega,λxs H2 s2 nd rc lt n2=>?_,λxs mv vs p Rr ya va ps H2 s2 hRr hl M1 gr ep _ _ ey ev tp n2=>?_⟩
  ·have m6:=s1.trans (mE s2)
   generalize fB D H1 H2=H3 at m6 ⊢
   dsimp only[aO]
   refine⟨_,rfl,rfl,_,rfl,?_⟩
   exact iB (λ_=>q0 xs H3 m6 nd rc lt) (λz=>absurd rfl z)
  have s3:=mE s2
  have o2:∀{b:Addr} {o:HO},H2 b=some o->fB D H1 H2 b=some o:=λ{b o} e=>by
   rw[dS λz=>?_]
   ·exact e
   ·rw[n2 b z] at e;cases e
  have Zw:=o2 ep
  have ey3:=o2 ey
  have ev3:=o2 ev
  have tp3:=tp.keep (show bq H2 (fB D H1 H2) from λb xs z=>o2 z)
  have m6:=s1.trans s3
  generalize fB D H1 H2=H3 at s3 Zw ey3 ev3 tp3 m6 ⊢
  dsimp only[aO]
  refine⟨_,rfl,rfl,_,rfl,?_⟩
  refine iB (λz=>absurd z (by simp)) (λ_=>?_)
  refine⟨_,rfl,_,rfl,p,_,_,.ref ya,rfl,rfl,.of Zw,ao (j:=1) rfl,_,rfl,p,_,_,.ref va,rfl,rfl,.of Zw,ao (j:=2) rfl,by show 3<=sizeLine;decide,λm hm=>?_⟩
  have sm:=Same.new (o:=.tup [.ref nm,.ref ya,.ref va]) hm
  exact q xs mv m _ (m6.trans sm) hl M1 gr ⟨ya,va,ps,af,sm _ _ ey3,sm _ _ ev3,tp3.keep sm.kt⟩
def jj(H:Hp)(a:Addr)(t:Term):Prop:=∃(b:Addr) (ps:List Addr),H a=some (.tup [.int t.num,.ref b])/\H b=some (.tup (ps.map V.ref))/\BV (λ(p:Addr) (q:Str×Int)=>H p=some (.tup [.str q.1,.int q.2])) ps t.parts
theorem jj.keep{H H':Hp}{a:Addr}{t:Term}(h:jj H a t)(k:bq H H'):jj H' a t:=by
 obtain⟨b,ps,h1,h2,h3⟩:=h
 exact⟨b,ps,k _ _ h1,k _ _ h2,Paired.og h3 λ_ _ z=>k _ _ z⟩
def qz(n:Str):List (Str×Int)->Int->Int
 | [],d=>d
 | p::ps,d=>qz n ps (if n=p.1 then p.2 else d)
def Term.at(t:Term)(n:Str):Int:=qz n t.parts 0
def o5(p:Str×Int):Key×V:=(Bv p.1,.int p.2)
theorem uT(n:Str):∀(ps:List (Str×Int)) (kvs:List (Key×V)) (d:Int),(bC kvs (Bv n)).getD (.int 0)=.int d->(bC (c_ kvs (ps.map o5)) (Bv n)).getD (.int 0)=.int (qz n ps d)
 | [],kvs,d,h=>h
 | p::ps,kvs,d,h=>by
  show(bC (c_ (putK kvs (Bv p.1) (.int p.2)) (ps.map o5)) (Bv n)).getD (.int 0)=_
  refine uT n ps _ _ ?_
  rw[rV]
  by_cases e:n=p.1
  ·rw[if_pos (by rw[e]),if_pos e];rfl
  ·rw[if_neg (λz=>e (Sum.inr.inj z)),if_neg e];exact h
theorem Term.Zx(t:Term)(n:Str):(bC (c_ [] (t.parts.map o5)) (Bv n)).getD (.int 0)=.int (t.at n):=uT n t.parts [] 0 rfl
def WS:Sp:=λvs H Q _=>∃(a nm:Addr) (t:Term) (ss:List Str),vs=[.ref a,.ref nm]/\jj H a t/\t.parts.length<=100/\H nm=some (.tup (ss.map V.str))/\ss.length<=100/\∀(D:Addr) (H':Hp),H D=none->Same H H'->H' D=some (.lst ((ss.map t.at).map V.int))->Q (.ref D) H'
theorem rK:aN ["term","names","times"] ["term","names"] (ah fQ):=⟨rfl,rfl,rfl,by decide+kernel,rfl,by decide+kernel,by decide+kernel⟩
theorem LV{a:bF}(T:Txt K mg a):aR P w K mg base bh 1 a.kK a.mW ["term","names"] WS:=by
 refine T.Od.ok rK (λvs H Q E h=>?_) (λcdv A outer s H vs Q E hr h=>?_)
 ·obtain⟨ta,nm,t,ss,rfl,_⟩:=h
  rfl
 ·obtain⟨ta,nm,t,ss,rfl,⟨b,ps,e1,e2,e3⟩,lp,en,ls,k⟩:=h
  refine⟨_,(ai (az (i:=2) rK.nd rfl (DD rfl) (bD (N1 hr.hd) (by rfl) T.YW Wk (ae (aA (av K) (pv 0) aj (λ_ _=>rfl)) ag)))
  (aq (aM (cz (aP.mk' (esc:=ah fQ) (N:=["term","names","times"]) (own:=["name"]) (aI:=["times"]) (bN:=[2]) rfl rfl (by decide+kernel)) rfl (kY (pv 1)) (λ_ _ _ _=>(aH (i:=0) (show Bs (["name","times"]:List Str) by decide+kernel) rfl (Ai rfl))) (λ_ _ _ _=>bK) (λ_ _ _ _=>(Sj (gg hr) (pv 1) (pv 0) aj ⟨rfl,rfl,rfl,rfl⟩)))))),?_⟩
  have big:(10000:Nat)<=sizeLine:=by decide
  have pk:BV (λ(p:Addr) (q:Key×V)=>H p=some (.tup [kV q.1,q.2])) ps (t.parts.map o5):=by
   clear lp e1 e2
   generalize t.parts=l at e3
   induction e3 with
   | nil=>exact .nil
   | cons h _ ih=>exact .cons h ih
  refine⟨_,rfl,ta,_,_,.ref b,rfl,rfl,.of e1,ao (j:=1) rfl,b,ps,_,rfl,e2,pk,by rw[AB];omega,λD hD=>?_⟩
  have sD:=Same.new (o:=.dK (c_ [] (t.parts.map o5))) hD
  dsimp only[aO]
  refine⟨_,rfl,nm,rfl,⟨_,.of (sD _ _ en)⟩,λC hC=>?_⟩
  have hCD:D≠C:=aC (show(upd H D (.dK (c_ [] (t.parts.map o5)))) D=some _ from af) hC
  have hC0:H C=none:=sD.free hC
  refine jn (xs:=ss.map V.str) (λi σ H'=>∃v:Option V,σ=[v,some (.ref D)]/\Same H H'/\H' D=some (.dK (c_ [] (t.parts.map o5)))/\H' C=some (.lst (((ss.take i).map t.at).map V.int)))
   ⟨none,?sg,sD.trans (Same.new hC),by rw[aD hCD];exact af,af⟩ (λi σ H' _ ⟨_,_,s',_⟩=>.of (s' _ _ en)) ?_ ?_
  case sg=>rfl
  ·rintro i x σ H' hx ⟨v,rfl,s',d',c'⟩
   obtain⟨n,rfl,en'⟩:=Mu hx
   have hi:=(AF.mp en').1
   refine⟨_,rfl,D,rfl,.inl ⟨_,.inl d'⟩,_,rfl,_,.inl ⟨_,Bv n,.inl d',rfl,rfl⟩,?_⟩
   rw[t.Zx n]
   refine⟨_,c',?_,_,rfl,s'.kbn hC0 KB.write,by rw[aD hCD];exact d',?_⟩
   ·rw[AB,AB,Az];omega
   ·rw[af,take_snoc en',AW,AW];rfl
  rintro σ H' ⟨v,rfl,s',d',c'⟩
  rw[AB,BQ] at c'
  exact k C H' hC0 s' c'
def dot:List Int->List Int->Int
 | x::xs,y::ys=>x*y+dot xs ys
 | _,_=>0
def acn:Sp:=λvs H Q _=>∃(a b:Addr) (xs ys:List Int),vs=[.ref a,.ref b]/\H a=some (.tup (xs.map V.int))/\H b=some (.lst (ys.map V.int))/\xs.length=ys.length/\ys.length<=100/\(∀x∈xs,0<=x/\x<100)/\∀H',Same H H'->Q (.int (dot xs ys)) H'
theorem M3:∀(xs ys:List Int),(HX (· * ·) xs ys).sum=dot xs ys
 | [],_=>rfl
 | _::_,[]=>rfl
 | x::xs,y::ys=>by rw[List.zipWith_cons_cons,G3,M3 xs ys];rfl
theorem WT{xs ys:List Int}{i:Nat}{x y:Int}(hx:xs[i]? =some x)(hy:ys[i]? =some y):HX (· * ·) (xs.take (i+1)) (ys.take (i+1))=HX (· * ·) (xs.take i) (ys.take i)++[x*y]:=by
 rw[take_snoc hx,take_snoc hy,List.zipWith_append]
 ·rfl
 ·have h1:=(AF.mp hx).1
  have h2:=(AF.mp hy).1
  rw[Az,Az];omega
theorem Rn:aN ["letter","times"] ["letter","times"] (ah iH):=⟨rfl,rfl,rfl,by decide+kernel,rfl,by decide+kernel,by decide+kernel⟩
theorem Ro{a:bF}(T:Txt K mg a):aR P w K mg base bh 1 a.oQ a.qr ["letter","times"] acn:=by
 refine T.Tb.ok Rn (λvs H Q E h=>?_) (λcdv A outer s H vs Q E hr h=>?_)
 ·obtain⟨a1,a2,xs,ys,rfl,_⟩:=h
  rfl
 ·obtain⟨a1,a2,xs,ys,rfl,e1,e2,hl,hy,hx,k⟩:=h
  refine⟨_,(aq (aM (aQ (xl K) (by rfl) T.UT Py (ae (cz (aP.mk' (esc:=ah iH) (N:=["letter","times"]) (own:=["figure","many"]) (aI:=[]) (bN:=[]) rfl rfl (by decide+kernel)) rfl (WD rfl T.acj (ae (pv 0) (ae (pv 1) ag))) (λ_ _ _ _=>(Mt K (n:=2) rfl (bV (aH (i:=0) (show Bs (["figure","many"]:List Str) by decide+kernel) rfl (Ai rfl)) (bV (aH (i:=1) (show Bs (["figure","many"]:List Str) by decide+kernel) rfl (Ai rfl)) iK)))) (λ_ _ _ _=>bK) (λ_ _ _ _=>(aS iZ (pv 0) (pv 1)))) ag)))),?_⟩
  have big:(10000:Nat)<=sizeLine:=by decide
  refine⟨_,rfl,_,rfl,a1,a2,rfl,⟨_,.of e1⟩,⟨_,.of e2⟩,λC hC=>?_⟩
  have n2:a2≠C:=aC e2 hC
  refine Qj (xs:=xs.map V.int) (ys:=ys.map V.int) (λi σ H'=>∃v1 v2:Option V,σ=[v1,v2]/\Same H H'/\H' C=some (.lst ((HX (· * ·) (xs.take i) (ys.take i)).map V.int))) (by rw[AB,AB];exact hl)
   ⟨none,none,?sg,Same.new hC,af⟩ (λi σ H' _ ⟨_,_,_,s',_⟩=>⟨.of (s' _ _ e1),.of (s' _ _ e2)⟩) ?_ ?_
  case sg=>rfl
  ·rintro i u v p σ H1 hu hv ⟨v1,v2,rfl,s1,c1⟩ hp
   obtain⟨x,rfl,ex⟩:=vy hu
   obtain⟨y,rfl,ey⟩:=vy hv
   have hb:=hx x (AI ex)
   have sp:=Same.new (o:=.tup [.int x,.int y]) hp
   have hi:=(AF.mp ex).1
   refine⟨p,_,rfl,.of af,rfl,_,_,rfl,_,_,rfl,rfl,?_⟩
   refine⟨_,rfl,_,rfl,_,_,rfl,rfl,.inl ⟨by omega,by omega⟩,_,sp _ _ c1,?_,_,_,rfl,(s1.trans sp).kbn hC KB.write,?_⟩
   ·rw[AB,List.length_zipWith,Az,Az];omega
   ·rw[af,WT ex ey,AW];rfl
  rintro σ H1 ⟨v1,v2,rfl,s1,c1⟩
  rw[AB,BQ,hl,BQ] at c1
  refine⟨C,_,rfl,.of c1,?_⟩
  rw[M3]
  exact k H1 s1
def WU:Sp:=λvs H Q _=>∃(b:Nat) (a:Addr) (ys:List Int),vs=[.int b,.ref a]/\b<=4/\H a=some (.lst (ys.map V.int))/\ys.length<=4/\∀(D:Addr) (H':Hp),H D=none->Same H H'->H' D=some (.lst (((lets b ys.length).map λl=>dot l ys).map V.int))->Q (.ref D) H'
theorem v7(b:Nat):∀(n:Nat) (l:List Int),l∈lets b n->∀x∈l,0<=x/\x<b
 | 0,l,h,x,hx=>by rw[show l=[] from Ad.mp h] at hx;cases hx
 | n+1,l,h,x,hx=>by
  obtain⟨l',h1,h2⟩:=FP.mp (show l∈(lets b n).flatMap λl=>(Ao b).map λ(f:Nat)=>l++[(f:Int)] from h)
  obtain⟨f,hf,rfl⟩:=As.mp h2
  have:=A4.mp hf
  rcases A6.mp hx with z | z
  ·exact v7 b n l' h1 x z
  ·rw[Ad.mp z];omega
def di(b:Nat)(ys:List Int):List Int:=(lets b ys.length).map λl=>dot l ys
theorem xX(b:Nat)(ys:List Int):(di b ys).length=b ^ ys.length:=by unfold di;rw[AB,jE]
theorem wb:aN ["base","times"] ["base","times"] (ah du):=⟨rfl,rfl,rfl,by decide+kernel,rfl,by decide+kernel,by decide+kernel⟩
theorem wc{a:bF}(T:Txt K mg a):aR P w K mg base bh 2 a.ig a.jy ["base","times"] WU:=by
 have km:=nV (P:=P) (w:=w) (base:=base) T
 have TK:=Ro (P:=P) (w:=w) (base:=base) T
 refine T.yq.ok wb (λvs H Q E h=>?_) (λcdv A outer s H vs Q E hr h=>?_)
 ·obtain⟨b,ta,ys,rfl,_⟩:=h
  rfl
 ·obtain⟨b,ta,ys,rfl,hb4,e,hy,k⟩:=h
  have jH:aL 1 _:=hr
  have Rp:aL 1 _:=hr
  refine⟨_,(aq (aM (cz (aP.mk' (esc:=ah du) (N:=["base","times"]) (own:=["letter"]) (aI:=["times"]) (bN:=[1]) rfl rfl (by decide+kernel)) rfl (dJ (aB km jH rfl T.pJ T.pK T.pL .nil aJ (ae (pv 0) (ae (aQ (aZ K) (by rfl) T.cA bR (ae (pv 1) ag)) ag)))) (λ_ _ _ _=>(aH (i:=0) (show Bs (["letter","times"]:List Str) by decide+kernel) rfl (Ai rfl))) (λ_ _ _ _=>bK) (λ_ _ _ _=>(aB TK Rp rfl T.Td T.Te T.Tg .nil aJ (ae (pv 0) (ae (pv 1) ag))))))),?_⟩
  have big:(10000:Nat)<=sizeLine:=by decide
  refine⟨_,rfl,_,rfl,.ref ta,ys.length,rfl,.inl ⟨_,.of e,by rw[AB]⟩,b,ys.length,rfl,hb4,hy,λD ps H1 hD s1 d1 tp=>?_⟩
  refine⟨D,rfl,⟨_,.of d1⟩,λC hC=>?_⟩
  have e1:=s1 _ _ e
  have hpl:ps.length<=256:=by
   rw[Aq tp,jE];exact mO hb4 hy
  refine iN (xs:=ps.map V.ref) (λi σ H'=>∃v:Option V,σ=[v,some (.ref ta)]/\Same H1 H'/\H' C=some (.lst ((((lets b ys.length).take i).map λl=>dot l ys).map V.int)))
   ⟨none,?sg,Same.new hC,af⟩ (λi σ H' _ ⟨_,_,s',_⟩=>.of (s' _ _ d1)) ?_ ?_
  case sg=>rfl
  ·rintro i x σ H' hx ⟨v,rfl,s',c'⟩
   obtain⟨p,rfl,ep⟩:=qP hx
   obtain⟨l,el,hl⟩:=tp.get ep
   have hm:=AI el
   have hi:=(AF.mp ep).1
   refine⟨_,rfl,_,rfl,p,ta,l,ys,rfl,s' _ _ hl,s' _ _ e1,tK b _ l hm,by omega,λx hx=>by have:=v7 b _ l hm x hx;omega,λH2 s2=>?_⟩
   refine⟨_,s2 _ _ c',?_,_,rfl,(s'.trans s2).kbn hC KB.write,?_⟩
   ·rw[AB,AB,Az];omega
   ·rw[af,take_snoc el,AW,AW];rfl
  rintro σ H' ⟨v,rfl,s',c'⟩
  rw[AB,Aq tp,BQ] at c'
  exact k C H' (s1.free hC) (s1.trans s') c'
def xY:Sp:=λvs H Q _=>∃(b n:Nat),vs=[.int b,.int n]/\2<=b/\b<=1000/\n<2 ^ 20000/\∀(D:Addr) (H':Hp),H D=none->Same H H'->H' D=some (.lst ((fk b n).map V.int))->Q (.ref D) H'
theorem ko:aN ["base","number","figures"] ["base","number"] (ah fC):=⟨rfl,rfl,rfl,by decide+kernel,rfl,by decide+kernel,by decide+kernel⟩
theorem kq{a:bF}(T:Txt K mg a):aR P w K mg base bh 1 a.i9 a.j4 ["base","number"] xY:=by
 refine T.Jz.ok ko (λvs H Q E h=>?_) (λcdv A outer s H vs Q E hr h=>?_)
 ·obtain⟨b,n,rfl,_⟩:=h
  rfl
 ·obtain⟨b,n,rfl,hb2,hb9,hn,k⟩:=h
  refine⟨_,(ai (az (i:=2) ko.nd rfl (Ai rfl) (eO ag))
  (ai (oj A7 (bj t9 (pv 1) aj (bt _))
   (ai (cM (fq A3 Ba Bb cZ (pv 2) (ae (aS jo (pv 1) (pv 0)) ag)))
   (aq (az (i:=1) ko.nd rfl (Ai rfl) (aS oA (pv 1) (pv 0))))))
  (aq (aM (pv 2))))),?_⟩
  refine⟨by decide,λD hD=>?_⟩
  have hlen:(fk b n).length<=20000:=tL hb2 20000 n hn
  refine zt (λσ H'=>∃(m:Nat) (pre:List Int),σ=[some (.int b),some (.int m),some (.ref D)]/\Same H H'/\H' D=some (.lst (pre.map V.int))/\pre++fk b m=fk b n)
   (λσ _=>match σ with | [_,some (.int m),_]=>m.toNat | _=>0) ⟨n,[],rfl,Same.new hD,af,rfl⟩ ?_ ?_
  ·rintro σ H1 ⟨m,pre,rfl,s1,e1,hp⟩
   refine⟨_,rfl,_,_,rfl,rfl,_,rfl,?_⟩
   refine iB (λhm=>?_) (λhm=>?_)
   ·have hm':0<m:=by have:=of_decide_eq_true hm;omega
    have hpl:pre.length<=20000:=by rw[<-hp,AR] at hlen;omega
    refine⟨_,rfl,.inl ⟨rfl,_,.of e1⟩,_,rfl,_,rfl,_,_,rfl,rfl,cpos (by omega),D,_,_,rfl,rfl,e1,?_,?_⟩
    ·rw[AB];exact BX hpl (by decide)
    refine⟨_,rfl,_,rfl,_,_,rfl,rfl,⟨by omega,xP hb9⟩,⟨m / b,pre++[((m % b:Nat):Int)],?_,s1.kbn hD KB.write,?_,?_⟩,?_⟩
    ·rw[ED];rfl
    ·rw[af,AW,HG];rfl
    ·rw[DN,<-hp,jF hb2 hm'];rfl
    ·show((m:Int) / (b:Int)).toNat<(m:Int).toNat
     rw[<-ED,Ae,Ae]
     exact EY hm' (by omega)
   ·have hm':m=0:=by
     by_cases z:m=0
     ·exact z
     ·exact absurd (decide_eq_true (show(0:Int)<(m:Int) by omega)) hm
    subst hm'
    rw[gC,Bg] at hp
    subst hp
    exact⟨_,rfl,k D H1 hD s1 e1⟩
  ·rintro σ H1 Q1 Q2 hQ ⟨v,e,i,j,e1,e2,c,e3,q⟩
   exact⟨v,e,i,j,e1,e2,c,e3,hQ _ _ q⟩
theorem Moves.at{n b:Nat}{mv:List (List Nat)}(h:Moves n b mv){r f:Nat}(hr:r<n)(hf:f<b):((mv.getD r []).getD f 0)<n:=by
 have h1:mv[r]? =some (mv.getD r []):=item_at [] (by rw[h.len];exact hr)
 obtain⟨l1,l2⟩:=h.lead _ (AI h1)
 have h2:=item_at 0 (show f<(mv.getD r []).length by omega)
 exact l2 _ (AI h2)
def go(mv:List (List Nat))(r:Nat)(fs:List Nat):Nat:=fs.foldl (λr f=>(mv.getD r []).getD f 0) r
theorem jY{n b:Nat}{mv:List (List Nat)}(h:Moves n b mv):∀(fs:List Nat) (r:Nat),r<n->(∀f∈fs,f<b)->go mv r fs<n
 | [],r,hr,_=>hr
 | f::fs,r,hr,hf=>jY h fs _ (h.at hr (hf f AQ)) λg hg=>hf g (AM _ hg)
theorem KQ(mv:List (List Nat))(r:Nat)(xs:List Nat)(f:Nat):go mv r (xs++[f])=(mv.getD (go mv r xs) []).getD f 0:=by simp[go,List.foldl_append]
def WV(K:AD):Sp:=λvs H Q _=>∃(ma fa:Addr) (ps:List Addr) (b n rm:Nat) (mv:List (List Nat)) (fs:List Nat),vs=[.ref ma,.int rm,.ref fa]/\H ma=some (.tup (ps.map V.ref))/\cO H ps (mv.map ak)/\Moves n b mv/\
 rm<n/\bG K H fa ((ak fs).map V.int)/\(∀f∈fs,f<b)/\Q (.int (go mv rm fs:Nat)) H
theorem kr:aN ["moves","room","figures","figure"] ["moves","room","figures"] (ah fE):=⟨rfl,rfl,rfl,by decide+kernel,rfl,by decide+kernel,by decide+kernel⟩
theorem ku{a:bF}(T:Txt K mg a):aR P w K mg base bh 1 a.jb a.j6 ["moves","room","figures"] (WV K):=by
 refine T.J6.ok kr (λvs H Q E h=>?_) (λcdv A outer s H vs Q E hr h=>?_)
 ·obtain⟨ma,fa,ps,b,n,rm,mv,fs,rfl,_⟩:=h
  rfl
 ·obtain⟨ma,fa,ps,b,n,rm,mv,fs,rfl,e3,tp,R,hrm,hF,hf,k⟩:=h
  refine⟨_,(ai (cp A7 rfl (dJ (pv 2)) (aH (i:=3) kr.nd rfl (Ai rfl))
   (aq (az (i:=1) kr.nd rfl (Ai rfl) (aA (av K) (aA (av K) (pv 0) (pv 1) (λ_ _=>rfl)) (pv 3) (λ_ _=>rfl)))))
  (aq (aM (pv 1)))),?_⟩
  have lp:ps.length=n:=by rw[Aq tp,AB,R.len]
  refine⟨_,rfl,fa,rfl,⟨_,hF⟩,iA (xs:=(ak fs).map V.int) (λi σ H'=>∃v3:Option V,σ=[some (.ref ma),some (.int (go mv rm (fs.take i):Nat)),some (.ref fa),v3]/\H'=H)
   ⟨none,rfl,rfl⟩ (λi σ H' _ ⟨_,_,e⟩=>e▸hF) ?_ ?_⟩
  ·rintro i x σ H' hx ⟨v3,rfl,rfl⟩
   obtain⟨f,rfl,ef⟩:=jD hx
   have Rq:=hf f (AI ef)
   have hg:=jY R (fs.take i) rm hrm λz hz=>hf z (CY hz)
   have hp:=item_at 0 (show go mv rm (fs.take i)<ps.length by omega)
   obtain⟨l',hl',el⟩:=tp.get hp
   rw[AJ,item_at [] (show go mv rm (fs.take i)<mv.length by rw[R.len];exact hg)] at hl'
   have:=AN hl'
   subst this
   have lb:=(R.lead _ (AI (item_at [] (show go mv rm (fs.take i)<mv.length by rw[R.len];exact hg)))).1
   refine⟨_,rfl,_,rfl,ma,_,_,_,rfl,rfl,.of e3,ao (v:=.ref (ps.getD (go mv rm (fs.take i)) 0)) (by rw[AJ,hp];rfl),_,rfl,_,_,_,_,rfl,rfl,.of el,ao (bE (by rw[lb];exact Rq)),some (.int (f:Int)),?_,rfl⟩
   rw[take_snoc ef,KQ]
   rfl
  ·rintro σ H' ⟨v3,rfl,rfl⟩
   rw[AB,a_,BQ]
   exact⟨_,rfl,k⟩
def dG(H:Hp)(r:Addr)(sg:List Nat)(mv:List (List Nat)):Prop:=∃(sa ma:Addr) (ps:List Addr),H r=some (.tup [.ref sa,.ref ma])/\H sa=some (.tup ((ak sg).map V.int))/\H ma=some (.tup (ps.map V.ref))/\cO H ps (mv.map ak)
theorem dG.keep{H H':Hp}{r:Addr}{sg:List Nat}{mv:List (List Nat)}(h:dG H r sg mv)(k:bq H H'):dG H' r sg mv:=by
 obtain⟨sa,ma,ps,h1,h2,h3,h4⟩:=h
 exact⟨sa,ma,ps,k _ _ h1,k _ _ h2,k _ _ h3,h4.keep k⟩
def onRow(b:Nat)(mv:List (List Nat))(r c s:Nat):List Nat:=[stp mv r ((c+s) % b),(c+s) / b]
def M4:Sp:=λvs H Q _=>∃(b n r c s:Nat) (ra pa:Addr) (sg:List Nat) (mv:List (List Nat)),vs=[.int b,.ref ra,.ref pa,.int s]/\2<=b/\b<=4/\dG H ra sg mv/\Moves n b mv/\r<n/\H pa=some (.tup [.int (r:Nat),.int (c:Nat)])/\∀(p:Addr) (H':Hp),Same H H'->H' p=some (.tup ((ak (onRow b mv r c s)).map V.int))->Q (.ref p) H'
theorem pR:aN ["base","row","pair","total","carried"] ["base","row","pair","total"] (ah fH):=⟨rfl,rfl,rfl,by decide+kernel,rfl,by decide+kernel,by decide+kernel⟩
theorem yU{a:bF}(T:Txt K mg a):aR P w K mg base bh 1 a.gB a.ip ["base","row","pair","total"] M4:=by
 refine T.Ko.ok pR (λvs H Q E h=>?_) (λcdv A outer s H vs Q E hr h=>?_)
 ·obtain⟨b,n,r,c,s,ra,pa,sg,mv,rfl,_⟩:=h
  rfl
 ·obtain⟨b,n,r,c,tot,ra,pa,sg,mv,rfl,hb2,hb4,⟨sa,ma,ps,e1,e2,e3,tp⟩,aV,hr',ep,k⟩:=h
  refine⟨_,(ai (az (i:=4) pR.nd rfl (Ai rfl) (aS eK (aA (av K) (pv 2) aj (λ_ _=>rfl)) (pv 3)))
  (aq (aM (bx (ae (aA (av K) (aA (av K) (aA (av K) (pv 1) aj (λ_ _=>rfl)) (aA (av K) (pv 2) aj (λ_ _=>rfl)) (λ_ _=>rfl)) (aS jo (pv 4) (pv 0)) (λ_ _=>rfl)) (ae (aS oA (pv 4) (pv 0)) ag)))))),?_⟩
  have lg:((b:Nat):Int).natAbs.log2<9000:=by
   rw[Int.natAbs_natCast]
   exact BX (Nat.log2_le_self b) (by omega)
  refine⟨_,rfl,pa,_,_,.int (c:Nat),rfl,rfl,.of ep,ao (j:=1) rfl,_,rfl,_,_,rfl,rfl,?_⟩
  have ec:((c:Nat):Int)+((tot:Nat):Int)=((c+tot:Nat):Int):=by omega
  dsimp only[aO]
  rw[ec]
  obtain⟨r1,r2,r3⟩:=aV.row tp hr'
  have hm:(c+tot) % b<b:=DQ _ (by omega)
  refine⟨_,rfl,ra,_,_,.ref ma,rfl,rfl,.of e1,ao (j:=1) rfl,_,rfl,pa,_,_,.int (r:Nat),rfl,rfl,.of ep,ao (j:=0) rfl,ma,_,_,.ref (ps.getD r 0),rfl,rfl,.of e3,ao (by rw[AJ,r1];rfl),_,rfl,_,rfl,_,_,rfl,rfl,by show(0:Int)<_;omega,ps.getD r 0,_,_,.int (stp mv r ((c+tot) % b):Nat),rfl,?_,.of r2,ao (j:=(c+tot) % b) (bE (by rw[r3];exact hm)),_,rfl,_,rfl,_,_,rfl,rfl,⟨by omega,lg⟩,by show 2<=sizeLine;decide,λp hp=>?_⟩
  ·show V.int (((c+tot:Nat):Int) % (b:Int))=V.int (((c+tot) % b:Nat):Int)
   rw[HG]
  ·refine k p _ (Same.new hp) ?_
   rw[af]
   show some (HO.tup [V.int (stp mv r ((c+tot) % b):Nat),V.int (((c+tot:Nat):Int) / (b:Int))])=some (HO.tup [V.int ((stp mv r ((c+tot) % b):Nat):Int),V.int (((c+tot) / b:Nat):Int)])
   rw[ED]
def iJ(b:Nat)(sg:List Nat)(mv:List (List Nat))(r c:Nat):Nat:=sg.getD (run mv r ((fk b c).map Ft)) 0
def uV:Sp:=λvs H Q _=>∃(b n r c:Nat) (ra pa:Addr) (sg:List Nat) (mv:List (List Nat)),vs=[.int b,.ref ra,.ref pa]/\2<=b/\b<=4/\dG H ra sg mv/\sg.length=n/\Moves n b mv/\r<n/\c<2 ^ 20000/\H pa=some (.tup [.int (r:Nat),.int (c:Nat)])/\∀H',Same H H'->Q (.int (iJ b sg mv r c:Nat)) H'
theorem gQ{b:Nat}(hb:2<=b)(c:Nat):ak ((fk b c).map Ft)=fk b c:=by
 unfold ak
 rw[B']
 refine(Fm λd hd=>?_).trans (List.map_id _)
 exact Fn (MO hb c d hd).1
theorem tU{b:Nat}(hb:2<=b)(c:Nat):∀f∈(fk b c).map Ft,f<b:=λf hf=>by
 obtain⟨d,hd,rfl⟩:=As.mp hf
 have:=MO hb c d hd
 omega
theorem nZ(mv:List (List Nat)):∀(fs:List Nat) (r:Nat),go mv r fs=run mv r fs
 | [],_=>rfl
 | f::fs,r=>nZ mv fs _
theorem KR:aN ["base","row","pair"] ["base","row","pair"] (ah f'):=⟨rfl,rfl,rfl,by decide+kernel,rfl,by decide+kernel,by decide+kernel⟩
theorem KS{a:bF}(T:Txt K mg a):aR P w K mg base bh 2 a.g9 a.je ["base","row","pair"] uV:=by
 have gD:=kq (P:=P) (w:=w) (base:=base) T
 have gE:=ku (P:=P) (w:=w) (base:=base) T
 refine T.LO.ok KR (λvs H Q E h=>?_) (λcdv A outer s H vs Q E hr h=>?_)
 ·obtain⟨b,n,r,c,ra,pa,sg,mv,rfl,_⟩:=h
  rfl
 ·obtain⟨b,n,r,c,ra,pa,sg,mv,rfl,hb2,hb4,⟨sa,ma,ps,e1,e2,e3,tp⟩,ls,aV,hr',hc,ep,k⟩:=h
  have fV:aL 1 _:=hr
  have fW:aL 1 _:=hr
  refine⟨_,(aq (aM (aA (av K) (aA (av K) (pv 1) aj (λ_ _=>rfl)) (aB gE fW rfl T.lP T.lQ T.lR .nil aJ (ae (aA (av K) (pv 1) aj (λ_ _=>rfl)) (ae (aA (av K) (pv 2) aj (λ_ _=>rfl)) (ae (aB gD fV rfl T.lM T.lN T.lO .nil aJ (ae (pv 0) (ae (aA (av K) (pv 2) aj (λ_ _=>rfl)) ag))) ag)))) (λ_ _=>rfl)))),?_⟩
  have hg:=jY aV ((fk b c).map Ft) r hr' (tU hb2 c)
  refine⟨_,rfl,ra,_,_,.ref sa,rfl,rfl,.of e1,ao (j:=0) rfl,_,rfl,ra,_,_,.ref ma,rfl,rfl,.of e1,ao (j:=1) rfl,_,rfl,pa,_,_,.int (r:Nat),rfl,rfl,.of ep,ao (j:=0) rfl,_,rfl,_,rfl,pa,_,_,.int (c:Nat),rfl,rfl,.of ep,ao (j:=1) rfl,b,c,rfl,hb2,by omega,hc,λD H1 hD s1 d1=>?_⟩
  rw[<-gQ hb2 c] at d1
  refine⟨ma,D,ps,b,n,r,mv,_,rfl,s1 _ _ e3,tp.keep s1.kt,aV,hr',.of d1,tU hb2 c,?_⟩
  refine⟨sa,_,_,.int (iJ b sg mv r c:Nat),rfl,rfl,.of (s1 _ _ e2),ao ?_,k H1 s1⟩
  unfold iJ
  rw[<-nZ]
  exact bE (by rw[ls];exact hg)
def Vg:List (Pos×Str):=[(⟨162,13,162,75⟩,(("sign_growth":Str)++".<locals>.")++"<lambda>"),(⟨163,13,163,65⟩,(("sign_growth":Str)++".<locals>.")++"<lambda>")]
def Vh:List (Pos×Str):=[(⟨83,13,83,54⟩,(("rooms_met":Str)++".<locals>.")++"<lambda>"),(⟨84,40,84,57⟩,(("rooms_met":Str)++".<locals>.")++"<lambda>")]
def Vi:List (Pos×Str):=[(⟨89,13,89,84⟩,(("row_of":Str)++".<locals>.")++"<lambda>"),(⟨90,44,90,62⟩,(("row_of":Str)++".<locals>.")++"<lambda>")]
structure TB (a:bF)(H:Hp):Prop where
 si:Tab H a.bH Vg
 rm:Tab H a.bz Vh
 ro:Tab H a.cb Vi
def KX(a:bF)(H H':Hp):Prop:=∀b o,H b=some o->(∀qs,o≠.de qs)->H' b=some o
theorem KX.trans{a:bF}{H H1 H2:Hp}(x:KX a H H1)(y:KX a H1 H2):KX a H H2:=λb o e n=>y b o (x b o e n) n
theorem KX.same{a:bF}{H H':Hp}(s:Same H H'):KX a H H':=λb o e _=>s b o e
theorem KX.kt{a:bF}{H H':Hp}(x:KX a H H'):bq H H':=λb xs e=>x b _ e λ_ z=>nomatch z
theorem KX.kb{a:bF}{H H':Hp}{T:Addr}{L:List (Pos×Str)}(t:Tab H T L)(k:KB T H H'):KX a H H':=λb o e n=>k b o e λz=>by
 obtain⟨qs,h,_⟩:=t
 rw[z,h] at e
 exact n qs (AN e).symm
theorem _root_.L2.Tab.M5{H H':Hp}{T d:Addr}{L L':List (Pos×Str)}(x:Tab H T L)(y:Tab H d L')(s:KB d H H')(hd:T≠d):Tab H' T L:=by
 obtain⟨ps,h1,h2,h3⟩:=x
 obtain⟨qs,g,_⟩:=y
 refine⟨ps,s _ _ h1 hd,h2,λp hp=>?_⟩
 rcases h3 p hp with z | ⟨c,z1,z2⟩
 ·exact .inl z
 ·exact .inr ⟨c,z1,s _ _ z2 λe=>by rw[e,g] at z2;cases z2⟩
theorem TB.same{a:bF}{H H':Hp}(t:TB a H)(s:Same H H'):TB a H':=⟨t.si.same s,t.rm.same s,t.ro.same s⟩
section
variable{K:AD}{mg:Str->Option Value}{a:bF}{H H':Hp}
theorem TB.ksi(T:Txt K mg a)(t:TB a H)(k:KB a.bH H H')(y:Tab H' a.bH Vg):TB a H':=⟨y,t.rm.M5 t.si k T.tne04,t.ro.M5 t.si k T.tne14⟩
theorem TB.krm(T:Txt K mg a)(t:TB a H)(k:KB a.bz H H')(y:Tab H' a.bz Vh):TB a H':=⟨t.si.M5 t.rm k T.tne04.symm,y,t.ro.M5 t.rm k T.tne01.symm⟩
theorem TB.kro(T:Txt K mg a)(t:TB a H)(k:KB a.cb H H')(y:Tab H' a.cb Vi):TB a H':=⟨t.si.M5 t.ro k T.tne14.symm,t.rm.M5 t.ro k T.tne01,y⟩
end
theorem apart2{p q:Pos×Str}(h:p.1.line≠q.1.line):Apart [p,q]:=λa ha b hb e _=>by
 rcases AV.mp ha with z | z<;>rcases AV.mp hb with y | y
 ·rw[z,y]
 ·rw[z,Ad.mp y] at e;exact absurd e h
 ·rw[y,Ad.mp z] at e;exact absurd e.symm h
 ·rw[Ad.mp z,Ad.mp y]
def KU(b:Nat)(mv:List (List Nat))(su:List Int)(p:List Nat)(L:Nat):List Nat:=onRow b mv (p.getD 0 0) (p.getD 1 0) (su.getD L 0).toNat
def wd(b:Nat)(sg:List Nat)(mv:List (List Nat))(sn:Int)(p:List Nat):Bool:=decide (((iJ b sg mv (p.getD 0 0) (p.getD 1 0):Nat):Int)=sn)
def qA(n B:Nat)(p:List Nat):Prop:=∃r c,p=[r,c]/\r<n/\c<=B
structure iU (ra sa sy:Addr)(sg:List Nat)(mv:List (List Nat))(su:List Int)(ws:List V)(H:Hp):Prop where
 i3:dG H ra sg mv
 s:H sa=some (.lst (su.map V.int))
 y:H sy=some (.tup ws)
theorem iU.keep{ra sa sy:Addr}{sg:List Nat}{mv:List (List Nat)}{su:List Int}{ws:List V}{H H':Hp}(e:iU ra sa sy sg mv su ws H)(kt:bq H H')(kl:∀b xs,H b=some (.lst xs)->H' b=some (.lst xs)):iU ra sa sy sg mv su ws H':=⟨e.i3.keep kt,kl _ _ e.s,kt _ _ e.y⟩
theorem iU.kx{a:bF}{ra sa sy:Addr}{sg:List Nat}{mv:List (List Nat)}{su:List Int}{ws:List V}{H H':Hp}(e:iU ra sa sy sg mv su ws H)(k:KX a H H'):iU ra sa sy sg mv su ws H':=e.keep k.kt λb xs z=>k _ _ z λ_ y=>nomatch y
theorem iU.same{ra sa sy:Addr}{sg:List Nat}{mv:List (List Nat)}{su:List Int}{ws:List V}{H H':Hp}(e:iU ra sa sy sg mv su ws H)(s:Same H H'):iU ra sa sy sg mv su ws H':=e.keep s.kt λb xs z=>s _ _ z
theorem iU.dk{ra sa sy:Addr}{sg:List Nat}{mv:List (List Nat)}{su:List Int}{ws:List V}{H:Hp}{D:List Addr}(hD:∀a∈D,∃φ,H a=some (.ext φ))(e:iU ra sa sy sg mv su ws H):iU ra sa sy sg mv su ws (L2.dk D H):=
 e.keep (λb xs z=>lC hD z (λ_ y=>nomatch y)) λb xs z=>lC hD z (λ_ y=>nomatch y)
theorem Rt{b n B:Nat}(hb:2<=b){mv:List (List Nat)}(m:Moves n b mv){su:List Int}(hs:∀x∈su,x<=(B:Int)){p:List Nat}(h:qA n B p)(L:Nat):qA n B (KU b mv su p L):=by
 obtain⟨r,c,rfl,hr,hc⟩:=h
 refine⟨_,_,rfl,m.stp hr (DQ _ (by omega)),?_⟩
 have hL:(su.getD L 0).toNat<=B:=by
  rw[BB]
  cases e:su[L]? with
  | none=>exact BI _
  | some x=>have:=hs x (AI e);show x.toNat<=B;omega
 show(c+(su.getD L 0).toNat) / b<=B
 have:(c+(su.getD L 0).toNat) / b<=(c+(su.getD L 0).toNat) / 2:=Nat.div_le_div_left hb (by decide)
 omega
def Zy(P:Af)(w:World)(K:AD)(mg:Str->Option Value)(base:Heap)(a:bF):Sp:=λvs H Q _=>∃(b n B:Nat) (wo Dw nm sy ra ta:Addr) (kvs:List (Key×V)) (x:Str) (w0:V) (t:Term) (sn:Int) (sg:List Nat) (mv:List (List Nat)) (ss:List Str),vs=[.ref wo,.ref nm,.ref sy]/\2<=b/\b<=4/\H wo=some (.tup [.int b,.ref Dw])/\Rd H Dw (.dK kvs)/\bC kvs (Bv x)=some (.ref ra)/\dG H ra sg mv/\sg.length=n/\0<n/\Moves n b mv/\H sy=some (.tup [w0,.str x,.ref ta,.int sn])/\jj H ta t/\t.parts.length<=100/\(∃c:Nat,t.num=(c:Int)/\c<=B)/\(∀z∈di b (ss.map t.at),0<=z/\z<=(B:Int))/\B<2 ^ 20000/\H nm=some (.tup (ss.map V.str))/\ss.length<=4/\TB a H/\
 ∀(g z0 f1 f2 sa:Addr) (D:List Addr) (H':Hp),KX a H H'->TB a H'->(∀a∈D,∃φ,H' a=some (.ext φ))->iU ra sa sy sg mv (di b (ss.map t.at)) [w0,.str x,.ref ta,.int sn] H'->H' z0=some (.tup [.int 0,.int t.num])->H' g=some (.tup [.ref z0,.ref f1,.ref f2])->
  jt P w K mg base H' D 3 f1 2 (vX (qj.toS P w) (b ^ ss.length) (KU b mv (di b (ss.map t.at))) (qA n B) (iU ra sa sy sg mv (di b (ss.map t.at)) [w0,.str x,.ref ta,.int sn]))->
  jt P w K mg base H' D 3 f2 1 (vY (qj.toS P w) (wd b sg mv sn) (qA n B) (iU ra sa sy sg mv (di b (ss.map t.at)) [w0,.str x,.ref ta,.int sn]))->Q (.ref g) H'
theorem dQ:aN ["world","names","saying","base","row","sums","onward","is_yes"] ["world","names","saying"] (ah bw):=⟨rfl,rfl,rfl,by decide+kernel,rfl,by decide+kernel,by decide+kernel⟩
set_option maxHeartbeats 16000000 in
theorem wg{a:bF}(T:Txt K mg a)(hB:fP mg base):aR P w K mg base bh 3 a.cv a.jB ["world","names","saying"] (Zy P w K mg base a):=by
 have yV:=wc (P:=P) (w:=w) (base:=base) T
 have Oq:=LV (P:=P) (w:=w) (base:=base) T
 refine T.yF.okR dQ (λvs H Q E h=>?_) (λAr outer sh H vs Q E inj hr h=>?_)
 ·obtain⟨b,n,B,wo,Dw,nm,sy,ra,ta,kvs,x,w0,t,sn,sg,mv,ss,rfl,_⟩:=h
  rfl
 ·obtain⟨b,n,B,wo,Dw,nm,sy,ra,ta,kvs,x,w0,t,sn,sg,mv,ss,rfl,hb2,hb4,ew,rL,ex,TL,Vj,n0,aV,es,et,lt,hnum,KW,hB2,Rm,lss,tb,q⟩:=h
  have wj:aL 2 _:=hr
  have LW:aL 1 _:=hr.mono (by decide)
  refine⟨_,nJ (az (i:=3) dQ.nd rfl (DD rfl) (aA (av K) (pv 0) aj (λ_ _=>rfl)))
   (nJ (az (i:=4) dQ.nd rfl (DD rfl) (iM (gg hr) (aA (av K) (pv 0) aj (λ_ _=>rfl)) (aA (av K) (pv 2) aj (λ_ _=>rfl)) (λ_ _=>rfl)))
   (nJ (az (i:=5) dQ.nd rfl (DD rfl) (aB yV wj rfl T.yr T.yu T.yw .nil aJ (ae (pv 3) (ae (aB Oq LW rfl T.Oe T.Og T.Oh .nil aJ (ae (aA (av K) (pv 2) aj (λ_ _=>rfl)) (ae (pv 1) ag))) ag))))
   (nJ (az (i:=6) dQ.nd rfl (Ai rfl) (kO (T:=a.bH) (L:=Vg) rfl T.pP hB rfl rfl (AQ) (apart2 (by decide)) rfl))
   (nJ (az (i:=7) dQ.nd rfl (Ai rfl) (kO (T:=a.bH) (L:=Vg) rfl T.pP hB rfl rfl (AM _ AQ) (apart2 (by decide)) rfl))
   (Yv (bx (ae (bx (ae aj (ae (aA (av K) (aA (av K) (pv 2) aj (λ_ _=>rfl)) aj (λ_ _=>rfl)) ag))) (ae (pv 6) (ae (pv 7) ag))))))))),?_⟩
  refine⟨_,rfl,wo,_,_,.int (b:Nat),rfl,rfl,.of ew,ao (j:=0) rfl,?_⟩
  dsimp only[aO]
  refine⟨_,rfl,wo,_,_,.ref Dw,rfl,rfl,.of ew,ao (j:=1) rfl,_,rfl,sy,_,_,.str x,rfl,rfl,.of es,ao (j:=1) rfl,Dw,.ref ra,rfl,.inl ⟨kvs,Bv x,rL,rfl,ex.symm⟩,?_⟩
  dsimp only[aO]
  refine⟨_,rfl,_,rfl,sy,_,_,.ref ta,rfl,rfl,.of es,ao (j:=2) rfl,_,rfl,ta,nm,t,ss,rfl,et,lt,Rm,by omega,λD0 H0 QT s0 d0=>?_⟩
  refine⟨b,D0,_,rfl,hb4,d0,by rw[AB];exact lss,λsa H1 hsa s1' d1=>?_⟩
  have s1:=s0.trans s1'
  rw[show((lets b (ss.map t.at).length).map λl=>dot l (ss.map t.at))=di b (ss.map t.at) from rfl] at d1
  have lsu:(di b (ss.map t.at)).length=b ^ ss.length:=by rw[xX,AB]
  generalize di b (ss.map t.at)=su at d1 q lsu KW
  have ev1:iU ra sa sy sg mv su [w0,.str x,.ref ta,.int sn] H1:=⟨TL.keep s1.kt,d1,s1 _ _ es⟩
  have xZ:=tb.same s1
  obtain⟨tb',tps,ta1,_,_⟩:=et.keep s1.kt
  dsimp only[aO]
  refine⟨xZ.si,λf1 d1 Zz H3 hf1 Ru Rv afy kb3=>?_⟩
  have k3:KX a H1 H3:=KX.kb xZ.si kb3
  have n_:=xZ.ksi T kb3 afy
  dsimp only[aO]
  refine⟨n_.si,λf2 d2 ZA H5 hf2 KY KZ K_ x3=>?_⟩
  have k35:KX a H3 H5:=KX.kb n_.si x3
  have x4:=n_.ksi T x3 K_
  have k15:=k3.trans k35
  dsimp only[aO]
  refine⟨_,rfl,sy,_,_,.ref ta,rfl,rfl,.of (k15.kt _ _ ev1.y),ao (j:=2) rfl,ta,_,_,.int t.num,rfl,rfl,.of (k15.kt _ _ ta1),ao (j:=0) rfl,by show 2<=sizeLine;decide,λz0 hz0=>⟨_,rfl,_,rfl,by show 3<=sizeLine;decide,λg hg=>?_⟩⟩
  have sz:=Same.new (o:=.tup [.int 0,.int t.num]) hz0
  have sg':=Same.new (o:=.tup [.ref z0,.ref f1,.ref f2]) hg
  obtain⟨c1,h1⟩:∃c,(EK "sign_growth" (ah bw) sh.heap.objs.size a.cv (.ref a.dD)).cells.lookup ("base":Str)=some c:=eY rfl
  obtain⟨c2,h2⟩:∃c,(EK "sign_growth" (ah bw) sh.heap.objs.size a.cv (.ref a.dD)).cells.lookup ("row":Str)=some c:=eY rfl
  obtain⟨c3,h3⟩:∃c,(EK "sign_growth" (ah bw) sh.heap.objs.size a.cv (.ref a.dD)).cells.lookup ("sums":Str)=some c:=eY rfl
  obtain⟨c4,h4⟩:∃c,(EK "sign_growth" (ah bw) sh.heap.objs.size a.cv (.ref a.dD)).cells.lookup ("saying":Str)=some c:=eY rfl
  let l:List (Nat×Str×Addr×V):=[(3,"base",c1,.int (b:Nat)),(4,"row",c2,.ref ra),(5,"sums",c3,.ref sa),(2,"saying",c4,.ref sy)]
  have C:Jg (kZ bh P w K mg base ["world","names","saying","base","row","sums","onward","is_yes"] "sign_growth" (ah bw) a.cv (.ref a.dD) Ar outer sh H E) [some (.ref wo),some (.ref nm),some (.ref sy),some (.int (b:Nat)),some (.ref ra),some (.ref sa),some (.ref f1),some (.ref f2)] l:=
   ⟨A8.mpr ⟨⟨rfl,rfl,rfl,h1⟩,A8.mpr ⟨⟨rfl,rfl,rfl,h2⟩,A8.mpr ⟨⟨rfl,rfl,rfl,h3⟩,A8.mpr ⟨⟨rfl,rfl,rfl,h4⟩,λ_ h=>nomatch h⟩⟩⟩⟩,show(["base","row","sums","saying"]:List Str).Nodup by decide+kernel⟩
  refine⟨ql l,C.cells,λfr=>?_⟩
  have sm:=qk fr
  have g1:=C.got inj (upd (upd H5 z0 (.tup [.int 0,.int t.num])) g (.tup [.ref z0,.ref f1,.ref f2])) (q:=(3,"base",c1,.int (b:Nat))) (by simp[l])
  have g2:=C.got inj (upd (upd H5 z0 (.tup [.int 0,.int t.num])) g (.tup [.ref z0,.ref f1,.ref f2])) (q:=(4,"row",c2,.ref ra)) (by simp[l])
  have g3:=C.got inj (upd (upd H5 z0 (.tup [.int 0,.int t.num])) g (.tup [.ref z0,.ref f1,.ref f2])) (q:=(5,"sums",c3,.ref sa)) (by simp[l])
  have g4:=C.got inj (upd (upd H5 z0 (.tup [.int 0,.int t.num])) g (.tup [.ref z0,.ref f1,.ref f2])) (q:=(2,"saying",c4,.ref sy)) (by simp[l])
  have s6:=(sz.trans sg').trans sm
  have k36:=k35.trans (KX.same (a:=a) s6)
  have ZC:=k36 _ _ Ru λ_ y=>nomatch y
  have ZD:=k36 _ _ Rv λ_ y=>nomatch y
  have ZE:=s6 _ _ KY
  have ZF:=s6 _ _ KZ
  have ev6:=ev1.kx (k3.trans k36)
  have hD6:∀x∈[f1,d1,f2,d2,c1,c2,c3,c4],∃φ,lG (ql l) (upd (upd H5 z0 (.tup [.int 0,.int t.num])) g (.tup [.ref z0,.ref f1,.ref f2])) x=some (.ext φ):=λx hx=>by
   simp only[AV,CU,or_false] at hx
   rcases hx with z | z | z | z | z | z | z | z
   ·rw[z];exact⟨_,ZC⟩
   ·rw[z];exact⟨_,ZD⟩
   ·rw[z];exact⟨_,ZE⟩
   ·rw[z];exact⟨_,ZF⟩
   ·rw[z];exact⟨_,g1⟩
   ·rw[z];exact⟨_,g2⟩
   ·rw[z];exact⟨_,g3⟩
   ·rw[z];exact⟨_,g4⟩
  refine q g z0 f1 f2 sa [f1,d1,f2,d2,c1,c2,c3,c4] _ ((KX.same s1).trans (k3.trans k36)) (x4.same s6) hD6 ev6 ((sg'.trans sm) _ _ af) (sm _ _ af) ?_ ?_
  ·refine jt.lam ZC (by simp) ZD (by simp) (ps:=["pair","letter"]) (aI:=["base","row","sums"]) (fvs:=[.int (b:Nat),.ref ra,.ref sa]) (dR.mk' rfl rfl rfl (by decide+kernel) (by decide+kernel) (by decide+kernel) (by decide+kernel) (by decide+kernel)) inj (A8.mpr ⟨⟨rfl,AI (i:=2) rfl⟩,A8.mpr ⟨⟨rfl,AI (i:=1) rfl⟩,A8.mpr ⟨⟨rfl,AI (i:=0) rfl⟩,λ_ h=>nomatch h⟩⟩⟩)
    (.cons ⟨c1,rfl,h1,by simp,g1⟩ (.cons ⟨c2,rfl,h2,by simp,g2⟩ (.cons ⟨c3,rfl,h3,by simp,g3⟩ .nil))) (λus hl=>match us,hl with | [_,_],_=>rfl) (λvs H Q E h=>?_) (λbase' W A outer s H vs Q E hr h=>?_)
   ·obtain⟨x,v,c,rfl,_⟩:=h
    rfl
   ·obtain⟨S,vv,c,rfl,⟨pp,rfl,ep⟩,⟨r,cc,rfl,hr',hcc⟩,hc,ev,kk⟩:=h
    have K0:aR P w K mg base' bh 1 a.gB a.ip ["base","row","pair","total"] M4:=yU T
    have hr1:aL 1 _:=hr.mono (by decide)
    refine⟨_,aB K0 hr1 (by rfl) T.Kp T.Kq T.Kr .nil aJ (ae (pv 2) (ae (pv 3) (ae (pv 0) (ae (aA (fb K) (pv 4) (pv 1) (λ_ _=>rfl)) ag)))),?_⟩
    have ecl:su[c]? =some (su.getD c 0):=item_at 0 (by rw[lsu];exact hc)
    have hn0:=(KW _ (AI ecl)).1
    refine⟨_,rfl,_,rfl,_,rfl,_,rfl,_,rfl,sa,_,_,.int (su.getD c 0),rfl,rfl,.of ev.s,ao (by rw[AJ,ecl];rfl),b,n,r,cc,(su.getD c 0).toNat,ra,pp,sg,mv,?_,hb2,hb4,ev.i3,aV,hr',ep,λp H' s' e'=>?_⟩
    ·rw[Fn hn0];rfl
    ·exact kk _ H' s' ⟨p,rfl,by rw[show((KU b mv su [r,cc] c).map λ(z:Nat)=>V.int (z:Int))=(ak (onRow b mv r cc (su.getD c 0).toNat)).map V.int by unfold ak;rw[B'];rfl];exact e'⟩
  ·refine jt.lam ZE (by simp) ZF (by simp) (ps:=["pair"]) (aI:=["base","row","saying"]) (fvs:=[.int (b:Nat),.ref ra,.ref sy]) (dR.mk' rfl rfl rfl (by decide+kernel) (by decide+kernel) (by decide+kernel) (by decide+kernel) (by decide+kernel)) inj (A8.mpr ⟨⟨rfl,AI (i:=2) rfl⟩,A8.mpr ⟨⟨rfl,AI (i:=1) rfl⟩,A8.mpr ⟨⟨rfl,AI (i:=0) rfl⟩,λ_ h=>nomatch h⟩⟩⟩)
    (.cons ⟨c1,rfl,h1,by simp,g1⟩ (.cons ⟨c2,rfl,h2,by simp,g2⟩ (.cons ⟨c4,rfl,h4,by simp,g4⟩ .nil))) (λus hl=>match us,hl with | [_],_=>rfl) (λvs H Q E h=>?_) (λbase' W A outer s H vs Q E hr h=>?_)
   ·obtain⟨x,v,rfl,_⟩:=h
    rfl
   ·obtain⟨S,vv,rfl,⟨pp,rfl,ep⟩,⟨r,cc,rfl,hr',hcc⟩,ev,kk⟩:=h
    have LX:aR P w K mg base' bh 2 a.g9 a.je ["base","row","pair"] uV:=KS T
    have hr2:aL 2 _:=hr
    refine⟨_,nq kI (aB LX hr2 (by rfl) T.LP T.LQ T.LS .nil aJ (ae (pv 1) (ae (pv 2) (ae (pv 0) ag)))) (aA (av K) (pv 3) aj (λ_ _=>rfl)) (bt _),?_⟩
    refine⟨_,rfl,_,rfl,_,rfl,b,n,r,cc,ra,pp,sg,mv,rfl,hb2,hb4,ev.i3,Vj,aV,hr',BX hcc hB2,ep,λH' s'=>⟨_,rfl,sy,_,_,.int sn,rfl,rfl,.of (s' _ _ ev.y),ao (j:=3) rfl,rfl,?_⟩⟩
    rw[show decide (V.int ((iJ b sg mv r cc:Nat):Int)=V.int sn)=wd b sg mv sn [r,cc] from decide_eq_decide.mpr ⟨λe=>V.int.inj e,λe=>congrArg V.int e⟩]
    exact kk H' s'
structure wk (b n B:Nat)(wo Dw sy ra ta:Addr)(kvs:List (Key×V))(x:Str)(t:Term)(sn:Int)(sg:List Nat)(mv:List (List Nat))(H:Hp):Prop where
 wo:H wo=some (.tup [.int b,.ref Dw])
 dw:Rd H Dw (.dK kvs)
 at':bC kvs (Bv x)=some (.ref ra)
 row:dG H ra sg mv
 len:sg.length=n
 pos:0<n
 aV:Moves n b mv
 sy:H sy=some (.tup [.str "sign",.str x,.ref ta,.int sn])
 tm:jj H ta t
 few:t.parts.length<=100
 num:∃c:Nat,t.num=(c:Int)/\c<=B
 big:B<2 ^ 20000
theorem wk.kx{a:bF}{b n B:Nat}{wo Dw sy ra ta:Addr}{kvs:List (Key×V)}{x:Str}{t:Term}{sn:Int}{sg:List Nat}{mv:List (List Nat)}{H H':Hp}(h:wk b n B wo Dw sy ra ta kvs x t sn sg mv H)(k:KX a H H'):wk b n B wo Dw sy ra ta kvs x t sn sg mv H':=
 ⟨k.kt _ _ h.wo,h.dw.elim (λe=>.inl (k _ _ e λ_ y=>nomatch y)) (λ⟨o,e⟩=>.inr ⟨o,k _ _ e λ_ y=>nomatch y⟩),h.at',h.row.keep k.kt,h.len,h.pos,h.aV,k.kt _ _ h.sy,h.tm.keep k.kt,h.few,h.num,h.big⟩
theorem jj.dat{K:AD}{H:Hp}{a:Addr}{t:Term}(h:jj H a t):au K H (.ref a) t.dt:=by
 obtain⟨b,ps,h1,h2,h3⟩:=h
 refine fY (.of h1) (bP vz (bP (fY (.of h2) ?_) fh))
 clear h1 h2
 generalize t.parts=l at h3
 induction h3 with
 | nil=>exact fh
 | cons h _ ih=>exact bP (fY (.of h) (bP nF (bP vz fh))) ih
abbrev M6 (b:Nat)(mv:List (List Nat))(t:Term)(ks:List Str):List Nat->Nat->List Nat:=KU b mv (di b (ks.map t.at))
def WW(P:Af)(w:World)(K:AD)(mg:Str->Option Value)(base:Heap)(a:bF):Sp:=λvs H Q _=>∃(b n B:Nat) (wo Dw nm sy ra ta:Addr) (kvs:List (Key×V)) (x:Str) (t:Term) (sn:Int) (sg:List Nat) (mv:List (List Nat)) (ss:List Str),vs=[.ref wo,.ref nm,.ref sy]/\2<=b/\b<=4/\wk b n B wo Dw sy ra ta kvs x t sn sg mv H/\(∀z∈di b (ss.map t.at),0<=z/\z<=(B:Int))/\H nm=some (.tup (ss.map V.str))/\ss.length<=4/\TB a H/\
 ∀(g z0 f1 f2 sa:Addr) (D:List Addr) (H':Hp),KX a H H'->TB a H'->(∀a∈D,∃φ,H' a=some (.ext φ))->iU ra sa sy sg mv (di b (ss.map t.at)) [.str "sign",.str x,.ref ta,.int sn] H'->H' z0=some (.tup [.int 0,.int t.num])->H' g=some (.tup [.ref z0,.ref f1,.ref f2])->
  jt P w K mg base H' D 3 f1 2 (vX (qj.toS P w) (b ^ ss.length) (M6 b mv t ss) (qA n B) (iU ra sa sy sg mv (di b (ss.map t.at)) [.str "sign",.str x,.ref ta,.int sn]))->
  jt P w K mg base H' D 3 f2 1 (vY (qj.toS P w) (wd b sg mv sn) (qA n B) (iU ra sa sy sg mv (di b (ss.map t.at)) [.str "sign",.str x,.ref ta,.int sn]))->Q (.ref g) H'
theorem wm:aN ["base","names","saying","sums","first","onward"] ["base","names","saying"] (ah cq):=⟨rfl,rfl,rfl,by decide+kernel,rfl,by decide+kernel,by decide+kernel⟩
theorem wq:aN ["base","names","saying","sums","first","onward"] ["base","names","saying"] (ah cu):=⟨rfl,rfl,rfl,by decide+kernel,rfl,by decide+kernel,by decide+kernel⟩
theorem uW:aN ["world","names","saying","base","one","other","left","right","onward","is_yes"] ["world","names","saying"] (ah bX):=⟨rfl,rfl,rfl,by decide+kernel,rfl,by decide+kernel,by decide+kernel⟩
theorem wt:aN ["world","names","saying"] ["world","names","saying"] (ah eB):=⟨rfl,rfl,rfl,by decide+kernel,rfl,by decide+kernel,by decide+kernel⟩
theorem wu{a:bF}(T:Txt K mg a)(hB:fP mg base):aR P w K mg base bh 4 a.iq a.jC ["world","names","saying"] (WW P w K mg base a):=by
 have yW:=wg (P:=P) (w:=w) (base:=base) T hB
 have yX:aR P w K mg base bh 1 a.ij a.jz ["base","names","saying"] (λ_ _ _ _=>False):=T.yx.okR wm (λvs H Q E h=>h.elim) (λAr outer sh H vs Q E inj hr h=>h.elim)
 have yY:aR P w K mg base bh 1 a.il a.jA ["base","names","saying"] (λ_ _ _ _=>False):=T.yB.okR wq (λvs H Q E h=>h.elim) (λAr outer sh H vs Q E inj hr h=>h.elim)
 have wx:aR P w K mg base bh 1 a.gN a.jf ["world","names","saying"] (λ_ _ _ _=>False):=T.vL.okR uW (λvs H Q E h=>h.elim) (λAr outer sh H vs Q E inj hr h=>h.elim)
 refine T.yJ.ok wt (λvs H Q E h=>?_) (λcdv A outer s H vs Q E hr h=>?_)
 ·obtain⟨b,n,B,wo,Dw,nm,sy,ra,ta,kvs,x,t,sn,sg,mv,ss,rfl,_⟩:=h
  rfl
 ·obtain⟨b,n,B,wo,Dw,nm,sy,ra,ta,kvs,x,t,sn,sg,mv,ss,rfl,hb2,hb4,S,KW,en,l4,tb,q⟩:=h
  have wy:aL 1 _:=hr.mono (by decide)
  have wz:aL 1 _:=hr.mono (by decide)
  have wA:aL 3 _:=hr
  have uX:aL 1 _:=hr.mono (by decide)
  refine⟨_,(ai (bW (bj kI (aA (av K) (pv 2) aj (λ_ _=>rfl)) eJ (bt _))
   (aq (aM (aB yX wy rfl T.yy T.yz T.yA .nil aJ (ae (aA (av K) (pv 0) aj (λ_ _=>rfl)) (ae (pv 1) (ae (pv 2) ag))))))
   bu)
  (ai (bW (bj kI (aA (av K) (pv 2) aj (λ_ _=>rfl)) eJ (bt _))
   (aq (aM (aB yY wz rfl T.yC T.yD T.yE .nil aJ (ae (aA (av K) (pv 0) aj (λ_ _=>rfl)) (ae (pv 1) (ae (pv 2) ag))))))
   bu)
  (ai (bW (bj kI (aA (av K) (pv 2) aj (λ_ _=>rfl)) eJ (bt _))
   (aq (aM (aB yW wA rfl T.yG T.yH T.yI .nil aJ (ae (pv 0) (ae (pv 1) (ae (pv 2) ag))))))
   bu)
  (aq (aM (aB wx uX rfl T.vM T.vN T.vO .nil aJ (ae (pv 0) (ae (pv 1) (ae (pv 2) ag))))))))),?_⟩
  refine⟨_,rfl,sy,_,_,.str "sign",rfl,rfl,.of S.sy,ao (j:=0) rfl,rfl,_,rfl,?_⟩
  refine iB (λz=>absurd z (by decide)) (λ_=>?_)
  refine⟨_,rfl,sy,_,_,.str "sign",rfl,rfl,.of S.sy,ao (j:=0) rfl,rfl,_,rfl,?_⟩
  refine iB (λz=>absurd z (by decide)) (λ_=>?_)
  refine⟨_,rfl,sy,_,_,.str "sign",rfl,rfl,.of S.sy,ao (j:=0) rfl,rfl,_,rfl,?_⟩
  refine iB (λ_=>?_) (λz=>absurd (by decide) z)
  exact⟨_,rfl,_,rfl,_,rfl,b,n,B,wo,Dw,nm,sy,ra,ta,kvs,x,_,t,sn,sg,mv,ss,rfl,hb2,hb4,S.wo,S.dw,S.at',S.row,S.len,S.pos,S.aV,S.sy,S.tm,S.few,S.num,KW,S.big,en,l4,tb,q⟩
def K1(a:bF):Sp:=λvs H Q _=>∃(b n B most:Nat) (wo Dw sy ra ta:Addr) (kvs:List (Key×V)) (x:Str) (t:Term) (sn:Int) (sg:List Nat) (mv:List (List Nat)) (ss:List Str),vs=[.ref wo,.ref sy,.int most]/\2<=b/\b<=4/\wk b n B wo Dw sy ra ta kvs x t sn sg mv H/\(∀ks:List Str,ks.length<=4->∀z∈di b (ks.map t.at),0<=z/\z<=(B:Int))/\iu ss t/\ss.length<=4/\most<=10000/\TB a H/\
 (∀(ks:List Str) (xs:List (List Nat)) (c:Nat) (H':Hp),KX a H H'->TB a H'->d_ ks (.sign x t sn)->t.num=(c:Int)->xs.Nodup->(∀p∈xs,∃w,bM (b ^ ks.length) w/\p=dc (M6 b mv t ks) [0,c] w)->most<xs.length->Q .non H')/\
 ∀(ks:List Str) (p nm:Addr) (xs:List (List Nat)) (c:Nat) (mw:List (List Nat)) (H':Hp),KX a H H'->TB a H'->d_ ks (.sign x t sn)->t.num=(c:Int)->QR H' p nm (xs.map (wd b sg mv sn)) mw->H' nm=some (.tup (ks.map V.str))->mw.length=xs.length->xs.length<=most->cw [0,c] (M6 b mv t ks) (b ^ ks.length) xs mw->Q (.ref p) H'
theorem uY:aN ["world","saying","most","names"] ["world","saying","most"] (ah cH):=⟨rfl,rfl,rfl,by decide+kernel,rfl,by decide+kernel,by decide+kernel⟩
theorem Ot{a:bF}{pb:lY}{pc:m5}(T:Txt K mg a)(hB:fP mg base)(U:ji K w.params mg pb)(Y:jP K w.params mg pc):aR P w K mg base bh 6 a.jU a.jg ["world","saying","most"] (K1 a):=by
 have K2:aR P w K mg base bh 4 a.gA a.ie ["saying"] (Q7 K):=yS T U Y
 have yZ:=wu (P:=P) (w:=w) (base:=base) T hB
 have K3:=yT (P:=P) (w:=w) (base:=base) T 3
 refine T.QA.ok uY (λvs H Q E h=>?_) (λAr outer s H vs Q E hr h=>?_)
 ·obtain⟨b,n,B,most,wo,Dw,sy,ra,ta,kvs,x,t,sn,sg,mv,ss,rfl,_⟩:=h
  rfl
 ·obtain⟨b,n,B,most,wo,Dw,sy,ra,ta,kvs,x,t,sn,sg,mv,ss,rfl,hb2,hb4,S,KW,ov,l4,hm,tb,q0,q⟩:=h
  have y_:aL 4 _:=hr.mono (by decide)
  have wB:aL 4 _:=hr.mono (by decide)
  have y6:aL 5 _:=hr
  refine⟨_,(ai (az (i:=3) uY.nd rfl (Ai rfl) (aB K2 y_ rfl T.Kl T.Km T.Kn .nil aJ (ae (pv 1) ag)))
  (aq (aM (aB K3 y6 rfl T.J9 T.J' T.Ka .nil aJ (ae (aA (av K) (pv 0) aj (λ_ _=>rfl)) (ae (pv 3) (ae (aB yZ wB rfl T.yK T.yL T.yM .nil aJ (ae (pv 0) (ae (pv 3) (ae (pv 1) ag)))) (ae (pv 2) ag)))))))),?_⟩
  have dat:au K H (.ref sy) (ax.sign x t sn).dt:=fY (.of S.sy) (bP nF (bP nF (bP S.tm.dat (bP vz fh))))
  obtain⟨c,hc,hcB⟩:=S.num
  refine⟨_,rfl,_,ax.sign x t sn,ss,rfl,dat,BI _,ov,by omega,λnm ks H1 s1 en fr=>?_⟩
  have lk:ks.length<=4:=A1 (fr.len ov) l4
  have S1:=S.kx (KX.same (a:=a) s1)
  dsimp only[aO]
  refine⟨_,rfl,wo,_,_,.int (b:Nat),rfl,rfl,.of S1.wo,ao (j:=0) rfl,_,rfl,_,rfl,_,rfl,_,rfl,b,n,B,wo,Dw,nm,sy,ra,ta,kvs,x,t,sn,sg,mv,ks,rfl,hb2,hb4,S1,KW ks lk,en,lk,tb.same s1,λg z0 f1 f2 sa D H2 k2 tb2 hD ev ez eg F1 F2=>?_⟩
  refine⟨_,rfl,b,most,nm,g,ks,List Nat,qj.toS P w,M6 b mv t ks,wd b sg mv sn,qA n B,iU ra sa sy sg mv (di b (ks.map t.at)) [.str "sign",.str x,.ref ta,.int sn],[0,c],_,f1,f2,D,rfl,hb4,lk,k2.kt _ _ en,eg,hD,F1,F2,λ_ _ h _=>Rt hb2 S.aV (λz hz=>(KW ks lk z hz).2) h _,λH H' e s=>e.same s,λD H hD e=>e.dk hD,⟨z0,rfl,by rw[ez,hc];rfl⟩,⟨0,c,rfl,S.pos,hcB⟩,ev,hm,λxs H3 s3 nd rc lt=>?_,λxs mw p H3 s3 hl hle gr ZG=>?_⟩
  ·exact q0 ks xs c H3 ((KX.same s1).trans (k2.trans (KX.same s3))) (tb2.same s3) fr hc nd rc lt
  ·exact q ks p nm xs c mw H3 ((KX.same s1).trans (k2.trans (KX.same s3))) (tb2.same s3) fr hc ZG (s3 _ _ (k2.kt _ _ en)) hl hle gr
def aco(a:bF):Sp:=λvs H Q _=>∃(b:Nat) (ra:Addr) (sg:List Nat) (mv:List (List Nat)),vs=[.int b,.ref ra]/\2<=b/\b<=4/\dG H ra sg mv/\Moves sg.length b mv/\0<sg.length/\sg.length<=100/\TB a H/\
 ∀(p Rr va:Addr) (xs:List Nat) (bT:List (List Nat)) (ps:List Addr) (H':Hp),KX a H H'->TB a H'->cw 0 (stp mv) b xs bT->bT.length=xs.length->H' p=some (.tup [.ref Rr,.ref va])->H' Rr=some (.lst ((ak xs).map V.int))->H' va=some (.tup (ps.map V.ref))->cO H' ps (bT.map ak)->Q (.ref p) H'
theorem mf(mv:List (List Nat)):∀(w:List Nat) (r:Nat),dc (stp mv) r w=run mv r w
 | [],_=>rfl
 | a::w,r=>mf mv w (stp mv r a)
theorem K4{P:Af}{w:World}{H:Hp}:∀{vs:List V} {xs:List Nat},kh (NZ.toS P w) H vs xs->vs=(ak xs).map V.int
 | _,_,.nil=>rfl
 | _,_,.cons (b:=x) h t=>by
  rw[K4 t,show _=V.int (x:Int) from h];rfl
theorem wC{n b:Nat}{mv:List (List Nat)}(m:Moves n b mv)(h0:0<n){xs:List Nat}(nd:xs.Nodup)(rc:∀x∈xs,∃w,bM b w/\x=dc (stp mv) 0 w):xs.length<=n:=by
 have:=BY nd (l₂:=Ao n) λx hx=>by
  obtain⟨w,hw,rfl⟩:=rc x hx
  rw[mf]
  exact A4.mpr (m.run h0 hw)
 rwa [A2] at this
theorem mh:aN ["base","row","onward","grown"] ["base","row"] (ah cY):=⟨rfl,rfl,rfl,by decide+kernel,rfl,by decide+kernel,by decide+kernel⟩
set_option maxHeartbeats 16000000 in
theorem K5{a:bF}(T:Txt K mg a)(hB:fP mg base):aR P w K mg base bh 3 a.jM a.lK ["base","row"] (aco a):=by
 refine T.LJ.ok mh (λvs H Q E h=>?_) (λAr outer sh H vs Q E hr h=>?_)
 ·obtain⟨b,ra,sg,mv,rfl,_⟩:=h
  rfl
 ·obtain⟨b,ra,sg,mv,rfl,hb2,hb4,hrw,aV,n0,n1,tb,q⟩:=h
  have md:aL 2 _:=hr
  refine⟨_,(ai (az (i:=2) mh.nd rfl (Ai rfl) (kO (T:=a.bz) (L:=Vh) rfl T.rE hB rfl rfl (AQ) (apart2 (by decide)) rfl))
  (ai (az (i:=3) mh.nd rfl (Ai rfl) (r9 (λ_=>rfl) md rfl T.lT T.lU T.lV (ae aj (ae (pv 0) (ae (pv 2) (ae (kO (T:=a.bz) (L:=Vh) rfl T.rE hB rfl rfl (AM _ AQ) (apart2 (by decide)) rfl) (ae (aQ (aZ K) (by rfl) T.cA bR (ae (aA (av K) (pv 1) aj (λ_ _=>rfl)) ag)) ag)))))))
  (aq (aM (bx (ae (aA (av K) (pv 3) aj (λ_ _=>rfl)) (ae (aA (av K) (pv 3) aj (λ_ _=>rfl)) ag))))))),?_⟩
  have big:(100000:Nat)<=sizeLine:=by decide
  refine⟨tb.rm,λf1 c1 Zz H4 hf1 Ru Rv tV Rw=>?_⟩
  have M7:=tb.krm T Rw tV
  have T0:∃qs,H a.bz=some (.de qs):=let ⟨qs,z,_⟩:=tb.rm;⟨qs,z⟩
  have T4:∃qs,H4 a.bz=some (.de qs):=let ⟨qs,z,_⟩:=tV;⟨qs,z⟩
  have nT:∀{H:Hp} {b:Addr} {o:HO},(∃qs,H a.bz=some (.de qs))->H b=some o->(∀qs,o≠.de qs)->b≠a.bz:=λ⟨qs,z⟩ e hn y=>by rw[y,z] at e;exact hn qs (AN e).symm
  have k04:∀{b:Addr} {o:HO},H b=some o->(∀qs,o≠.de qs)->H4 b=some o:=λe hn=>Rw _ _ e (nT T0 e hn)
  dsimp only[aO]
  refine⟨_,rfl,_,rfl,tV,λf2 c2 ZA H5 hf2 KY KZ K_ x3=>?_⟩
  have x4:=M7.krm T x3 K_
  have K6:∀{b:Addr} {o:HO},H4 b=some o->(∀qs,o≠.de qs)->H5 b=some o:=λe hn=>x3 _ _ e (nT T4 e hn)
  have Vk:∀{b:Addr} {o:HO},H b=some o->(∀qs,o≠.de qs)->H5 b=some o:=λe hn=>K6 (k04 e hn) hn
  have afz:bq H H5:=λb xs z=>Vk z (λ_ y=>nomatch y)
  have Vl:=hrw.keep afz
  obtain⟨sa,ma,xW,e1,e2,e3,tp⟩:=id Vl
  refine⟨_,rfl,ra,_,_,.ref sa,rfl,rfl,.of e1,ao (j:=0) rfl,.ref sa,sg.length,rfl,.inr ⟨_,.of e2,by rw[AB,a_]⟩,?_⟩
  have K8:=K6 Ru (λ_ y=>nomatch y)
  have K9:=K6 Rv (λ_ y=>nomatch y)
  have hD:∀b∈[f1,c1,f2,c2],∃φ,H5 b=some (.ext φ):=λb hb=>by
   simp only[AV,CU,or_false] at hb
   rcases hb with z | z | z | z<;>subst z
   ·exact⟨_,K8⟩
   ·exact⟨_,K9⟩
   ·exact⟨_,KY⟩
   ·exact⟨_,KZ⟩
  refine⟨[f1,c1,f2,c2],hD,λbase' W=>?_⟩
  have F1:FnAt P w K mg base' 1 f1 2 (vX (NZ.toS P w) b (stp mv) (λr=>r<sg.length) (λH=>dG H ra sg mv)):=by
   refine FnAt.lam W K8 (by simp) K9 (by simp) (ps:=["room","figure"]) (aI:=["row"]) (fvs:=[.ref ra]) (dR.mk' rfl rfl rfl (by decide+kernel) (by decide+kernel) (by decide+kernel) (by decide+kernel) (by decide+kernel))
    (A8.mpr ⟨rfl,λ_ h=>nomatch h⟩) (.cons ⟨1,rfl,rfl,rfl,rfl⟩ .nil) (λus hl=>match us,hl with | [_,_],_=>rfl) (λvs H Q E h=>?_) (λA outer s H vs Q E hr h=>?_)
   ·obtain⟨x,v,c,rfl,_⟩:=h
    rfl
   ·obtain⟨x,v,c,rfl,rp,hx,hc,⟨sa,ma,xW,e1,e2,e3,tp⟩,kk⟩:=h
    cases(show v=V.int (x:Int) from rp)
    refine⟨_,aA (av K) (aA (av K) (aA (av K) (pv 2) aj (λ_ _=>rfl)) (pv 0) (λ_ _=>rfl)) (pv 1) (λ_ _=>rfl),?_⟩
    obtain⟨r1,r2,r3⟩:=aV.row tp hx
    refine⟨_,rfl,ra,_,_,.ref ma,rfl,rfl,.of e1,ao (j:=1) rfl,_,rfl,ma,_,_,.ref (xW.getD x 0),rfl,rfl,.of e3,ao (by rw[AJ,r1];rfl),_,rfl,_,_,_,.int (stp mv x c:Nat),rfl,rfl,.of r2,ao (bE (by rw[r3];exact hc)),?_⟩
    exact kk _ H (Same.refl H) rfl
  have F2:FnAt P w K mg base' 1 f2 1 (vY (NZ.toS P w) (λ_=>true) (λr=>r<sg.length) (λH=>dG H ra sg mv)):=by
   refine FnAt.lam W KY (by simp) KZ (by simp) (ps:=["room"]) (aI:=[]) (fvs:=[]) (dR.mk' rfl rfl rfl (by decide+kernel) (by decide+kernel) (by decide+kernel) (by decide+kernel) (by decide+kernel))
    (λ_ h=>nomatch h) .nil (λus hl=>match us,hl with | [_],_=>rfl) (λvs H Q E h=>?_) (λA outer s H vs Q E hr h=>?_)
   ·obtain⟨x,v,rfl,_⟩:=h
    rfl
   ·obtain⟨x,v,rfl,rp,hx,hEv,kk⟩:=h
    exact⟨_,fm,kk H (Same.refl H)⟩
  refine⟨_,ki (k:=1) T (NZ.toS P w) F1 F2 (λr c hr hc=>aV.stp hr hc) (λH H' e s=>e.keep s.kt),?_⟩
  have u5:∀{b:Addr} {o:HO},H5 b=some o->(∀φ,o≠.ext φ)->dk [f1,c1,f2,c2] H5 b=some o:=λe hn=>lC hD e hn
  refine⟨0,.int 0,sg.length,rfl,rfl,n0,Vl.keep λb xs z=>u5 z (λ_ y=>nomatch y),.inl (by omega),by omega,λxs H6 s6 nd rc lt n6=>?_,λxs bT vs p Rr ya va ps H6 s6 hRr hl M1 g ep eRr ZH eya eva tp' n6=>?_⟩
  ·have:=wC aV n0 nd rc
   omega
  have Rx:=mE s6
  have o6:∀{b:Addr} {o:HO},H6 b=some o->fB [f1,c1,f2,c2] H5 H6 b=some o:=λ{b o} e=>by
   rw[dS λz=>?_]
   ·exact e
   ·rw[n6 b z] at e;cases e
  have K':=o6 ep
  have tW:=o6 eRr
  have La:=o6 eva
  have n4:=tp'.keep (λb xs z=>o6 z:bq H6 (fB [f1,c1,f2,c2] H5 H6))
  have rM:=x4.same Rx
  have kx:KX a H (fB [f1,c1,f2,c2] H5 H6):=λb o e hn=>Rx _ _ (Vk e hn)
  generalize fB [f1,c1,f2,c2] H5 H6=H7 at K' tW La n4 rM kx ⊢
  rw[K4 ZH] at tW
  dsimp only[aO]
  refine⟨_,rfl,p,_,_,.ref Rr,rfl,rfl,.of K',ao (j:=0) rfl,_,rfl,p,_,_,.ref va,rfl,rfl,.of K',ao (j:=2) rfl,by show 2<=sizeLine;omega,λm2 hm2=>?_⟩
  have s8:=Same.new (o:=.tup [.ref Rr,.ref va]) hm2
  exact q m2 Rr va xs bT ps _ (λb o e hn=>s8 _ _ (kx b o e hn)) (rM.same s8) g hl af (s8 _ _ tW) (s8 _ _ La) (n4.keep s8.kt)
def mj(bT:List (List Nat))(m:Nat)(S:List Nat)(c:Nat):List Nat:=(Ao m).map λi=>S.getD (stp bT i c) 0
def aw(A:List Nat):Nat->List (List Nat)
 | 0=>[[]]
 | m+1=>(aw A m).flatMap λl=>A.map (· ::l)
theorem Ry(A:List Nat):∀m,(aw A m).length=A.length ^ m
 | 0=>rfl
 | m+1=>by
  have key:∀ls:List (List Nat),(ls.flatMap λl=>A.map (· ::l)).length=ls.length*A.length:=λls=>by
   induction ls with
   | nil=>simp
   | cons l ls ih=>rw[E9,AR,ih,AB,Aj,Nat.succ_mul,JP]
  show((aw A m).flatMap _).length=_
  rw[key,Ry A m,Cp]
theorem Rz{A:List Nat}:∀{l:List Nat},(∀z∈l,z∈A)->l∈aw A l.length
 | [],_=>Ad.mpr rfl
 | z::l,h=>FP.mpr ⟨l,Rz λy hy=>h y (AM _ hy),As.mpr ⟨z,h z AQ,rfl⟩⟩
def rN(A:List Nat)(m:Nat)(S:List Nat):Prop:=S.length=m/\∀z∈S,z∈A
theorem RA{A:List Nat}{m b:Nat}{bT:List (List Nat)}(mo:Moves m b bT){S:List Nat}(h:rN A m S){c:Nat}(hc:c<b):rN A m (mj bT m S c):=by
 refine⟨by unfold mj;rw[AB,A2],λz hz=>?_⟩
 obtain⟨i,hi,rfl⟩:=As.mp hz
 have hs:=mo.stp (A4.mp hi) hc
 exact h.2 _ (AI (item_at 0 (by rw[h.1];exact hs)))
theorem M8{A:List Nat}{m:Nat}{l:List (List Nat)}(nd:l.Nodup)(h:∀S∈l,rN A m S):l.length<=A.length ^ m:=by
 rw[<-Ry A m]
 refine BY nd λS hS=>?_
 obtain⟨h1,h2⟩:=h S hS
 rw[<-h1]
 exact Rz h2
theorem qS{A:List Nat}{m b:Nat}{bT:List (List Nat)}(mo:Moves m b bT):∀{w:List Nat} {S:List Nat},rN A m S->bM b w->rN A m (dc (mj bT m) S w)
 | [],_,h,_=>h
 | c::w,S,h,hw=>qS mo (w:=w) (RA mo h (hw c AQ)) λx hx=>hw x (AM _ hx)
structure iy (b:Nat)(sg:List Nat)(mv:List (List Nat))(sg2:List Nat)(mv2:List (List Nat)):Prop where
 is:∃(xs:List Nat) (bT:List (List Nat)) (Ss:List (List Nat)),cw 0 (stp mv) b xs bT/\bT.length=xs.length/\cw (xs.map λx=>sg.getD x 0) (mj bT xs.length) b Ss mv2/\mv2.length=Ss.length/\sg2=Ss.map λS=>S.getD 0 0
def WX(a:bF):Sp:=λvs H Q _=>∃(b:Nat) (ra:Addr) (sg:List Nat) (mv:List (List Nat)),vs=[.int b,.ref ra]/\2<=b/\b<=4/\dG H ra sg mv/\Moves sg.length b mv/\0<sg.length/\sg.length<=3/\TB a H/\
 ∀(p:Addr) (sg2:List Nat) (mv2:List (List Nat)) (H':Hp),KX a H H'->TB a H'->dG H' p sg2 mv2->iy b sg mv sg2 mv2->Q (.ref p) H'
theorem jZ:aN ["base","row","met","first","onward","grown"] ["base","row"] (ah dU):=⟨rfl,rfl,rfl,by decide+kernel,rfl,by decide+kernel,by decide+kernel⟩
set_option maxHeartbeats 16000000 in
theorem RB{a:bF}(T:Txt K mg a)(hB:fP mg base):aR P w K mg base bh 4 a.oP a.qq ["base","row"] (WX a):=by
 have LY:=K5 (P:=P) (w:=w) (base:=base) T hB
 obtain⟨gt,hFB⟩:=T.Kt
 refine T.Ta.ok jZ (λvs H Q E h=>?_) (λAr outer sh H vs Q E hr h=>?_)
 ·obtain⟨b,ra,sg,mv,rfl,_⟩:=h
  rfl
 ·obtain⟨b,ra,sg,mv,rfl,hb2,hb4,hrw,aV,n0,n1,tb,q⟩:=h
  have Lb:aL 3 _:=hr
  have md:aL 2 _:=hr.mono (by decide)
  refine⟨_,(ai (az (i:=2) jZ.nd rfl (DD rfl) (aB LY Lb rfl T.LK T.LL T.LN .nil aJ (ae (pv 0) (ae (pv 1) ag))))
  (ai (az (i:=3) jZ.nd rfl (Ai rfl) (bD (bO K) (by rfl) T.dh cE (ae (cz (aP.mk' (esc:=ah dU) (N:=["base","row","met","first","onward","grown"]) (own:=["room"]) (aI:=["row"]) (bN:=[1]) rfl rfl (by decide+kernel)) rfl (dJ (aA (av K) (pv 2) aj (λ_ _=>rfl))) (λ_ _ _ _=>(aH (i:=0) (show Bs (["room","row"]:List Str) by decide+kernel) rfl (Ai rfl))) (λ_ _ _ _=>bK) (λ_ _ _ _=>(aA (av K) (aA (av K) (pv 1) aj (λ_ _=>rfl)) (pv 0) (λ_ _=>rfl)))) ag)))
  (ai (az (i:=4) jZ.nd rfl (Ai rfl) (kO (T:=a.cb) (L:=Vi) rfl T.Kb hB rfl rfl (AQ) (apart2 (by decide)) rfl))
  (ai (az (i:=5) jZ.nd rfl (Ai rfl) (r9 (λ_=>rfl) md rfl T.lT T.lU T.lV (ae (pv 3) (ae (pv 0) (ae (pv 4) (ae (kO (T:=a.cb) (L:=Vi) rfl T.Kb hB rfl rfl (AM _ AQ) (apart2 (by decide)) rfl) (ae (V8 (v:=.int 1000000) rfl hFB ⟨gt,rfl⟩) ag)))))))
  (aq (aM (bx (ae (bD (bO K) (by rfl) T.dh cE (ae (cz (aP.mk' (esc:=ah dU) (N:=["base","row","met","first","onward","grown"]) (own:=["signs"]) (aI:=[]) (bN:=[]) rfl rfl (by decide+kernel)) rfl (dJ (aA (av K) (pv 5) aj (λ_ _=>rfl))) (λ_ _ _ _=>(aH (i:=0) (show Bs (["signs"]:List Str) by decide+kernel) rfl (Ai rfl))) (λ_ _ _ _=>bK) (λ_ _ _ _=>(aA (av K) (pv 0) aj (λ_ _=>rfl)))) ag)) (ae (aA (av K) (pv 5) aj (λ_ _=>rfl)) ag))))))))),?_⟩
  have big:(100000:Nat)<=sizeLine:=by decide
  refine⟨_,rfl,_,rfl,b,ra,sg,mv,rfl,hb2,hb4,hrw,aV,n0,by omega,tb,λme Rr va xs bT ps H1 kx1 xZ g hl ep eR ev tp=>?_⟩
  have rw1:=hrw.keep kx1.kt
  have few:=wC aV n0 g.once g.reach
  have x0:0<xs.length:=(AF.mp g.first).1
  have xlt:∀x∈xs,x<sg.length:=λx hx=>by
   obtain⟨w,hw,rfl⟩:=g.reach x hx
   rw[mf]
   exact aV.run n0 hw
  have RC:Moves xs.length b bT:=g.aV hl
  dsimp only[aO]
  refine aW λY hY=>?_
  refine⟨_,rfl,me,_,_,.ref Rr,rfl,rfl,.of ep,ao (j:=0) rfl,Rr,rfl,⟨_,.of eR⟩,λC hC=>?_⟩
  refine iN (xs:=(ak xs).map V.int) (λj σ H'=>∃v:Option V,σ=[v,some (.ref ra)]/\Same H1 H'/\H' C=some (.lst ((ak ((xs.map λx=>sg.getD x 0).take j)).map V.int)))
   ⟨none,?sg,Same.new hC,af⟩ (λj σ H' _ ⟨_,_,s',_⟩=>.of (s' _ _ eR)) ?_ ?_
  case sg=>rfl
  ·rintro j y σ H2 hy ⟨v,rfl,s2,c2⟩
   obtain⟨x,rfl,ex⟩:=jD hy
   have hx:=xlt x (AI ex)
   obtain⟨sa,ma,xW,e1,e2,e3,tp0⟩:=rw1.keep s2.kt
   refine⟨_,rfl,ra,_,_,.ref sa,rfl,rfl,.of e1,ao (j:=0) rfl,_,rfl,sa,_,_,.int (sg.getD x 0:Nat),rfl,rfl,.of e2,ao (bE hx),_,c2,?_,_,rfl,s2.kbn hC KB.write,?_⟩
   ·rw[AB,a_,Az,AB];omega
   ·rw[af,take_snoc (show(xs.map λx=>sg.getD x 0)[j]? =some (sg.getD x 0) by rw[AJ,ex];rfl),eV,AW];rfl
  rintro σ H2 ⟨v,rfl,s2,c2⟩
  rw[AB,a_,BD (by rw[AB];exact AK _)] at c2
  refine⟨C,_,rfl,.inl ⟨.of c2,λF hF=>?_⟩⟩
  have sF:=Same.new (o:=.tup ((ak (xs.map λx=>sg.getD x 0)).map V.int)) hF
  have s3:=s2.trans sF
  have eF:(upd H2 F (.tup ((ak (xs.map λx=>sg.getD x 0)).map V.int))) F=some (.tup ((ak (xs.map λx=>sg.getD x 0)).map V.int)):=af
  generalize upd H2 F (.tup ((ak (xs.map λx=>sg.getD x 0)).map V.int))=H3 at s3 eF ⊢
  have n_:=xZ.same s3
  subst hY
  dsimp only[aO]
  refine⟨n_.ro,λf1 c1 Zz H4 hf1 Ru Rv tV Rw=>?_⟩
  have M7:=n_.kro T Rw tV
  have T3:∃qs,H3 a.cb=some (.de qs):=let ⟨qs,z,_⟩:=n_.ro;⟨qs,z⟩
  have T4:∃qs,H4 a.cb=some (.de qs):=let ⟨qs,z,_⟩:=tV;⟨qs,z⟩
  have nT:∀{H:Hp} {b:Addr} {o:HO},(∃qs,H a.cb=some (.de qs))->H b=some o->(∀qs,o≠.de qs)->b≠a.cb:=λ⟨qs,z⟩ e hn y=>by rw[y,z] at e;exact hn qs (AN e).symm
  have k34:∀{b:Addr} {o:HO},H3 b=some o->(∀qs,o≠.de qs)->H4 b=some o:=λe hn=>Rw _ _ e (nT T3 e hn)
  dsimp only[aO]
  refine⟨_,rfl,_,rfl,_,rfl,tV,λf2 c2 ZA H5 hf2 KY KZ K_ x3=>?_⟩
  have x4:=M7.kro T x3 K_
  have K6:∀{b:Addr} {o:HO},H4 b=some o->(∀qs,o≠.de qs)->H5 b=some o:=λe hn=>x3 _ _ e (nT T4 e hn)
  have k35:∀{b:Addr} {o:HO},H3 b=some o->(∀qs,o≠.de qs)->H5 b=some o:=λe hn=>K6 (k34 e hn) hn
  have afA:bq H1 H5:=λb xs z=>k35 (s3 _ _ z) (λ_ y=>nomatch y)
  have eF5:=k35 eF (λ_ y=>nomatch y)
  have K8:=K6 Ru (λ_ y=>nomatch y)
  have K9:=K6 Rv (λ_ y=>nomatch y)
  have hD:∀b∈[f1,c1,f2,c2],∃φ,H5 b=some (.ext φ):=λb hb=>by
   simp only[AV,CU,or_false] at hb
   rcases hb with z | z | z | z<;>subst z
   ·exact⟨_,K8⟩
   ·exact⟨_,K9⟩
   ·exact⟨_,KY⟩
   ·exact⟨_,KZ⟩
  refine⟨[f1,c1,f2,c2],hD,λbase' W=>?_⟩
  let Ev:Hp->Prop:=λH=>H me=some (.tup [.ref Rr,.ref va])/\H va=some (.tup (ps.map V.ref))/\cO H ps (bT.map ak)
  have F1:FnAt P w K mg base' 1 f1 2 (vX (qj.toS P w) b (mj bT xs.length) (rN sg xs.length) Ev):=by
   refine FnAt.afn W K8 (by simp) K9 (by simp) (ps:=["signs","figure"]) (aI:=["met"]) (fvs:=[.ref me]) ⟨rfl,rfl,rfl,by decide+kernel,by decide+kernel,by decide+kernel,by decide+kernel,by decide+kernel⟩
    (A8.mpr ⟨rfl,λ_ h=>nomatch h⟩) (.cons ⟨2,rfl,rfl,rfl,rfl⟩ .nil) (λus hl=>match us,hl with | [_,_],_=>rfl) (λvs H Q E h=>?_) (λA outer s H vs Q E hr h=>?_)
   ·obtain⟨x,v,c,rfl,_⟩:=h
    rfl
   ·obtain⟨S,v,c,rfl,⟨rp,rfl,er⟩,Q9,hc,⟨h1,h2,h3⟩,kk⟩:=h
    refine⟨_,bD (bO K) (by rfl) T.dh cE (ae (cz (aP.mk' (esc:=_) (N:=["signs","figure","met"]) (own:=["leads"]) (aI:=["signs","figure"]) (bN:=[0,1]) rfl rfl (by rfl)) rfl (MG K (aA (av K) (pv 2) aj (λ_ _=>rfl))) (λ_ _ _ _=>(aH (i:=0) (show Bs (["leads","signs","figure"]:List Str) by decide+kernel) rfl (Ai rfl))) (λ_ _ _ _=>bK) (λ_ _ _ _=>(aA (av K) (pv 1) (aA (av K) (pv 0) (pv 2) (λ_ _=>rfl)) (λ_ _=>rfl)))) ag),?_⟩
    refine⟨_,rfl,me,_,_,.ref va,rfl,rfl,.of h1,ao (j:=1) rfl,va,rfl,⟨_,.of h2⟩,λC hC=>?_⟩
    have lp:ps.length=xs.length:=by rw[<-hl];simpa using Aq h3
    refine jn (xs:=ps.map V.ref) (λj σ H'=>∃v:Option V,σ=[v,some (.ref rp),some (.int c)]/\Same H H'/\H' C=some (.lst ((ak ((Ao j).map λi=>S.getD (stp bT i c) 0)).map V.int)))
     ⟨none,rfl,Same.new hC,af⟩ (λj σ H' _ ⟨_,_,s',_⟩=>.of (s' _ _ h2)) ?_ ?_
    ·rintro j y σ H2 hy ⟨v,rfl,s2,c2⟩
     rw[AJ] at hy
     obtain⟨r,hr',rfl⟩:=Ca.mp hy
     have hj:j<xs.length:=by rw[<-lp];exact(AF.mp hr').1
     obtain⟨r1,r2,r3⟩:=RC.row h3 hj
     have er':r=ps.getD j 0:=by rw[hr'] at r1;exact AN r1
     subst er'
     have hst:=RC.stp hj hc
     refine⟨_,rfl,_,rfl,_,rfl,_,_,_,.int (stp bT j c:Nat),rfl,rfl,.of (s2 _ _ r2),ao (bE (by rw[r3];exact hc)),rp,_,_,.int (S.getD (stp bT j c) 0:Nat),rfl,rfl,.of (s2 _ _ er),ao ?_,_,c2,?_,_,rfl,s2.kbn hC KB.write,?_⟩
     ·rw[AJ,item_at 0 (by rw[Q9.1];exact hst)];rfl
     ·rw[AB,a_,AB,A2];omega
     ·rw[af,EX,AW,eV,AW];rfl
    rintro σ H2 ⟨v,rfl,s2,c2⟩
    refine⟨C,_,rfl,.inl ⟨.of c2,λF' hF'=>?_⟩⟩
    refine kk _ _ (s2.trans (Same.new hF')) ⟨F',rfl,?_⟩
    rw[af,AB,lp]
    unfold mj ak
    rw[B',B',B'];rfl
  have F2:FnAt P w K mg base' 1 f2 1 (vY (qj.toS P w) (λ_=>true) (rN sg xs.length) Ev):=by
   refine FnAt.lam W KY (by simp) KZ (by simp) (ps:=["signs"]) (aI:=[]) (fvs:=[]) (dR.mk' rfl rfl rfl (by decide+kernel) (by decide+kernel) (by decide+kernel) (by decide+kernel) (by decide+kernel))
    (λ_ h=>nomatch h) .nil (λus hl=>match us,hl with | [_],_=>rfl) (λvs H Q E h=>?_) (λA outer s H vs Q E hr h=>?_)
   ·obtain⟨x,v,rfl,_⟩:=h
    rfl
   ·obtain⟨x,v,rfl,rp,hx,hEv,kk⟩:=h
    exact⟨_,fm,kk H (Same.refl H)⟩
  have RD:rN sg xs.length (xs.map λx=>sg.getD x 0):=⟨AB ..,λz hz=>by
   obtain⟨x,hx,rfl⟩:=As.mp hz
   exact AI (item_at 0 (xlt x hx))⟩
  have TN:∀l:List (List Nat),l.Nodup->(∀S∈l,∃w,bM b w/\S=dc (mj bT xs.length) (xs.map λx=>sg.getD x 0) w)->l.length<=27:=λl nd hl'=>by
   have z:=M8 (A:=sg) (m:=xs.length) nd λS hS=>by
    obtain⟨w,hw,rfl⟩:=hl' S hS
    exact qS RC RD hw
   have z2:sg.length ^ xs.length<=3 ^ xs.length:=EJ n1 _
   have z3:(3:Nat) ^ xs.length<=3 ^ 3:=BP (by decide) (by omega)
   exact A1 z (A1 z2 z3)
  refine⟨_,ki (k:=1) T (qj.toS P w) F1 F2 (λS c hS hc=>RA RC hS hc) (λH H' ⟨h1,h2,h3⟩ s=>⟨s _ _ h1,s _ _ h2,h3.keep s.kt⟩),?_⟩
  have u5:∀{b:Addr} {o:HO},H5 b=some o->(∀φ,o≠.ext φ)->dk [f1,c1,f2,c2] H5 b=some o:=λe hn=>lC hD e hn
  have t5:∀{b:Addr} {xs:List V},H1 b=some (.tup xs)->dk [f1,c1,f2,c2] H5 b=some (.tup xs):=λe=>u5 (afA _ _ e) (λ_ y=>nomatch y)
  refine⟨xs.map λx=>sg.getD x 0,.ref F,1000000,rfl,⟨F,rfl,?eF⟩,RD,⟨t5 ep,t5 ev,tp.keep λb xs z=>t5 z⟩,.inr λl nd hl'=>A1 (TN l nd hl') (by decide),by omega,λSs H6 s6 nd rc lt n6=>?_,λSs mv2 vs p Rr2 ya2 ZI ps2 H6 s6 hRr hl2 M1 g2 uw afB ZH am6 afC tp2 n6=>?_⟩
  case eF=>
   refine u5 (b:=F) ?_ (λ_ y=>nomatch y)
   rw[eF5];unfold ak
   rw[B',B',B'];rfl
  ·have:=TN Ss nd rc
   omega
  have Rx:=mE s6
  have o6:∀{b:Addr} {o:HO},H6 b=some o->fB [f1,c1,f2,c2] H5 H6 b=some o:=λ{b o} e=>by
   rw[dS λz=>?_]
   ·exact e
   ·rw[n6 b z] at e;cases e
  have K':=o6 uw
  have tW:=o6 afB
  have La:=o6 afC
  have n4:=tp2.keep (λb xs z=>o6 z:bq H6 (fB [f1,c1,f2,c2] H5 H6))
  have Rj:=ZH.keep (λb xs z=>o6 z:bq H6 (fB [f1,c1,f2,c2] H5 H6))
  have rM:=x4.same Rx
  have kx:KX a H (fB [f1,c1,f2,c2] H5 H6):=λb o e hn=>Rx _ _ (k35 (s3 _ _ (kx1 b o e hn)) hn)
  generalize fB [f1,c1,f2,c2] H5 H6=H7 at K' tW La n4 Rj rM kx ⊢
  have am7:=TN Ss g2.once g2.reach
  have Rb:vs.length=Ss.length:=Aq Rj
  dsimp only[aO]
  refine⟨_,rfl,p,_,_,.ref Rr2,rfl,rfl,.of K',ao (j:=0) rfl,Rr2,rfl,⟨_,.of tW⟩,λC hC=>?_⟩
  refine iN (xs:=vs) (λj σ H'=>∃v:Option V,σ=[v]/\Same H7 H'/\H' C=some (.lst ((ak ((Ss.map λS=>S.getD 0 0).take j)).map V.int)))
   ⟨none,rfl,Same.new hC,af⟩ (λj σ H' _ ⟨_,_,s',_⟩=>.of (s' _ _ tW)) ?_ ?_
  ·rintro j y σ H8 hy ⟨v,rfl,s8,c8⟩
   have hj:j<Ss.length:=by rw[<-Rb];exact(AF.mp hy).1
   have eS:Ss[j]? =some Ss[j]:=by simp[hj]
   obtain⟨v',hv',rp,ZJ,erp⟩:=Rj.at eS
   rw[hy] at hv'
   cases hv'
   have ZJ:y=.ref rp:=ZJ
   subst ZJ
   have okj:rN sg xs.length Ss[j]:=by
    obtain⟨w,hw,e⟩:=g2.reach Ss[j] (Cj hj)
    rw[e]
    exact qS RC RD hw
   refine⟨_,rfl,rp,_,_,.int (Ss[j].getD 0 0:Nat),rfl,rfl,.of (s8 _ _ erp),ao (j:=0) ?_,_,c8,?_,_,rfl,s8.kbn hC KB.write,?_⟩
   ·rw[AJ,item_at 0 (by rw[okj.1];exact x0)];rfl
   ·rw[AB,a_,Az,AB];omega
   ·rw[af,take_snoc (show(Ss.map λS=>S.getD 0 0)[j]? =some (Ss[j].getD 0 0) by rw[AJ,eS];rfl),eV,AW];rfl
  rintro σ H8 ⟨v,rfl,s8,c8⟩
  rw[BD (by rw[AB];omega)] at c8
  refine⟨C,_,rfl,.inl ⟨.of c8,λF' hF'=>?_⟩⟩
  have s9:=s8.trans (Same.new (o:=.tup ((ak (Ss.map λS=>S.getD 0 0)).map V.int)) hF')
  have eF9:(upd H8 F' (.tup ((ak (Ss.map λS=>S.getD 0 0)).map V.int))) F'=some (.tup ((ak (Ss.map λS=>S.getD 0 0)).map V.int)):=af
  generalize upd H8 F' (.tup ((ak (Ss.map λS=>S.getD 0 0)).map V.int))=H9 at s9 eF9 ⊢
  refine⟨_,rfl,p,_,_,.ref ZI,rfl,rfl,.of (s9 _ _ K'),ao (j:=2) rfl,by show 2<=sizeLine;omega,λm2 hm2=>?_⟩
  have zK:=Same.new (o:=.tup [.ref F',.ref ZI]) hm2
  exact q m2 (Ss.map λS=>S.getD 0 0) mv2 _ (λb o e hn=>zK _ _ (s9 _ _ (kx b o e hn))) ((rM.same s9).same zK) ⟨F',ZI,ps2,af,zK _ _ eF9,zK _ _ (s9 _ _ La),(n4.keep s9.kt).keep zK.kt⟩ ⟨xs,bT,Ss,g,hl,g2,hl2,rfl⟩
section
variable{n B:Nat}{kd:Nat->Nat->Nat}{nx:Nat->Nat->Nat}{A:Nat->List Nat}
structure Split (n B:Nat)(kd:Nat->Nat->Nat)(nx:Nat->Nat->Nat)(A:Nat->List Nat):Prop where
 step:∀t r s,r<n->s<n->(kd (t+1) r=kd (t+1) s↔kd t r=kd t s/\∀c,c<B->kd t (nx r c)=kd t (nx s c))
 stay:∀r c,r<n->c<B->nx r c<n
 part:∀r s,r<n->s<n->(∀t,kd t r=kd t s)->r=s
 once:∀t,(A t).Nodup
 all:∀t v,v∈A t↔∃r,r<n/\kd t r=v
theorem Split.still(S:Split n B kd nx A){t:Nat}(h:∀r s,r<n->s<n->kd t r=kd t s->kd (t+1) r=kd (t+1) s):∀k r s,r<n->s<n->kd t r=kd t s->kd (t+k) r=kd (t+k) s
 | 0,_,_,_,_,e=>e
 | k+1,r,s,hr,hs,e=>by
  have e1:=(S.step t r s hr hs).mp (h r s hr hs e)
  exact(S.step (t+k) r s hr hs).mpr ⟨S.still h k r s hr hs e,λc hc=>S.still h k _ _ (S.stay r c hr hc) (S.stay s c hs hc) (e1.2 c hc)⟩
theorem Split.down(S:Split n B kd nx A){r s:Nat}(hr:r<n)(hs:s<n):∀{t u:Nat},u<=t->kd t r=kd t s->kd u r=kd u s
 | 0,u,h,e=>by rw[Nat.le_zero.mp h];exact e
 | t+1,u,h,e=>by
  by_cases z:u=t+1
  ·rw[z];exact e
  ·exact S.down hr hs (show u<=t by omega) ((S.step t r s hr hs).mp e).1
theorem Split.parted(S:Split n B kd nx A){t:Nat}(h:∀r s,r<n->s<n->kd t r=kd t s->kd (t+1) r=kd (t+1) s){r s:Nat}(hr:r<n)(hs:s<n)(e:kd t r=kd t s):r=s:=
 S.part r s hr hs λu=>by
  by_cases z:u<=t
  ·exact S.down hr hs z e
  ·have:=S.still h (u-t) r s hr hs e
   rwa [show t+(u-t)=u by omega] at this
theorem m8{α β:Type}{f:α->β}:∀{l:List α},l.Nodup->(∀x∈l,∀y∈l,f x=f y->x=y)->(l.map f).Nodup
 | [],_,_=>by simp
 | a::l,nd,h=>by
  rw[Aw,B4]
  rw[B4] at nd
  refine⟨λz=>?_,m8 nd.2 λx hx y hy=>h x (AM _ hx) y (AM _ hy)⟩
  obtain⟨b,hb,e⟩:=As.mp z
  have:=h b (AM _ hb) a AQ e
  rw[this] at hb
  exact nd.1 hb
theorem Split.many(S:Split n B kd nx A)(hn:0<n):∀t,min n (t+1)<=(A t).length
 | 0=>by
  have:kd 0 0∈A 0:=(S.all 0 _).mpr ⟨0,hn,rfl⟩
  have:=Dg this
  omega
 | t+1=>by
  have ih:=S.many hn t
  classical
  let h:Nat->Nat:=λv=>if z:∃r,r<n/\kd (t+1) r=v then kd t z.choose else 0
  have hk:∀r,r<n->h (kd (t+1) r)=kd t r:=λr hr=>by
   have z:∃r',r'<n/\kd (t+1) r'=kd (t+1) r:=⟨r,hr,rfl⟩
   show(if z:∃r',r'<n/\kd (t+1) r'=kd (t+1) r then kd t z.choose else 0)=_
   rw[dif_pos z]
   exact((S.step t _ _ z.choose_spec.1 hr).mp z.choose_spec.2).1
  by_cases st:∀r s,r<n->s<n->kd t r=kd t s->kd (t+1) r=kd (t+1) s
  ·
   have le:((Ao n).map (kd (t+1))).length<=(A (t+1)).length:=BY (m8 EC λx hx y hy e=>S.parted st (A4.mp hx) (A4.mp hy) (S.down (A4.mp hx) (A4.mp hy) (B8 t) e)) λv hv=>by
    obtain⟨r,hr,e⟩:=As.mp hv
    exact(S.all _ _).mpr ⟨r,A4.mp hr,e⟩
   rw[AB,A2] at le
   omega
  ·
   obtain⟨r,s,hr,hs,e,ne⟩:∃r s,r<n/\s<n/\kd t r=kd t s/\kd (t+1) r≠kd (t+1) s:=BW λno=>st λr s hr hs e=>BW λne=>no ⟨r,s,hr,hs,e,ne⟩
   have mr:kd (t+1) r∈A (t+1):=(S.all _ _).mpr ⟨r,hr,rfl⟩
   have ms:kd (t+1) s∈A (t+1):=(S.all _ _).mpr ⟨s,hs,rfl⟩
   have le:(A t).length<=(((A (t+1)).erase (kd (t+1) r)).map h).length:=BY (S.once t) λv hv=>by
    obtain⟨x,hx,rfl⟩:=(S.all _ _).mp hv
    by_cases z:kd (t+1) x=kd (t+1) r
    ·refine As.mpr ⟨kd (t+1) s,(D5 (C0 ne)).mpr ms,?_⟩
     rw[hk s hs,<-e]
     exact(S.down hx hr (B8 t) z).symm
    ·exact As.mpr ⟨kd (t+1) x,(D5 z).mpr ((S.all _ _).mpr ⟨x,hx,rfl⟩),hk x hx⟩
   rw[AB,ET mr] at le
   have:=Dg mr
   omega
end
def gR(sg:List Nat)(mv:List (List Nat))(r:Nat)(w:List Nat):Nat:=sg.getD (run mv r w) 0
structure Ou (B:Nat)(sg:List Nat)(mv:List (List Nat)):Prop where
 pos:0<sg.length
 aV:Moves sg.length B mv
 inj:∀i j,i<sg.length->j<sg.length->(∀w,bM B w->gR sg mv i w=gR sg mv j w)->i=j
 go:bY mv 0 1=some sg.length
theorem Ov{B:Nat}{sg:List Nat}{mv:List (List Nat)}(c:Ou B sg mv){kd:Nat->Nat->Nat}{A:Nat->List Nat}(h0:∀r s,r<sg.length->s<sg.length->kd 0 r=kd 0 s->sg.getD r 0=sg.getD s 0)
  (step:∀t r s,r<sg.length->s<sg.length->(kd (t+1) r=kd (t+1) s↔kd t r=kd t s/\∀a,a<B->kd t (stp mv r a)=kd t (stp mv s a))) (once:∀t,(A t).Nodup) (all:∀t v,v∈A t↔∃r,r<sg.length/\kd t r=v):Split sg.length B kd (stp mv) A:=by
 refine⟨step,λr a hr ha=>c.aV.stp hr ha,λr s hr hs e=>c.inj r s hr hs ?_,once,all⟩
 have key:∀(w:List Nat) (r s:Nat),r<sg.length->s<sg.length->(∀t,kd t r=kd t s)->bM B w->gR sg mv r w=gR sg mv s w:=by
  intro w
  induction w with
  | nil=>intro r s hr hs e _;exact h0 r s hr hs (e 0)
  | cons a w ih=>
   intro r s hr hs e hw
   have ha:=hw a AQ
   exact ih _ _ (c.aV.stp hr ha) (c.aV.stp hs ha) (λt=>((step t r s hr hs).mp (e (t+1))).2 a ha) λx hx=>hw x (AM _ hx)
 exact λw hw=>key w r s hr hs e hw
def dg(b n:Nat):List Nat:=(fk b n).map Ft
def ZK:Sp:=λvs H Q _=>∃(b n:Nat) (ra:Addr) (sg:List Nat) (mv:List (List Nat)),vs=[.int b,.ref ra,.int n]/\2<=b/\b<=4/\dG H ra sg mv/\Moves sg.length b mv/\0<sg.length/\n<2 ^ 20000/\
 ∀H',Same H H'->Q (.int (gR sg mv 0 (dg b n).reverse:Nat)) H'
def WY(K:AD):Sp:=λvs H Q _=>∃(b:Nat) (ra fa:Addr) (sg:List Nat) (mv:List (List Nat)) (fs:List Nat),vs=[.ref ra,.ref fa]/\dG H ra sg mv/\Moves sg.length b mv/\0<sg.length/\bG K H fa ((ak fs).map V.int)/\bM b fs/\Q (.int (gR sg mv 0 fs:Nat)) H
theorem tX(w:List Nat):((ak w).map V.int).reverse=(ak w.reverse).map V.int:=by simp[ak,HB]
theorem kP{b:Nat}(hb:2<=b)(n:Nat):bM b (dg b n):=tU hb n
theorem qB:aN ["base","row","number","figures"] ["base","row","number"] (ah f_):=⟨rfl,rfl,rfl,by decide+kernel,rfl,by decide+kernel,by decide+kernel⟩
theorem Lc{a:bF}(T:Txt K mg a):aR P w K mg base bh 2 a.jL a.lJ ["base","row","number"] ZK:=by
 have gD:=kq (P:=P) (w:=w) (base:=base) T
 have gE:=ku (P:=P) (w:=w) (base:=base) T
 refine T.LF.ok qB (λvs H Q E h=>?_) (λcdv A outer s H vs Q E hr h=>?_)
 ·obtain⟨b,n,ra,sg,mv,rfl,_⟩:=h
  rfl
 ·obtain⟨b,n,ra,sg,mv,rfl,hb2,hb4,⟨sa,ma,ps,e1,e2,e3,tp⟩,aV,h0,hn,k⟩:=h
  have fV:aL 1 _:=hr
  have fW:aL 1 _:=hr
  refine⟨_,(ai (az (i:=3) qB.nd rfl (Ai rfl) (uq K rfl rfl T.Ks rfl T.uP (ae (aB gD fV rfl T.lM T.lN T.lO .nil aJ (ae (pv 0) (ae (pv 2) ag))) ag)))
  (aq (aM (aA (av K) (aA (av K) (pv 1) aj (λ_ _=>rfl)) (aB gE fW rfl T.lP T.lQ T.lR .nil aJ (ae (aA (av K) (pv 1) aj (λ_ _=>rfl)) (ae aj (ae (pv 3) ag)))) (λ_ _=>rfl))))),?_⟩
  refine⟨_,rfl,_,rfl,b,n,rfl,hb2,by omega,hn,λD H1 hD s1 d1=>?_⟩
  rw[<-gQ hb2 n] at d1
  refine⟨D,(ak (dg b n)).map V.int,rfl,.of d1,λl hl=>?_⟩
  have s2:=Same.new (o:=.lst ((ak (dg b n)).map V.int).reverse) hl
  have s:=s1.trans s2
  have el:(upd H1 l (.lst ((ak (dg b n)).map V.int).reverse)) l=some (.lst ((ak (dg b n).reverse).map V.int)):=by rw[af,tX]
  generalize upd H1 l (.lst ((ak (dg b n)).map V.int).reverse)=H2 at s el ⊢
  have hw:=(kP hb2 n).rev
  have hg:=jY aV (dg b n).reverse 0 h0 hw
  refine⟨_,rfl,ra,_,_,.ref sa,rfl,rfl,.of (s _ _ e1),ao (j:=0) rfl,_,rfl,ra,_,_,.ref ma,rfl,rfl,.of (s _ _ e1),ao (j:=1) rfl,_,rfl,ma,l,ps,b,sg.length,0,mv,_,rfl,s _ _ e3,tp.keep s.kt,aV,h0,.of el,hw,?_⟩
  refine⟨sa,_,_,.int (gR sg mv 0 (dg b n).reverse:Nat),rfl,rfl,.of (s _ _ e2),ao ?_,k _ s⟩
  unfold gR
  rw[<-nZ]
  exact bE hg
theorem mP:aN ["_law_row","_law_some","_law_room","_law_figure"] ["_law_row","_law_some"] (ah jw):=⟨rfl,rfl,rfl,by decide+kernel,rfl,by decide+kernel,by decide+kernel⟩
theorem x5{a:bF}(T:Txt K mg a):aR P w K mg base bh 1 a.oW a.qw ["_law_row","_law_some"] (WY K):=by
 refine T.Tv.ok mP (λvs H Q E h=>?_) (λcdv A outer s H vs Q E hr h=>?_)
 ·obtain⟨b,ra,fa,sg,mv,fs,rfl,_⟩:=h
  rfl
 ·obtain⟨b,ra,fa,sg,mv,fs,rfl,⟨sa,ma,ps,e1,e2,e3,tp⟩,aV,h0,hF,hf,k⟩:=h
  refine⟨_,(ai (az (i:=2) mP.nd rfl (Ai rfl) aj)
  (ai (cp A7 rfl (dJ (pv 1)) (aH (i:=3) mP.nd rfl (Ai rfl))
   (aq (az (i:=2) mP.nd rfl (Ai rfl) (aA (av K) (aA (av K) (aA (av K) (pv 0) aj (λ_ _=>rfl)) (pv 2) (λ_ _=>rfl)) (pv 3) (λ_ _=>rfl)))))
  (aq (aM (aA (av K) (aA (av K) (pv 0) aj (λ_ _=>rfl)) (pv 2) (λ_ _=>rfl)))))),?_⟩
  refine⟨_,rfl,fa,rfl,⟨_,hF⟩,iA (xs:=(ak fs).map V.int) (λi σ H'=>∃v3:Option V,σ=[some (.ref ra),some (.ref fa),some (.int (go mv 0 (fs.take i):Nat)),v3]/\H'=H)
   ⟨none,rfl,rfl⟩ (λi σ H' _ ⟨_,_,e⟩=>e▸hF) ?_ ?_⟩
  ·rintro i x σ H' hx ⟨v3,rfl,rfl⟩
   obtain⟨f,rfl,ef⟩:=jD hx
   have Rq:=hf f (AI ef)
   have hg:=jY aV (fs.take i) 0 h0 λz hz=>hf z (CY hz)
   obtain⟨r1,r2,r3⟩:=aV.row tp hg
   refine⟨_,rfl,ra,_,_,.ref ma,rfl,rfl,.of e1,ao (j:=1) rfl,_,rfl,ma,_,_,.ref (ps.getD (go mv 0 (fs.take i)) 0),rfl,rfl,.of e3,ao (by rw[AJ,r1];rfl),_,rfl,_,_,_,.int (stp mv (go mv 0 (fs.take i)) f:Nat),rfl,rfl,.of r2,ao (bE (by rw[r3];exact Rq)),some (.int (f:Int)),?_,rfl⟩
   rw[take_snoc ef,KQ]
   rfl
  ·rintro σ H' ⟨v3,rfl,rfl⟩
   rw[AB,a_,BQ]
   refine⟨_,rfl,ra,_,_,.ref sa,rfl,rfl,.of e1,ao (j:=0) rfl,_,rfl,sa,_,_,.int (gR sg mv 0 fs:Nat),rfl,rfl,.of e2,ao ?_,k⟩
   unfold gR
   rw[<-nZ]
   exact bE (jY aV fs 0 h0 hf)
theorem ml:aN ["_law_base_here","_law_number_here","_law_found"] ["_law_base_here","_law_number_here"] (ah gb):=⟨rfl,rfl,rfl,by decide+kernel,rfl,by decide+kernel,by decide+kernel⟩
theorem qC{a:bF}(T:Txt K mg a):aR P w K mg base bh 1 a.jN a.lL ["_law_base_here","_law_number_here"] xY:=by
 refine T.LU.ok ml (λvs H Q E h=>?_) (λcdv A outer s H vs Q E hr h=>?_)
 ·obtain⟨b,n,rfl,_⟩:=h
  rfl
 ·obtain⟨b,n,rfl,hb2,hb9,hn,k⟩:=h
  refine⟨_,(ai (az (i:=2) ml.nd rfl (Ai rfl) (eO ag))
  (ai (oj A7 (bj t9 (pv 1) aj (bt _))
   (ai (cM (fq A3 Ba Bb cZ (pv 2) (ae (aS jo (pv 1) (pv 0)) ag)))
   (aq (az (i:=1) ml.nd rfl (Ai rfl) (aS oA (pv 1) (pv 0))))))
  (aq (aM (pv 2))))),?_⟩
  refine⟨by decide,λD hD=>?_⟩
  have hlen:(fk b n).length<=20000:=tL hb2 20000 n hn
  refine zt (λσ H'=>∃(m:Nat) (pre:List Int),σ=[some (.int b),some (.int m),some (.ref D)]/\Same H H'/\H' D=some (.lst (pre.map V.int))/\pre++fk b m=fk b n)
   (λσ _=>match σ with | [_,some (.int m),_]=>m.toNat | _=>0) ⟨n,[],rfl,Same.new hD,af,rfl⟩ ?_ ?_
  ·rintro σ H1 ⟨m,pre,rfl,s1,e1,hp⟩
   refine⟨_,rfl,_,_,rfl,rfl,_,rfl,?_⟩
   refine iB (λhm=>?_) (λhm=>?_)
   ·have hm':0<m:=by have:=of_decide_eq_true hm;omega
    have hpl:pre.length<=20000:=by rw[<-hp,AR] at hlen;omega
    refine⟨_,rfl,.inl ⟨rfl,_,.of e1⟩,_,rfl,_,rfl,_,_,rfl,rfl,cpos (by omega),D,_,_,rfl,rfl,e1,?_,?_⟩
    ·rw[AB];exact BX hpl (by decide)
    refine⟨_,rfl,_,rfl,_,_,rfl,rfl,⟨by omega,xP hb9⟩,⟨m / b,pre++[((m % b:Nat):Int)],?_,s1.kbn hD KB.write,?_,?_⟩,?_⟩
    ·rw[ED];rfl
    ·rw[af,AW,HG];rfl
    ·rw[DN,<-hp,jF hb2 hm'];rfl
    ·show((m:Int) / (b:Int)).toNat<(m:Int).toNat
     rw[<-ED,Ae,Ae]
     exact EY hm' (by omega)
   ·have hm':m=0:=by
     by_cases z:m=0
     ·exact z
     ·exact absurd (decide_eq_true (show(0:Int)<(m:Int) by omega)) hm
    subst hm'
    rw[gC,Bg] at hp
    subst hp
    exact⟨_,rfl,k D H1 hD s1 e1⟩
  ·rintro σ H1 Q1 Q2 hQ ⟨v,e,i,j,e1,e2,c,e3,q⟩
   exact⟨v,e,i,j,e1,e2,c,e3,hQ _ _ q⟩
structure Right (b:Nat)(sg:List Nat)(mv:List (List Nat)):Prop where
 len:mv.length=sg.length
 small:sg.length<=1000
 two:2<=b/\b<=4
 lead:∀l∈mv,l.length=b/\∀x∈l,x<sg.length
 like:∀(i:Nat) (l:List Nat),mv[i]? =some l->sg.getD (l.getD 0 0) 0=sg.getD i 0
theorem Right.aV{b:Nat}{sg:List Nat}{mv:List (List Nat)}(h:Right b sg mv):Moves sg.length b mv:=⟨h.len,h.lead⟩
theorem ZL(x:Str)(v:V):bC ([(Bv x,v)]:List (Key×V)) (Bv x)=some v:=by simp[bC]
theorem uZ{H:Hp}{d:Addr}{x:Str}{v:V}(e:H d=some (.dK [(Bv x,v)])):gU H d (.str x) (some v):=by
 have:=gU.k (k:=Bv x) e
 rw[ZL] at this
 exact this
def WZ:Sp:=λvs H Q _=>∃(a:Addr) (l:List Nat) (m:Nat),vs=[.ref a,.int m]/\H a=some (.tup ((ak l).map V.int))/\l.length<=1000/\(∀x∈l,x<m)/\∀H',Same H H'->Q (.bl true) H'
def W_:Sp:=λvs H Q _=>∃(b:Nat) (r:Addr) (sg:List Nat) (mv:List (List Nat)),vs=[.int b,.ref r]/\dG H r sg mv/\Right b sg mv/\∀H',Same H H'->Q (.bl true) H'
def ZM:Sp:=λvs H Q _=>∃(b:Nat) (wa d r:Addr) (x:Str) (sg:List Nat) (mv:List (List Nat)),vs=[.ref wa]/\H wa=some (.tup [.int b,.ref d])/\H d=some (.dK [(Bv x,.ref r)])/\dG H r sg mv/\Right b sg mv/\∀H',Same H H'->Q .non H'
def ZN:Sp:=λvs H Q _=>∃(b n:Nat) (wa d r:Addr) (x:Str) (sg:List Nat) (mv:List (List Nat)),vs=[.ref wa,.str x,.int n]/\H wa=some (.tup [.int b,.ref d])/\H d=some (.dK [(Bv x,.ref r)])/\dG H r sg mv/\Right b sg mv/\0<sg.length/\n<2 ^ 20000/\
 ∀H',Same H H'->Q (.int (gR sg mv 0 (dg b n):Nat)) H'
theorem Ld:aN ["leads","many"] ["leads","many"] (ah fi):=⟨rfl,rfl,rfl,by decide+kernel,rfl,by decide+kernel,by decide+kernel⟩
theorem Le{a:bF}(T:Txt K mg a):aR P w K mg base bh 1 a.jK a.lI ["leads","many"] WZ:=by
 refine T.Lz.ok Ld (λvs H Q E h=>?_) (λcdv A outer s H vs Q E hr h=>?_)
 ·obtain⟨a,l,m,rfl,_⟩:=h
  rfl
 ·obtain⟨a,l,m,rfl,ea,ll,hl,k⟩:=h
  refine⟨_,(aq (aM (aQ (PL K rfl) (by rfl) T.aci X2 (ae (cz (aP.mk' (esc:=ah fi) (N:=["leads","many"]) (own:=["room"]) (aI:=["many"]) (bN:=[1]) rfl rfl (by decide+kernel)) rfl (kY (pv 0)) (λ_ _ _ _=>(aH (i:=0) (show Bs (["room","many"]:List Str) by decide+kernel) rfl (Ai rfl))) (λ_ _ _ _=>bK) (λ_ _ _ _=>(R6 Uy Nr aj (pv 0) (pv 1)))) ag)))),?_⟩
  refine⟨_,rfl,a,rfl,⟨_,.of ea⟩,λC hC=>?_⟩
  refine jn (xs:=(ak l).map V.int) (λi σ H'=>∃v:Option V,σ=[v,some (.int m)]/\Same H H'/\H' C=some (.lst ((C' i true).map V.bl)))
   ⟨none,rfl,Same.new hC,af⟩ (λi σ H' _ ⟨_,_,s,_⟩=>.of (s _ _ ea)) ?_ ?_
  ·rintro i x σ H1 hx ⟨v,rfl,s1,eC⟩
   obtain⟨n,rfl,en⟩:=jD hx
   have hi:=(AF.mp en).1
   have hn:=hl n (AI en)
   refine⟨_,rfl,_,_,rfl,rfl,_,rfl,?_⟩
   rw[decide_eq_true (show(0:Int)<=(n:Nat) by omega)]
   refine p8 ⟨_,rfl,_,_,rfl,rfl,?_⟩
   dsimp only
   rw[decide_eq_true (show((n:Nat):Int)<(m:Int) by omega)]
   refine⟨_,eC,?_,_,rfl,s1.kbn hC KB.write,?_⟩
   ·rw[AB,FC];exact AZ (show i<1000 by omega) (by decide)
   ·rw[af,List.replicate_succ',AW];rfl
  ·rintro σ H1 ⟨v,rfl,s1,eC⟩
   refine⟨C,_,rfl,.of eC,?_⟩
   rw[show(C' ((ak l).map V.int).length true).all id=true from FJ.mpr λx hx=>List.eq_of_mem_replicate hx]
   exact k _ s1
theorem hW:aN ["base","row","signs","moves","room","leads"] ["base","row"] (ah gL):=⟨rfl,rfl,rfl,by decide+kernel,rfl,by decide+kernel,by decide+kernel⟩
theorem LZ{a:bF}(T:Txt K mg a):aR P w K mg base bh 2 a.kJ a.mV ["base","row"] W_:=by
 have L_:=Le (P:=P) (w:=w) (base:=base) T
 refine T.N'.ok hW (λvs H Q E h=>?_) (λcdv A outer s H vs Q E hr h=>?_)
 ·obtain⟨b,r,sg,mv,rfl,_⟩:=h
  rfl
 ·obtain⟨b,r,sg,mv,rfl,⟨sa,ma,ps,e1,e2,e3,tp⟩,R,k⟩:=h
  have Lf:aL 1 _:=hr
  refine⟨_,(ai (az (i:=2) hW.nd rfl (Ai rfl) (aA (av K) (pv 1) aj (λ_ _=>rfl)))
  (ai (az (i:=3) hW.nd rfl (Ai rfl) (aA (av K) (pv 1) aj (λ_ _=>rfl)))
  (ai (bW (bj i_ (aQ (aZ K) (by rfl) T.cA bR (ae (pv 3) ag)) (aQ (aZ K) (by rfl) T.cA bR (ae (pv 2) ag)) (bt _))
   (aq (aM fm))
   bu)
  (ai (cp A7 rfl (zP rfl T.jO (ae (pv 3) ag)) (kX rfl (bV (aH (i:=4) hW.nd rfl (Ai rfl)) (bV (aH (i:=5) hW.nd rfl (Ai rfl)) iK)))
   (ai (bW (PW.pt (oh (bj i_ (aQ (aZ K) (by rfl) T.cA bR (ae (pv 5) ag)) (pv 0) (bt _)) (pW (nj (gj (aB L_ Lf rfl T.LA T.LB T.LC .nil aJ (ae (pv 5) (ae (aQ (aZ K) (by rfl) T.cA bR (ae (pv 2) ag)) ag))) (λ_=>rfl))))))
    (aq (aM fm))
    bu)
   (aq (bW (bj i_ (aA (av K) (pv 2) (aA (av K) (pv 5) aj (λ_ _=>rfl)) (λ_ _=>rfl)) (aA (av K) (pv 2) (pv 4) (λ_ _=>rfl)) (bt _))
    (aq (aM fm))
    bu))))
  (aq (aM fm)))))),?_⟩
  have lp:ps.length=sg.length:=by rw[Aq tp,AB,R.len]
  refine⟨_,rfl,r,_,_,_,rfl,rfl,.of e1,ao (j:=0) (v:=.ref sa) rfl,?_⟩
  refine⟨_,rfl,r,_,_,_,rfl,rfl,.of e1,ao (j:=1) (v:=.ref ma) rfl,?_⟩
  refine⟨_,rfl,_,_,rfl,.inr ⟨_,.of e3,rfl⟩,_,rfl,_,_,rfl,.inr ⟨_,.of e2,rfl⟩,rfl,_,rfl,?_⟩
  rw[dI (show(((ps.map V.ref).length:Nat):Int)=((((ak sg).map V.int).length:Nat):Int) by rw[AB,AB,a_,lp])]
  refine cN ⟨_,rfl,ma,rfl,⟨_,.of e3⟩,PK (xs:=ps.map V.ref) (λi σ H'=>∃v4 v5:Option V,σ=[some (.int b),some (.ref r),some (.ref sa),some (.ref ma),v4,v5]/\Same H H')
   ⟨none,none,rfl,Same.refl _⟩ (λi σ H' _ ⟨_,_,_,s⟩=>.of (s _ _ e3)) ?_ ?_⟩
  ·rintro i x pp σ H1 hx ⟨v4,v5,rfl,s1⟩ hpp
   obtain⟨p,rfl,hp⟩:=qP hx
   obtain⟨l',hl',el⟩:=tp.get hp
   rw[AJ] at hl'
   cases em:mv[i]? with
   | none=>rw[em] at hl';cases hl'
   | some l=>
    rw[em] at hl'
    have:=AN hl'
    subst this
    obtain⟨lb,ls⟩:=R.lead l (AI em)
    have hi:i<sg.length:=by rw[<-R.len];exact(AF.mp em).1
    have s2:=s1.trans (Same.new (o:=.tup [.int (i:Int),.ref p]) hpp)
    refine⟨pp,_,rfl,.of af,rfl,_,_,rfl,_,_,rfl,rfl,?_⟩
    generalize upd H1 pp (.tup [.int (i:Int),.ref p])=H2 at s2 ⊢
    refine⟨_,rfl,_,_,rfl,.inr ⟨_,.of (s2 _ _ el),rfl⟩,_,rfl,rfl,_,rfl,?_⟩
    rw[dI (show((((ak l).map V.int).length:Nat):Int)=(b:Int) by rw[AB,a_,lb])]
    refine cN ⟨_,rfl,_,rfl,_,_,rfl,.inr ⟨_,.of (s2 _ _ e2),rfl⟩,p,l,sg.length,by rw[AB,a_];rfl,s2 _ _ el,by rw[lb];have:=R.two;omega,ls,λH3 s3=>⟨true,rfl,cN ?_⟩⟩
    have s4:=s2.trans s3
    have l0:0<l.length:=by rw[lb];have:=R.two;omega
    have g0:l.getD 0 0<sg.length:=ls _ (AI (item_at 0 l0))
    refine⟨_,rfl,_,rfl,p,_,_,_,rfl,rfl,.of (s4 _ _ el),ao (j:=0) (bE l0),sa,_,_,_,rfl,rfl,.of (s4 _ _ e2),ao (bE g0),_,rfl,_,rfl,sa,_,_,_,rfl,rfl,.of (s4 _ _ e2),ao (bE hi),rfl,_,rfl,?_⟩
    rw[dI (show((sg.getD (l.getD 0 0) 0:Nat):Int)=((sg.getD i 0:Nat):Int) by rw[R.like i l em])]
    exact cN ⟨_,_,rfl,s4⟩
  ·rintro σ H1 ⟨v4,v5,rfl,s1⟩
   exact k _ s1
theorem iz:aN ["world","base","rows","name"] ["world"] (ah fD):=⟨rfl,rfl,rfl,by decide+kernel,rfl,by decide+kernel,by decide+kernel⟩
theorem y8{a:bF}(T:Txt K mg a):aR P w K mg base bh 3 a.ja a.j5 ["world"] ZM:=by
 have Ow:=LZ (P:=P) (w:=w) (base:=base) T
 refine T.J_.ok iz (λvs H Q E h=>?_) (λcdv A outer s H vs Q E hr h=>?_)
 ·obtain⟨b,wa,d,r,x,sg,mv,rfl,_⟩:=h
  rfl
 ·obtain⟨b,wa,d,r,x,sg,mv,rfl,e1,e2,ra,R,k⟩:=h
  have L0:aL 2 _:=hr
  refine⟨_,(ai (az (i:=1) iz.nd rfl (Ai rfl) (aA (av K) (pv 0) aj (λ_ _=>rfl)))
  (ai (az (i:=2) iz.nd rfl (Ai rfl) (aA (av K) (pv 0) aj (λ_ _=>rfl)))
  (aq (cp A7 rfl (dJ (aQ (NL rfl) (by rfl) T.tI p9 (ae (pv 2) ag))) (aH (i:=3) iz.nd rfl (Ai rfl))
   (aq (bW (nj (gj (aB Ow L0 rfl T.Oa T.Ob T.Oc .nil aJ (ae (pv 1) (ae (iM (gg hr) (pv 2) (pv 3) (λ_ _=>rfl)) ag))) (λ_=>rfl)))
    (aq R1)
    bu)))))),?_⟩
  refine⟨_,rfl,wa,_,_,_,rfl,rfl,.of e1,ao (j:=0) (v:=.int b) rfl,?_⟩
  refine⟨_,rfl,wa,_,_,_,rfl,rfl,.of e1,ao (j:=1) (v:=.ref d) rfl,?_⟩
  refine⟨_,rfl,d,_,[x],rfl,e2,rfl,by show 1<64;decide,λp ss' hp pm _=>?_⟩
  have es:ss'=[x]:=List.perm_singleton.mp pm
  subst es
  have sp:=Same.new (o:=.lst [.str x]) hp
  refine⟨p,rfl,⟨_,.of af⟩,iA (xs:=[V.str x]) (λi σ H'=>∃v3:Option V,σ=[some (.ref wa),some (.int b),some (.ref d),v3]/\Same (upd H p (.lst [.str x])) H') ⟨none,rfl,Same.refl _⟩ (λi σ H' _ ⟨_,_,s⟩=>.of (s _ _ af)) ?_ ?_⟩
  ·rintro i y σ H1 hy ⟨v3,rfl,s1⟩
   have ey:y=.str x:=by
    have:=AI hy
    simpa using this
   subst ey
   have s2:=sp.trans s1
   refine⟨_,rfl,_,rfl,_,rfl,d,.ref r,rfl,uZ (s2 _ _ e2),b,r,sg,mv,rfl,ra.keep s2.kt,R,λH3 s3=>⟨true,rfl,cN ⟨_,rfl,s1.trans s3⟩⟩⟩
  ·rintro σ H1 ⟨v3,rfl,s1⟩
   exact k _ (sp.trans s1)
theorem o7:aN ["world","name","number","row","room"] ["world","name","number"] (ah iS):=⟨rfl,rfl,rfl,by decide+kernel,rfl,by decide+kernel,by decide+kernel⟩
theorem Ox{a:bF}(T:Txt K mg a):aR P w K mg base bh 2 a.mH a.oO ["world","name","number"] ZN:=by
 have gD:=kq (P:=P) (w:=w) (base:=base) T
 have gE:=ku (P:=P) (w:=w) (base:=base) T
 refine T.Qw.ok o7 (λvs H Q E h=>?_) (λcdv A outer s H vs Q E hr h=>?_)
 ·obtain⟨b,n,wa,d,r,x,sg,mv,rfl,_⟩:=h
  rfl
 ·obtain⟨b,n,wa,d,r,x,sg,mv,rfl,e1,e2,ra,R,s0,hn,k⟩:=h
  have fV:aL 1 _:=hr
  have fW:aL 1 _:=hr
  refine⟨_,(ai (az (i:=3) o7.nd rfl (Ai rfl) (iM (gg hr) (aA (av K) (pv 0) aj (λ_ _=>rfl)) (pv 1) (λ_ _=>rfl)))
  (ai (az (i:=4) o7.nd rfl (Ai rfl) (aB gE fW rfl T.lP T.lQ T.lR .nil aJ (ae (aA (av K) (pv 3) aj (λ_ _=>rfl)) (ae aj (ae (aB gD fV rfl T.lM T.lN T.lO .nil aJ (ae (aA (av K) (pv 0) aj (λ_ _=>rfl)) (ae (pv 2) ag))) ag)))))
  (aq (aM (aA (av K) (aA (av K) (pv 3) aj (λ_ _=>rfl)) (pv 4) (λ_ _=>rfl)))))),?_⟩
  obtain⟨sa,ma,ps,r1,r2,r3,tp⟩:=ra
  obtain⟨b2,b4⟩:=R.two
  refine⟨_,rfl,wa,_,_,_,rfl,rfl,.of e1,ao (j:=1) (v:=.ref d) rfl,_,rfl,d,.ref r,rfl,uZ e2,?_⟩
  refine⟨_,rfl,r,_,_,_,rfl,rfl,.of r1,ao (j:=1) (v:=.ref ma) rfl,_,rfl,wa,_,_,_,rfl,rfl,.of e1,ao (j:=0) (v:=.int b) rfl,_,rfl,b,n,rfl,b2,by omega,hn,λD H1 hD s1 eD=>?_⟩
  rw[<-gQ b2 n] at eD
  refine⟨ma,D,ps,b,sg.length,0,mv,dg b n,rfl,s1 _ _ r3,tp.keep s1.kt,R.aV,s0,.of eD,kP b2 n,?_⟩
  have hg:=jY R.aV (dg b n) 0 s0 (kP b2 n)
  unfold gR at k
  rw[<-nZ] at k
  refine⟨_,rfl,r,_,_,_,rfl,rfl,.of (s1 _ _ r1),ao (j:=0) (v:=.ref sa) rfl,_,rfl,sa,_,_,_,rfl,rfl,.of (s1 _ _ r2),ao (bE hg),k _ s1⟩
section
variable{α:Type}{x0:α}{on:α->Nat->α}{m:Nat}
theorem Lg{xs:List α}(nd:xs.Nodup){i j:Nat}{x:α}(h:xs[i]? =some x)(g:xs[j]? =some x):i=j:=by
 obtain⟨hi,e⟩:=AF.mp h
 obtain⟨hj,e'⟩:=AF.mp g
 exact(D9 nd).mp (e.trans e'.symm)
theorem wD{xs ys:List α}(ndx:xs.Nodup)(M9:ys.Nodup){x:α}:∀(l l':List Nat) (c s s1 s2:Nat),l.length=l'.length->bB l s=some s1->bB l' s=some s2->(∀i,i<s->xs[i]? =ys[i]?)->
  (∀k t,l[k]? =some t->xs[t]? =some (on x (c+k)))->(∀k t,l'[k]? =some t->ys[t]? =some (on x (c+k)))->l=l'/\s1=s2/\∀i,i<s1->xs[i]? =ys[i]?
 | [],[],c,s,s1,s2,_,h,h',eq,_,_=>by
  cases h;cases h'
  exact⟨rfl,rfl,eq⟩
 | [],_::_,_,_,_,_,hl,_,_,_,_,_=>by cases hl
 | _::_,[],_,_,_,_,hl,_,_,_,_,_=>by cases hl
 | t::l,t'::l',c,s,s1,s2,hl,h,h',eq,hx,hy=>by
  have ex:xs[t]? =some (on x c):=hx 0 t rfl
  have ey:ys[t']? =some (on x c):=hy 0 t' rfl
  have hx':∀k u,l[k]? =some u->xs[u]? =some (on x (c+1+k)):=λk u z=>by rw[show c+1+k=c+(k+1) by omega];exact hx (k+1) u z
  have hy':∀k u,l'[k]? =some u->ys[u]? =some (on x (c+1+k)):=λk u z=>by rw[show c+1+k=c+(k+1) by omega];exact hy (k+1) u z
  have hl':l.length=l'.length:=EA hl
  rw[bB] at h h'
  by_cases lt:t<s
  ·rw[if_pos lt] at h
   have e:t'=t:=Lg M9 ey (by rw[<-eq t lt];exact ex)
   subst e
   rw[if_pos lt] at h'
   obtain⟨r1,r2,r3⟩:=wD ndx M9 l l' (c+1) s s1 s2 hl' h h' eq hx' hy'
   exact⟨by rw[r1],r2,r3⟩
  ·rw[if_neg lt] at h
   by_cases es:t=s
   ·rw[if_pos es] at h
    have lt':¬t'<s:=λz=>by
     have:=Lg ndx ex (by rw[eq t' z];exact ey)
     omega
    rw[if_neg lt'] at h'
    by_cases es':t'=s
    ·rw[if_pos es'] at h'
     obtain⟨r1,r2,r3⟩:=wD ndx M9 l l' (c+1) (s+1) s1 s2 hl' h h' (λi hi=>by
      by_cases z:i<s
      ·exact eq i z
      ·have:i=s:=by omega
       rw[this,<-es,ex,es,<-es',ey]) hx' hy'
     exact⟨by rw[r1,es,es'],r2,r3⟩
    ·rw[if_neg es'] at h';cases h'
   ·rw[if_neg es] at h;cases h
theorem Lh{xs ys:List α}(ndx:xs.Nodup)(M9:ys.Nodup):∀(mv mv':List (List Nat)) (i s s1 s2:Nat),bY mv i s=some s1->bY mv' i s=some s2->(∀j,j<s->xs[j]? =ys[j]?)->
  (∀k r,mv[k]? =some r->r.length=m/\∃x,xs[i+k]? =some x/\∀c t,r[c]? =some t->xs[t]? =some (on x c))->(∀k r,mv'[k]? =some r->r.length=m/\∃x,ys[i+k]? =some x/\∀c t,r[c]? =some t->ys[t]? =some (on x c))->
  i+mv.length=xs.length->i+mv'.length=ys.length->s1=xs.length->s2=ys.length->mv=mv'/\xs=ys
 | [],[],i,s,s1,s2,h,h',eq,_,_,l1,l2,e1,e2=>by
  cases h;cases h'
  refine⟨rfl,Cc λj=>?_⟩
  by_cases z:j<s
  ·exact eq j z
  ·rw[BC (by omega),BC (by omega)]
 | [],r'::mv',i,s,s1,s2,h,h',eq,_,hy,l1,l2,e1,e2=>by
  cases h
  rw[bY] at h'
  rw[B5] at l1
  rw[if_neg (by omega)] at h'
  cases h'
 | r::mv,[],i,s,s1,s2,h,h',eq,hx,_,l1,l2,e1,e2=>by
  cases h'
  rw[bY] at h
  rw[B5] at l2
  rw[if_neg (by omega)] at h
  cases h
 | r::mv,r'::mv',i,s,s1,s2,h,h',eq,hx,hy,l1,l2,e1,e2=>by
  rw[bY] at h h'
  by_cases lt:i<s
  ·rw[if_pos lt] at h h'
   obtain⟨a1,ha,h⟩:=CA.mp h
   obtain⟨a2,ha',h'⟩:=CA.mp h'
   obtain⟨q1,x,q2,q3⟩:=hx 0 r rfl
   obtain⟨p1,y,p2,p3⟩:=hy 0 r' rfl
   have exy:x=y:=by
    rw[E5] at q2 p2
    rw[eq i lt,p2] at q2
    exact(AN q2).symm
   subst exy
   obtain⟨z1,z2,z3⟩:=wD ndx M9 r r' 0 s a1 a2 (q1.trans p1.symm) ha ha' eq (λk t z=>by rw[Dh];exact q3 k t z) (λk t z=>by rw[Dh];exact p3 k t z)
   subst z1 z2
   obtain⟨w1,w2⟩:=Lh ndx M9 mv mv' (i+1) a1 s1 s2 h h' z3 (λk r z=>by rw[show i+1+k=i+(k+1) by omega];exact hx (k+1) r z) (λk r z=>by rw[show i+1+k=i+(k+1) by omega];exact hy (k+1) r z)
    (by rw[Aj] at l1;omega) (by rw[Aj] at l2;omega) e1 e2
   exact⟨by rw[w1],w2⟩
  ·rw[if_neg lt] at h;cases h
theorem u_{xs ys:List α}{mv mv':List (List Nat)}(g:cw x0 on m xs mv)(h:mv.length=xs.length)(g':cw x0 on m ys mv')(h':mv'.length=ys.length):mv=mv'/\xs=ys:=
 Lh (m:=m) (on:=on) g.once g'.once mv mv' 0 1 _ _ g.go g'.go (λj hj=>by rw[show j=0 by omega,g.first,g'.first]) (λk r z=>by rw[Dh];exact g.row k r z) (λk r z=>by rw[Dh];exact g'.row k r z) (by omega) (by omega) rfl rfl
end
theorem ZO{bT:List (List Nat)}{m i c:Nat}{S:List Nat}(h:i<m):(mj bT m S c).getD i 0=S.getD (stp bT i c) 0:=by
 unfold mj
 rw[BB,AJ,Ce h];rfl
theorem M'{m b:Nat}{bT:List (List Nat)}(mo:Moves m b bT):∀(w:List Nat) (S:List Nat) (i:Nat),i<m->bM b w->(dc (mj bT m) S w).getD i 0=S.getD (My.run bT i w.reverse) 0
 | [],_,_,_,_=>rfl
 | c::w,S,i,hi,hw=>by
  have hw':bM b w:=λx hx=>hw x (AM _ hx)
  show(dc (mj bT m) (mj bT m S c) w).getD i 0=_
  rw[M' mo w _ i hi hw',ZO (mo.run hi hw'.rev),Dy,MN]
  rfl
theorem n5{b:Nat}{sg:List Nat}{mv:List (List Nat)}{bT mv2 Ss:List (List Nat)}{xs:List Nat}(g:cw 0 (stp mv) b xs bT)(hl:bT.length=xs.length)(g2:cw (xs.map λx=>sg.getD x 0) (mj bT xs.length) b Ss mv2)(hl2:mv2.length=Ss.length){i:Nat}{S:List Nat}(hi:Ss[i]? =some S){w:List Nat}(hw:bM b w):
  gR (Ss.map λS=>S.getD 0 0) mv2 i w=S.getD (My.run bT 0 w.reverse) 0:=by
 have x0:0<xs.length:=(AF.mp g.first).1
 have e:=g2.run hl2 w i S hi hw
 unfold gR
 rw[BB,AJ,e]
 exact M' (g.aV hl) w S 0 x0 hw
theorem iy.says{b:Nat}{sg sg2:List Nat}{mv mv2:List (List Nat)}(h:iy b sg mv sg2 mv2){w:List Nat}(hw:bM b w):gR sg2 mv2 0 w=gR sg mv 0 w.reverse:=by
 obtain⟨xs,bT,Ss,g,hl,g2,hl2,rfl⟩:=h.is
 rw[n5 g hl g2 hl2 g2.first hw]
 have e:=g.run hl w.reverse 0 0 g.first hw.rev
 unfold gR
 rw[BB,AJ,e,mf];rfl
theorem iy.few{b:Nat}{sg sg2:List Nat}{mv mv2:List (List Nat)}(h:iy b sg mv sg2 mv2)(aV:Moves sg.length b mv)(n0:0<sg.length)(n1:sg.length<=3):sg2.length<=27:=by
 obtain⟨xs,bT,Ss,g,hl,g2,hl2,rfl⟩:=h.is
 rw[AB]
 have few:=wC aV n0 g.once g.reach
 have xlt:∀x∈xs,x<sg.length:=λx hx=>by
  obtain⟨w,hw,rfl⟩:=g.reach x hx
  rw[mf]
  exact aV.run n0 hw
 have RD:rN sg xs.length (xs.map λx=>sg.getD x 0):=⟨AB ..,λz hz=>by
  obtain⟨x,hx,rfl⟩:=As.mp hz
  exact AI (item_at 0 (xlt x hx))⟩
 have z:=M8 (A:=sg) (m:=xs.length) g2.once λS hS=>by
  obtain⟨w,hw,rfl⟩:=g2.reach S hS
  exact qS (g.aV hl) RD hw
 have z2:sg.length ^ xs.length<=3 ^ xs.length:=EJ n1 _
 have z3:(3:Nat) ^ xs.length<=3 ^ 3:=BP (by decide) (by omega)
 exact A1 z (A1 z2 z3)
theorem iy.can{b:Nat}{sg sg2:List Nat}{mv mv2:List (List Nat)}(h:iy b sg mv sg2 mv2):Ou b sg2 mv2:=by
 obtain⟨xs,bT,Ss,g,hl,g2,hl2,rfl⟩:=h.is
 have s0:0<Ss.length:=(AF.mp g2.first).1
 have sl:∀{i:Nat} {S:List Nat},Ss[i]? =some S->S.length=xs.length:=λ{i S} e=>by
  obtain⟨w,hw,rfl⟩:=g2.reach S (AI e)
  have key:∀(w:List Nat) (S:List Nat),S.length=xs.length->(dc (mj bT xs.length) S w).length=xs.length:=λw=>by
   induction w with
   | nil=>intro S h;exact h
   | cons c w ih=>intro S _;exact ih _ (by unfold mj;rw[AB,A2])
  exact key w _ (AB ..)
 refine⟨by rw[AB];exact s0,by rw[AB];exact g2.aV hl2,λi j hi hj e=>?_,by rw[AB];exact g2.go⟩
 rw[AB] at hi hj
 have ei:Ss[i]? =some Ss[i]:=by simp[hi]
 have ej:Ss[j]? =some Ss[j]:=by simp[hj]
 have eq:Ss[i]=Ss[j]:=by
  refine Cc λk=>?_
  by_cases hk:k<xs.length
  ·rw[item_at 0 (by rw[sl ei];exact hk),item_at 0 (by rw[sl ej];exact hk)]
   obtain⟨w,hw,ew⟩:=g.reach xs[k] (Cj hk)
   have e1:=g.run hl w 0 0 g.first hw
   have ek:My.run bT 0 w=k:=by
    rw[<-ew] at e1
    obtain⟨q1,q2⟩:=AF.mp e1
    exact(D9 g.once).mp q2
   have z:=e w.reverse hw.rev
   rw[n5 g hl g2 hl2 ei hw.rev,n5 g hl g2 hl2 ej hw.rev,List.reverse_reverse,ek] at z
   rw[z]
  ·rw[BC (by rw[sl ei];omega),BC (by rw[sl ej];omega)]
 exact(D9 g2.once).mp eq
theorem iy.right{b:Nat}{sg sg2:List Nat}{mv mv2:List (List Nat)}(h:iy b sg mv sg2 mv2)(aV:Moves sg.length b mv)(n0:0<sg.length)(n1:sg.length<=3)(hb:2<=b/\b<=4)(h0:stp mv 0 0=0):Right b sg2 mv2:=by
 have fw:=h.few aV n0 n1
 have cn:=h.can
 refine⟨cn.aV.len,by omega,hb,cn.aV.lead,λi l hi=>?_⟩
 have e:∀r,r<sg2.length->sg2.getD (stp mv2 r 0) 0=sg2.getD r 0:=λr hr=>by
  obtain⟨xs,bT,Ss,g,hl,g2,hl2,rfl⟩:=h.is
  rw[AB] at hr
  have er:Ss[r]? =some Ss[r]:=by simp[hr]
  have hw:bM b [0]:=λx hx=>by rw[Ad.mp hx];omega
  have h1:=n5 g hl g2 hl2 er hw
  have h2:=n5 g hl g2 hl2 er (bM.nil b)
  have e1:=g.run hl [0] 0 0 g.first hw
  have ek:My.run bT 0 [0]=0:=by
   obtain⟨q1,q2⟩:=AF.mp e1
   obtain⟨q3,q4⟩:=AF.mp g.first
   exact(D9 g.once).mp (q2.trans ((show dc (stp mv) 0 [0]=0 from h0).trans q4.symm))
  rw[show([0]:List Nat).reverse=[0] from rfl,ek] at h1
  exact h1.trans h2.symm
 have hr:i<sg2.length:=by rw[<-cn.aV.len];exact(AF.mp hi).1
 have:=e i hr
 unfold stp at this
 rwa [show mv2.getD i []=l by rw[BB,hi];rfl] at this
theorem iy.one{b:Nat}{sg sg2 u0:List Nat}{mv mv2 mv3:List (List Nat)}(h:iy b sg mv sg2 mv2)(h':iy b sg mv u0 mv3):sg2=u0/\mv2=mv3:=by
 obtain⟨xs,bT,Ss,g,hl,g2,hl2,rfl⟩:=h.is
 obtain⟨xs',am8,Ss',g',hl',g2',hl2',rfl⟩:=h'.is
 obtain⟨e1,e2⟩:=u_ g hl g' hl'
 subst e1 e2
 obtain⟨e1,e2⟩:=u_ g2 hl2 g2' hl2'
 subst e1 e2
 exact⟨rfl,rfl⟩
theorem TQ{b:Nat}{sg:List Nat}{mv:List (List Nat)}(R:Right b sg mv){r:Nat}(hr:r<sg.length)(c:Nat):iJ b sg mv (stp mv r (c % b)) (c / b)=iJ b sg mv r c:=by
 unfold iJ
 by_cases h:0<c
 ·rw[jF R.two.1 h];rfl
 ·have:c=0:=by omega
  subst this
  rw[Nat.zero_mod,Nat.zero_div,gC]
  exact R.like r _ (item_at [] (by rw[R.len];exact hr))
theorem W0(b:Nat):dg b 0=[]:=by unfold dg;rw[gC];rfl
theorem ZP{b n:Nat}(hb:2<=b)(hn:0<n):dg b n=n % b::dg b (n / b):=by unfold dg;rw[jF hb hn];rfl
theorem TR{b:Nat}{sg:List Nat}{mv:List (List Nat)}(R:Right b sg mv){su:List Int}{k:Nat}(hs:∀f,f<b->su.getD f 0=((k*f:Nat):Int))(n:Nat):∀(r c:Nat),r<sg.length->∃r' c',dc (KU b mv su) [r,c] (dg b n)=[r',c']/\iJ b sg mv r' c'=iJ b sg mv r (c+k*n):=by
 induction n using Nat.strongRecOn with
 | ind n ih=>
  intro r c hr
  by_cases hn:n=0
  ·subst hn
   rw[W0]
   exact⟨r,c,rfl,by rw[Nat.mul_zero,E5]⟩
  ·have hb:=R.two.1
   rw[ZP hb (by omega)]
   have hf:n % b<b:=DQ _ (by omega)
   have UJ:KU b mv su [r,c] (n % b)=[stp mv r ((c+k*(n % b)) % b),(c+k*(n % b)) / b]:=by
    show onRow b mv r c (su.getD (n % b) 0).toNat=_
    rw[hs _ hf,Ae];rfl
   have hr2:stp mv r ((c+k*(n % b)) % b)<sg.length:=R.aV.stp hr (DQ _ (by omega))
   obtain⟨r',c',e1,e2⟩:=ih (n / b) (EY (by omega) (by omega)) _ ((c+k*(n % b)) / b) hr2
   refine⟨r',c',?_,?_⟩
   ·show dc _ (KU b mv su [r,c] (n % b)) _=_
    rw[UJ];exact e1
   ·have et:c+k*n=c+k*(n % b)+b*(k*(n / b)):=by
     have:=Nat.mod_add_div n b
     have:k*n=k*(n % b)+k*(b*(n / b)):=by rw[<-Nat.mul_add,this]
     rw[this,Nat.mul_left_comm k b];omega
    rw[e2,<-TQ R hr (c+k*n),et,Nat.add_mul_mod_self_left,Nat.add_mul_div_left _ _ (show 0<b by omega)]
theorem W2{n B:Nat}{xs:List (List Nat)}(nd:xs.Nodup)(h:∀p∈xs,qA n B p):xs.length<=n*(B+1):=by
 have e:((Ao n).flatMap λr=>(Ao (B+1)).map λc=>[r,c]).length=n*(B+1):=by
  have key:∀l:List Nat,(l.flatMap λr=>(Ao (B+1)).map λc=>[r,c]).length=l.length*(B+1):=λl=>by
   induction l with
   | nil=>simp
   | cons a l ih=>rw[E9,AR,ih,AB,A2,Aj,Nat.succ_mul,JP]
  rw[key,A2]
 rw[<-e]
 refine BY nd λp hp=>?_
 obtain⟨r,c,rfl,hr,hc⟩:=h p hp
 exact FP.mpr ⟨r,A4.mpr hr,As.mpr ⟨c,A4.mpr (by omega),rfl⟩⟩
def TSm(t:Term):Prop:=0<=t.num/\t.num<=99/\∀q∈t.parts,1<=q.2/\q.2<=9
theorem x6(n:Str):∀(ps:List (Str×Int)) (d:Int),(∀q∈ps,1<=q.2/\q.2<=9)->0<=d->d<=9->0<=qz n ps d/\qz n ps d<=9
 | [],d,_,h1,h2=>⟨h1,h2⟩
 | p::ps,d,h,h1,h2=>by
  have hp:=h p AQ
  refine x6 n ps _ (λq hq=>h q (AM _ hq)) ?_ ?_<;>split<;>omega
theorem RE:∀(l ds:List Int),(∀x∈l,0<=x/\x<=3)->(∀d∈ds,0<=d/\d<=9)->0<=dot l ds/\dot l ds<=27*(ds.length:Int)
 | [],ds,_,_=>by cases ds<;>(show(0:Int)<=0/\(0:Int)<=_;omega)
 | x::xs,[],_,_=>by show(0:Int)<=0/\(0:Int)<=27*((0:Nat):Int);omega
 | x::xs,d::ds,h1,h2=>by
  have ih:=RE xs ds (λy hy=>h1 y (AM _ hy)) λy hy=>h2 y (AM _ hy)
  have hx:=h1 x AQ
  have hd:=h2 d AQ
  have m:0<=x*d/\x*d<=27:=by
   have:x=0∨x=1∨x=2∨x=3:=by omega
   rcases this with rfl | rfl | rfl | rfl<;>omega
  show 0<=x*d+dot xs ds/\x*d+dot xs ds<=27*((ds.length+1:Nat):Int)
  omega
theorem TU{b:Nat}(hb4:b<=4){t:Term}(ht:TSm t){ks:List Str}(hl:ks.length<=4):∀z∈di b (ks.map t.at),0<=z/\z<=((200:Nat):Int):=λz hz=>by
 obtain⟨l,hl',rfl⟩:=As.mp hz
 have:=RE l (ks.map t.at) (λy hy=>by have:=v7 b _ l hl' y hy;omega) λd hd=>by
  obtain⟨n,_,rfl⟩:=As.mp hd
  exact x6 n t.parts 0 ht.2.2 (by omega) (by omega)
 rw[AB] at this
 omega
def KD(d:Addr)(H H':Hp):Prop:=∀b o,H b=some o->b≠d->(∀qs,o≠.de qs)->H' b=some o
theorem KD.refl{d:Addr}{H:Hp}:KD d H H:=λ_ _ e _ _=>e
theorem KD.trans{d:Addr}{H H1 H2:Hp}(x:KD d H H1)(y:KD d H1 H2):KD d H H2:=λb o e h1 h2=>y b o (x b o e h1 h2) h1 h2
theorem KD.kb{d:Addr}{H H':Hp}(k:KB d H H'):KD d H H':=λb o e h1 _=>k b o e h1
theorem KD.same{d:Addr}{H H':Hp}(s:Same H H'):KD d H H':=λb o e _ _=>s b o e
theorem KD.kx{a:bF}{d:Addr}{H H':Hp}(k:KX a H H'):KD d H H':=λb o e _ h=>k b o e h
theorem KD.kt{d:Addr}{H H':Hp}(k:KD d H H')(hd:bS H d):bq H H':=λb xs z=>k _ _ z (λy=>by
 obtain⟨ms,e,_⟩:=hd
 rw[y,e] at z;cases z) (λ_ y=>nomatch y)
theorem _root_.L2.bS.kx{a:bF}{d:Addr}{H H':Hp}(k:KX a H H')(hd:bS H d):bS H' d:=by
 obtain⟨ms,e,z⟩:=hd
 exact⟨ms,k _ _ e (λ_ y=>nomatch y),z⟩
theorem tY{H H':Hp}{T d:Addr}{L:List (Pos×Str)}(x:Tab H T L)(k:KB d H H')(hd:bS H d):Tab H' T L:=by
 obtain⟨ms,e,_⟩:=hd
 exact x.kb k (λps z=>by rw[e] at z;cases z) λφ z=>by rw[e] at z;cases z
theorem TB.o8{a:bF}{H H':Hp}{d:Addr}(t:TB a H)(k:KB d H H')(hd:bS H d):TB a H':=⟨tY t.si k hd,tY t.rm k hd,tY t.ro k hd⟩
theorem toN{r:Int}(h:0<=r):∃n:Nat,r=(n:Int):=⟨r.toNat,(Fn h).symm⟩
def mm(c k:Nat):Term:=⟨(c:Int),[("n",(k:Int))]⟩
theorem W3(c k:Nat):(["n"]:List Str).map (mm c k).at=[(k:Int)]:=by rfl
theorem x8(b c k:Nat):∀f,f<b->(di b ((["n"]:List Str).map (mm c k).at)).getD f 0=((k*f:Nat):Int):=λf hf=>by
 rw[W3]
 show(((([[]]:List (List Int)).flatMap λl=>(Ao b).map λ(f:Nat)=>l++[(f:Int)])).map λl=>dot l [(k:Int)]).getD f 0=_
 rw[E9,List.flatMap_nil,Bg,B',BB,AJ,Ce hf]
 show(f:Int)*(k:Int)+0=_
 rw[Fj,Int.mul_comm,Int.add_zero]
theorem yc(x:Str)(c k:Nat)(sn:Int):d_ ["n"] (.sign x (mm c k) sn):=by
 refine⟨by rfl,by simp,λy=>?_⟩
 show y∈(["n"]:List Str)↔y∈(["n"]:List Str)
 exact Iff.rfl
theorem Oy{b c k:Nat}(hb:b<=4)(hk:k<=3):∀z∈di b ((["n"]:List Str).map (mm c k).at),z<=((9:Nat):Int):=λz hz=>by
 obtain⟨i,hi⟩:=Ak hz
 have hl:=(AF.mp hi).1
 rw[xX,AB] at hl
 have hl:i<b:=by simpa using hl
 have:=x8 b c k i hl
 rw[BB,hi] at this
 have:z=((k*i:Nat):Int):=this
 have h9:k*i<=3*3:=Nat.mul_le_mul hk (by omega)
 omega
def RF(a:bF):Sp:=λvs H Q _=>∃(d wo Dw ra:Addr) (b:Nat) (sg:List Nat) (mv:List (List Nat)),vs=[.ref d,.ref wo]/\bS H d/\H wo=some (.tup [.int b,.ref Dw])/\H Dw=some (.dK [(Bv "ROW",.ref ra)])/\dG H ra sg mv/\Right b sg mv/\0<sg.length/\sg.length<=27/\TB a H/\
 ∀H',bS H' d->TB a H'->KD d H H'->Q (.bl true) H'
theorem ZQ{α:Type}{x0:α}{on:α->Nat->α}{m:Nat}{xs:List α}{mv:List (List Nat)}(g:cw x0 on m xs mv)(h:mv.length=xs.length){w:List Nat}(hw:bM m w):xs[My.run mv 0 w]? =some (dc on x0 w):=g.run h w 0 x0 g.first hw
theorem aX:aN ["_law_deck_here","_law_world","_law_base_here","_law_rows","_law_number_here","_law_times","_law_sign_here","_law_names","_law_yes","_law_goes","_law_turn","_law_asked","_law_room","_law_figure","_law_due"] ["_law_deck_here","_law_world"] (ah dM):=⟨rfl,rfl,rfl,by decide+kernel,rfl,by decide+kernel,by decide+kernel⟩
set_option maxHeartbeats 16000000 in
theorem u9{a:bF}{pb:lY}{pc:m5}(T:Txt K mg a)(hB:fP mg base)(U:ji K w.params mg pb)(Yt:jP K w.params mg pc):aR P w K mg base bh 7 a.fJ a.gi ["_law_deck_here","_law_world"] (RF a):=by
 have cf:=mN (P:=P) (w:=w) (base:=base) T
 have o9:=rG (P:=P) (w:=w) (base:=base) T
 have jQ:=qC (P:=P) (w:=w) (base:=base) T
 have pe:=x5 (P:=P) (w:=w) (base:=base) T
 have RG:aR P w K mg base bh 6 a.jU a.jg ["world","saying","most"] (K1 a):=Ot T hB U Yt
 have afD:∀t:Tok,Vals [V.int 2000] [Ef 2000 t]:=λt=>.cons ⟨t,rfl⟩ .nil
 obtain⟨td2,Oz⟩:=T.QD
 refine T.vP.ok aX (λvs H Q E h=>?_) (λcdv A outer s H vs Q E hr h=>?_)
 ·obtain⟨d,wo,Dw,ra,b,sg,mv,rfl,_⟩:=h
  rfl
 ·obtain⟨d,wo,Dw,ra,b,sg,mv,rfl,hd,vb,Vm,rw0,R,s0,s27,tb,q⟩:=h
  have bQ:aL 2 _:=hr.mono (by decide)
  have ng:aL 3 _:=hr.mono (by decide)
  have jk:aL 1 _:=hr.mono (by decide)
  have mQ:aL 1 _:=hr.mono (by decide)
  have OA:aL 6 _:=hr
  refine⟨_,(ai (t6 (pv 1) (kX rfl (bV (aH (i:=2) aX.nd rfl (Ai rfl)) (bV (aH (i:=3) aX.nd rfl (Ai rfl)) iK))))
  (ai (az (i:=4) aX.nd rfl (Ai rfl) (aB cf bQ rfl T.cS T.cU T.cV .nil aJ (ae (pv 0) (ae aj ag))))
  (ai (az (i:=5) aX.nd rfl (Ai rfl) (aS eK aj (aB cf bQ rfl T.cS T.cU T.cV .nil aJ (ae (pv 0) (ae aj ag)))))
  (ai (az (i:=6) aX.nd rfl (Ai rfl) (aA (av K) (aA (av K) (iM (gg hr) (pv 3) eJ (λ_ _=>rfl)) aj (λ_ _=>rfl)) (aB cf bQ rfl T.cS T.cU T.cV .nil aJ (ae (pv 0) (ae (aQ (aZ K) (by rfl) T.cA bR (ae (aA (av K) (iM (gg hr) (pv 3) eJ (λ_ _=>rfl)) aj (λ_ _=>rfl)) ag)) ag))) (λ_ _=>rfl)))
  (ai (t6 (aB RG OA rfl T.QB T.QC Oz (afD _) aJ (ae (pv 1) (ae (bx (ae eJ (ae eJ (ae (bx (ae (pv 4) (ae (bx (ae (bx (ae eJ (ae (pv 5) ag))) ag)) ag))) (ae (pv 6) ag))))) ag))) (kX rfl (bV (aH (i:=7) aX.nd rfl (Ai rfl)) (bV (aH (i:=8) aX.nd rfl (Ai rfl)) (bV (aH (i:=9) aX.nd rfl (Ai rfl)) iK)))))
  (ai (cp A7 rfl (cg rfl T.cW (ae aj ag)) (aH (i:=10) aX.nd rfl (Ai rfl))
   (ai (az (i:=11) aX.nd rfl (Ai rfl) (aB o9 ng rfl T.uM T.uN T.uO .nil aJ (ae (pv 0) (ae (pv 2) ag))))
   (ai (az (i:=12) aX.nd rfl (Ai rfl) aj)
   (ai (cp A7 rfl (dJ (aB jQ jk rfl T.mY T.mZ T.m_ .nil aJ (ae (pv 2) (ae (pv 11) ag)))) (aH (i:=13) aX.nd rfl (Ai rfl))
    (aq (az (i:=12) aX.nd rfl (Ai rfl) (aA (av K) (aA (av K) (pv 9) (pv 12) (λ_ _=>rfl)) (pv 13) (λ_ _=>rfl)))))
   (ai (az (i:=14) aX.nd rfl (Ai rfl) (nq kI (aB pe mQ rfl T.tF T.tG T.tH .nil aJ (ae (iM (gg hr) (pv 3) eJ (λ_ _=>rfl)) (ae (aB jQ jk rfl T.mY T.mZ T.m_ .nil aJ (ae (pv 2) (ae (aS eK (pv 4) (aS iZ (pv 5) (pv 11))) ag))) ag))) (pv 6) (bt _)))
   (aq (bW (bj i_ (aA (av K) (pv 8) (pv 12) (λ_ _=>rfl)) (pv 14) (bt _))
    (aq (aM fm))
    bu)))))))
  (aq (aM (nq (PF K hr.units) (pv 7) (bx (ae eJ ag)) (bt _)))))))))),?_⟩
  have big:(10000:Nat)<=sizeLine:=by decide
  have p20:(200:Nat)<2 ^ 20000:=AZ (show 200<2 ^ 8 by decide) (BP (by decide) (by decide))
  obtain⟨hb2,hb4⟩:=R.two
  have nD:Dw≠d:=λy=>by
   obtain⟨ms,e,_⟩:=hd
   rw[y,e] at Vm;cases Vm
  refine aW λY hY=>?_
  refine⟨_,rfl,wo,_,rfl,.of vb,rfl,_,_,rfl,_,_,rfl,rfl,?_⟩
  dsimp only[aO]
  subst hY
  refine aW λY hY=>?_
  refine⟨_,rfl,d,10,rfl,hd,by decide,λr1 H1 r10 r11 k1 d1=>?_⟩
  obtain⟨c,rfl⟩:=toN r10
  dsimp only[aO]
  subst hY
  refine aW λY hY=>?_
  refine⟨_,rfl,d,3,rfl,d1,by decide,λr2 H2 r20 r21 k2 d2=>?_⟩
  obtain⟨k0,rfl⟩:=toN r20
  refine⟨_,_,rfl,rfl,?_⟩
  dsimp only[aO]
  rw[show(1:Int)+(k0:Int)=((1+k0:Nat):Int) by omega]
  obtain⟨kt,hkt⟩:∃kt,kt=1+k0:=⟨_,rfl⟩
  rw[<-hkt]
  have Vn:=(KD.kb k1).trans (KD.kb k2)
  have tb2:=(tb.o8 k1 hd).o8 k2 d1
  subst hY
  refine aW λY hY=>?_
  have ZR:=Vn.kt hd
  have TV:=Vn _ _ Vm nD (λ_ y=>nomatch y)
  obtain⟨sa,ma,ps,e1,e2,e3,tp⟩:=id (rw0.keep ZR)
  refine⟨_,rfl,Dw,.ref ra,rfl,uZ TV,ra,_,_,.ref sa,rfl,rfl,.of e1,ao (j:=0) rfl,_,rfl,_,rfl,Dw,.ref ra,rfl,uZ TV,ra,_,_,.ref sa,rfl,rfl,.of e1,ao (j:=0) rfl,?_⟩
  refine⟨.ref sa,sg.length,rfl,.inr ⟨_,.of e2,by rw[AB,a_]⟩,?_⟩
  refine⟨d,_,rfl,d2,by omega,λr3 H3 r30 r31 k3 d3=>?_⟩
  obtain⟨j,rfl⟩:=toN r30
  have hj:j<sg.length:=by omega
  have RH:=Vn.trans (KD.kb k3)
  have n_:=tb2.o8 k3 d2
  have ZS:=(KD.kb k3).kt d2
  refine⟨sa,_,_,.int (sg.getD j 0:Nat),rfl,rfl,.of (ZS _ _ e2),ao (bE hj),?_⟩
  obtain⟨sn,hsn⟩:∃sn,sn=sg.getD j 0:=⟨_,rfl⟩
  rw[<-hsn]
  dsimp only[aO]
  subst hY
  refine aW λY hY=>?_
  have TX:=(RH.kt hd) _ _ vb
  have TY:=RH _ _ Vm nD (λ_ y=>nomatch y)
  have Li:=rw0.keep (RH.kt hd)
  clear e1 e2 e3 tp Vn ZR ZS k1 k2 k3 d1 d2 tb2 tb TV
  refine⟨_,rfl,_,rfl,_,rfl,by show 2<=sizeLine;omega,λq1 hq1=>⟨by show 1<=sizeLine;omega,λq2 hq2=>⟨by show 2<=sizeLine;omega,λta hta=>⟨_,rfl,by show 4<=sizeLine;omega,λsy hsy=>?_⟩⟩⟩⟩
  have sA:=Same.new (o:=.tup [.str "n",.int (kt:Nat)]) hq1
  have sB:=Same.new (o:=.tup [.ref q1]) hq2
  have sC:=Same.new (o:=.tup [.int (c:Nat),.ref q2]) hta
  have sD:=Same.new (o:=.tup [.str "sign",.str "ROW",.ref ta,.int (sn:Nat)]) hsy
  have s4:=((sA.trans sB).trans sC).trans sD
  have ZT:(upd (upd (upd (upd H3 q1 (.tup [.str "n",.int (kt:Nat)])) q2 (.tup [.ref q1])) ta (.tup [.int (c:Nat),.ref q2])) sy (.tup [.str "sign",.str "ROW",.ref ta,.int (sn:Nat)])) sy=some (.tup [.str "sign",.str "ROW",.ref ta,.int (sn:Nat)]):=af
  have ZU:jj (upd (upd (upd (upd H3 q1 (.tup [.str "n",.int (kt:Nat)])) q2 (.tup [.ref q1])) ta (.tup [.int (c:Nat),.ref q2])) sy (.tup [.str "sign",.str "ROW",.ref ta,.int (sn:Nat)])) ta (mm c kt):=⟨q2,[q1],sD _ _ af,sD _ _ (sC _ _ af),.cons (sD _ _ (sC _ _ (sB _ _ af))) .nil⟩
  generalize upd (upd (upd (upd H3 q1 (.tup [.str "n",.int (kt:Nat)])) q2 (.tup [.ref q1])) ta (.tup [.int (c:Nat),.ref q2])) sy (.tup [.str "sign",.str "ROW",.ref ta,.int (sn:Nat)])=H4 at s4 ZT ZU ⊢
  clear sA sB sC sD hq1 hq2 hta hsy
  have sm:TSm (mm c kt):=⟨by show(0:Int)<=(c:Int);omega,by show(c:Int)<=99;omega,λq hq=>by
   rw[Ad.mp hq]
   show(1:Int)<=(kt:Int)/\(kt:Int)<=9
   omega⟩
  have SG:wk b sg.length 200 wo Dw sy ra ta [(Bv "ROW",.ref ra)] "ROW" (mm c kt) (sn:Nat) sg mv H4:=⟨s4 _ _ TX,.inl (s4 _ _ TY),ZL _ _,Li.keep s4.kt,rfl,s0,R.aV,ZT,ZU,by show 1<=100;decide,⟨c,rfl,by omega⟩,p20⟩
  have okr:∀(xs:List (List Nat)) (c':Nat),(mm c kt).num=(c':Int)->(∀p∈xs,∃w,bM (b ^ (["n"]:List Str).length) w/\p=dc (M6 b mv (mm c kt) ["n"]) [0,c'] w)->∀p∈xs,qA sg.length 9 p:=λxs c' hc' hx p hp=>by
   obtain⟨w,hw,rfl⟩:=hx p hp
   have ec:c'=c:=by
    have:((c:Nat):Int)=(c':Int):=hc'
    omega
   subst ec
   have key:∀(w:List Nat) (p:List Nat),qA sg.length 9 p->qA sg.length 9 (dc (M6 b mv (mm c' kt) ["n"]) p w):=λw=>by
    induction w with
    | nil=>intro p h;exact h
    | cons f w ih=>intro p h;exact ih _ (Rt hb2 R.aV (Oy hb4 (by omega)) h f)
   exact key w _ ⟨0,c',rfl,s0,by omega⟩
  refine⟨b,sg.length,200,2000,wo,Dw,sy,ra,ta,_,"ROW",mm c kt,(sn:Nat),sg,mv,["n"],rfl,hb2,hb4,SG,λks lk=>TU hb4 sm lk,⟨by show 1<=3;decide,λq hq=>by rw[Ad.mp hq];simp⟩,by decide,by decide,n_.same s4,λks xs c' H5 k5 x4 hf hc' nd rc lt=>?_,λks p nm xs c' mw H5 k5 x4 hf hc' ZG Rm M1 hle gr=>?_⟩
  ·have ek:=hf.uniq (yc "ROW" c kt sn)
   subst ek
   have:=W2 nd (okr xs c' hc' rc)
   have:sg.length*(9+1)<=27*10:=FZ _ s27
   omega
  have ek:=hf.uniq (yc "ROW" c kt sn)
  subst ek
  have ec:c'=c:=by
   have:((c:Nat):Int)=(c':Int):=hc'
   omega
  subst ec
  obtain⟨ya,va,ps,e1,e2,e3,tp⟩:=ZG
  have ZV:=gr.aV M1
  rw[show b ^ (["n"]:List Str).length=b from Nat.pow_one b] at ZV
  refine⟨p,_,rfl,.of e1,rfl,_,_,rfl,_,_,rfl,_,_,rfl,rfl,?_⟩
  dsimp only[aO]
  subst hY
  refine aW λY hY=>?_
  have Vk:=RH.trans ((KD.same s4).trans (KD.kx k5))
  have d5:bS H5 d:=(d3.same s4).kx k5
  have am9:=k5.kt _ _ (s4 _ _ TX)
  have afE:=k5 _ _ (s4 _ _ TY) (λ_ y=>nomatch y)
  have Vl:=(Li.keep s4.kt).keep k5.kt
  clear TX TY Li RH d3 n_ SG ZT ZU s4 k5
  have lt2:∀n m:Nat,n<4 ^ 140->m<=9->∀j:Nat,j<=3->m+j*n<2 ^ 20000:=λn m hn hm j hj=>by
   have h1:j*n<=3*n:=FZ _ hj
   have h2:4 ^ 140*16<=2 ^ 20000:=by
    rw[show(4:Nat)=2 ^ 2 from rfl,<-Nat.pow_mul,show(16:Nat)=2 ^ 4 from rfl,<-Nat.pow_add]
    exact BP (by decide) (by decide)
   have h3:1<=4 ^ 140:=Nat.pow_pos (by decide)
   omega
  refine⟨_,rfl,by decide,by decide,i6 (n:=(3:Int).toNat) (λi σ H'=>∃v10 v11 rO mn qD:Option V,σ=[some (.ref d),some (.ref wo),some (.int (b:Nat)),some (.ref Dw),some (.int (c':Nat)),some (.int (kt:Nat)),some (.int (sn:Nat)),some (.ref nm),some (.ref ya),some (.ref va),v10,v11,rO,mn,qD]/\bS H' d/\TB a H'/\KD d H5 H')
   ⟨none,none,none,none,none,rfl,d5,x4,KD.refl⟩ ?_ ?_⟩
  ·rintro i σ H6 N hN hi ⟨v10,v11,rO,mn,qD,rfl,d6,Lj,k6⟩
   dsimp only[aO]
   refine aW λY2 gF=>?_
   refine⟨_,rfl,_,rfl,d,b,rfl,d6,hb2,hb4,λn H7 hn k7 d7=>?_⟩
   have ZW:=k6.trans (KD.kb k7)
   have rM:=Lj.o8 k7 d6
   have afF:=ZW.kt d5
   dsimp only[aO]
   subst gF
   refine aW λY2 gF=>?_
   dsimp only[Nk,tC,aO]
   subst gF
   refine aW λY2 gF=>?_
   have hn2:n<2 ^ 20000:=by have:=lt2 n 0 hn (by decide) 1 (by decide);omega
   refine⟨_,rfl,_,rfl,b,n,rfl,hb2,by omega,hn2,λD H8 hD s8 l8=>?_⟩
   rw[<-gQ hb2 n] at l8
   have T_:=afF.trans s8.kt
   have hw:=kP hb2 n
   refine⟨D,rfl,⟨_,.of l8⟩,Qa (xs:=(ak (dg b n)).map V.int) (λj σ H'=>∃mn:Option V,σ=[some (.ref d),some (.ref wo),some (.int (b:Nat)),some (.ref Dw),some (.int (c':Nat)),some (.int (kt:Nat)),some (.int (sn:Nat)),some (.ref nm),some (.ref ya),some (.ref va),some (.int (0+(i:Nat))),some (.int (n:Nat)),some (.int (My.go mw 0 ((dg b n).take j):Nat)),mn,qD]/\H'=H8)
    ⟨mn,rfl,rfl⟩ (λj σ H' _ ⟨_,_,e⟩=>by rw[e];exact .of l8) ?_ ?_⟩
   ·rintro j x σ H' N2 M_ hx ⟨mn,rfl,rfl⟩
    obtain⟨f,rfl,ef⟩:=jD hx
    have Rq:=hw f (AI ef)
    have hx0:0<xs.length:=(AF.mp gr.first).1
    have hg:=jY ZV ((dg b n).take j) 0 hx0 λz hz=>hw z (CY hz)
    obtain⟨r1,r2,r3⟩:=ZV.row (tp.keep T_) hg
    dsimp only[aO]
    refine⟨_,rfl,_,rfl,va,_,_,.ref (ps.getD (My.go mw 0 ((dg b n).take j)) 0),rfl,rfl,.of (T_ _ _ e3),ao (by rw[AJ,r1];rfl),_,rfl,_,_,_,.int (stp mw (My.go mw 0 ((dg b n).take j)) f:Nat),rfl,rfl,.of r2,ao (bE (by rw[r3];exact Rq)),M_ _ _ ⟨some (.int (f:Nat)),?_,rfl⟩⟩
    rw[take_snoc ef,KQ]
    rfl
   rintro σ H' ⟨mn,rfl,rfl⟩
   rw[AB,a_,BQ]
   show Y2 _ _
   subst gF
   have afG:=s8 _ _ (ZW _ _ afE nD (λ_ y=>nomatch y))
   have hn3:c'+kt*n<2 ^ 20000:=lt2 n c' hn (by omega) kt (by omega)
   refine⟨_,rfl,Dw,.ref ra,rfl,uZ afG,_,rfl,_,rfl,_,rfl,_,rfl,_,_,rfl,rfl,?mul,_,_,rfl,rfl,?_⟩
   case mul=>exact .inl (by constructor<;>omega)
   have en:((c':Nat):Int)+((kt:Nat):Int)*((n:Nat):Int)=((c'+kt*n:Nat):Int):=by rw[Int.natCast_add,Fj]
   refine⟨b,c'+kt*n,?ar,hb2,by omega,hn3,λD2 H9 hD2 s9 l9=>?_⟩
   case ar=>show[V.int (b:Nat),V.int (((c':Nat):Int)+((kt:Nat):Int)*((n:Nat):Int))]=_;rw[en]
   rw[<-gQ hb2 (c'+kt*n)] at l9
   have ZX:=T_.trans s9.kt
   refine⟨b,ra,D2,sg,mv,dg b (c'+kt*n),rfl,Vl.keep ZX,R.aV,s0,.of l9,kP hb2 _,_,rfl,rfl,?_⟩
   dsimp only[aO]
   have hw1:bM (b ^ (["n"]:List Str).length) (dg b n):=by rw[show b ^ (["n"]:List Str).length=b from Nat.pow_one b];exact hw
   have er:=ZQ gr M1 hw1
   obtain⟨r',c2,z1,z2⟩:=TR R (x8 b c' kt) n 0 c' s0
   have Zn:xs[My.go mw 0 (dg b n)]? =some [r',c2]:=by rw[nZ,er];exact congrArg some z1
   have afH:(xs.map (wd b sg mv (sn:Nat)))[My.go mw 0 (dg b n)]? =some (decide (((iJ b sg mv 0 (c'+kt*n):Nat):Int)=((sn:Nat):Int))):=by
    rw[AJ,Zn]
    show some (decide (((iJ b sg mv r' c2:Nat):Int)=((sn:Nat):Int)))=_
    rw[z2]
   refine⟨_,rfl,_,rfl,ya,_,_,.bl (decide (((iJ b sg mv 0 (c'+kt*n):Nat):Int)=((sn:Nat):Int))),rfl,rfl,.of (ZX _ _ e2),ao (by rw[AJ,afH];rfl),_,rfl,rfl,_,rfl,?_⟩
   have ed:decide (V.int ((gR sg mv 0 (dg b (c'+kt*n)):Nat):Int)=V.int ((sn:Nat):Int))=decide (((iJ b sg mv 0 (c'+kt*n):Nat):Int)=((sn:Nat):Int)):=by
    rw[decide_eq_decide]
    exact⟨λz=>by injection z,λz=>by rw[show gR sg mv 0 (dg b (c'+kt*n))=iJ b sg mv 0 (c'+kt*n) from rfl,z]⟩
   rw[ed,show ∀x:Bool,(!decide (V.bl x=V.bl x))=false from λx=>by simp]
   exact cN (hN _ _ ⟨_,_,_,_,_,rfl,(d7.same s8).same s9,(rM.same s8).same s9,ZW.trans (KD.same (s8.trans s9))⟩)
  ·rintro σ H6 ⟨v10,v11,rO,mn,qD,rfl,d6,Lj,k6⟩
   show Y _ _
   subst hY
   have afI:=k6.kt d5 _ _ Rm
   refine⟨_,rfl,by show 1<=sizeLine;omega,λZ hZ=>?_⟩
   have sZ:=Same.new (o:=.tup [.str "n"]) hZ
   refine⟨.tup [.str "n"],.tup [.str "n"],fY (.of (sZ _ _ afI)) (bP nF fh),fY (.of af) (bP nF fh),rfl,rfl,by decide,?_⟩
   rw[if_neg (by decide),Dt.beq_refl]
   exact q _ (d6.same sZ) (Lj.same sZ) (Vk.trans (k6.trans (KD.same sZ)))
theorem RI{xs ys:List Nat}(h:ak xs=ak ys):xs=ys:=by
 have cc:∀zs:List Nat,(ak zs).map Ft=zs:=λzs=>by
  induction zs with
  | nil=>rfl
  | cons z zs ih=>show(z:Int).toNat::(ak zs).map Ft=_;rw[ih,Ae]
 rw[<-cc xs,<-cc ys,h]
def Ed(B:Nat)(sg:List Nat)(mv:List (List Nat))(t r s:Nat):Prop:=∀w,bM B w->w.length<=t->gR sg mv r w=gR sg mv s w
theorem Na{B:Nat}{sg:List Nat}{mv:List (List Nat)}{t r s:Nat}:Ed B sg mv (t+1) r s↔Ed B sg mv t r s/\∀a,a<B->Ed B sg mv t (stp mv r a) (stp mv s a):=by
 constructor
 ·intro h
  exact⟨λw hw hl=>h w hw (by omega),λa ha w hw hl=>h (a::w) (.cons ha hw) (by rw[Aj];omega)⟩
 ·rintro⟨h1,h2⟩ w hw hl
  cases w with
  | nil=>exact h1 [] hw (BI _)
  | cons a w=>exact h2 a (hw a AQ) w (λx hx=>hw x (AM _ hx)) (by rw[Aj] at hl;omega)
theorem Nb{B:Nat}{sg:List Nat}{mv:List (List Nat)}{r s:Nat}:Ed B sg mv 0 r s↔sg.getD r 0=sg.getD s 0:=by
 constructor
 ·intro h;exact h [] (.nil B) (AK _)
 ·intro h w hw hl
  have:w=[]:=Ek.mp (by omega)
  subst this;exact h
theorem OB{B:Nat}{sg:List Nat}{mv:List (List Nat)}(c:Ou B sg mv)(t:Nat){α:Type}{ms:List α}(mk:Nat->α)(hm:∀r,r<sg.length->mk r∈ms)(he:∀r s,r<sg.length->s<sg.length->mk r=mk s->Ed B sg mv t r s):min sg.length (t+1)<=ms.length:=by
 classical
 let kd:Nat->Nat->Nat:=λt r=>((Ao sg.length).find? λs=>decide (Ed B sg mv t r s)).getD 0
 have self:∀t r,Ed B sg mv t r r:=λt r w _ _=>rfl
 have rep:∀t r,r<sg.length->kd t r<sg.length/\Ed B sg mv t r (kd t r):=λt r hr=>by
  have:∃s,(Ao sg.length).find? (λs=>decide (Ed B sg mv t r s))=some s:=by
   have:((Ao sg.length).find? λs=>decide (Ed B sg mv t r s)).isSome:=List.find?_isSome.mpr ⟨r,A4.mpr hr,decide_eq_true (self t r)⟩
   exact EM.mp this
  obtain⟨s,hs⟩:=this
  have e:kd t r=s:=by show(JZ _ 0)=s;rw[hs];rfl
  rw[e]
  have h:=List.find?_some hs
  exact⟨A4.mp (List.mem_of_find?_eq_some hs),of_decide_eq_true h⟩
 have iff:∀t r s,r<sg.length->s<sg.length->(kd t r=kd t s↔Ed B sg mv t r s):=λt r s hr hs=>by
  constructor
  ·intro e w hw hl
   have h1:=(rep t r hr).2 w hw hl
   have h2:=(rep t s hs).2 w hw hl
   rw[e] at h1
   rw[h1,h2]
  ·intro e
   show JZ _ 0=JZ _ 0
   congr 2
   funext x
   rw[decide_eq_decide]
   exact⟨λh w hw hl=>(e w hw hl).symm.trans (h w hw hl),λh w hw hl=>(e w hw hl).trans (h w hw hl)⟩
 let A:Nat->List Nat:=λt=>(Ao sg.length).filter λv=>decide (kd t v=v)
 have ndA:∀t,(A t).Nodup:=λt=>EC.filter _
 have OC:∀t v,v∈A t↔∃r,r<sg.length/\kd t r=v:=λt v=>by
  show v∈List.filter _ _↔_
  rw[EU,A4,decide_eq_true_iff]
  constructor
  ·rintro⟨h,e⟩;exact⟨v,h,e⟩
  ·rintro⟨r,hr,rfl⟩
   exact⟨(rep t r hr).1,((iff t _ _ hr (rep t r hr).1).mpr (rep t r hr).2).symm⟩
 have S:Split sg.length B kd (stp mv) A:=Ov c (λr s hr hs e=>Nb.mp ((iff 0 r s hr hs).mp e)) (λt r s hr hs=>by
  rw[iff (t+1) r s hr hs,iff t r s hr hs,Na]
  refine and_congr Iff.rfl ⟨λh a ha=>(iff t _ _ (c.aV.stp hr ha) (c.aV.stp hs ha)).mpr (h a ha),λh a ha=>(iff t _ _ (c.aV.stp hr ha) (c.aV.stp hs ha)).mp (h a ha)⟩) ndA OC
 refine A1 (S.many c.pos t) ?_
 have nd:((A t).map mk).Nodup:=m8 (ndA t) λx hx y hy e=>by
  obtain⟨r,hr,rfl⟩:=(OC t x).mp hx
  obtain⟨s,hs,rfl⟩:=(OC t y).mp hy
  have h1:=he _ _ (rep t r hr).1 (rep t s hs).1 e
  have h2:=(iff t _ _ hr (rep t r hr).1).mpr (rep t r hr).2
  have h3:=(iff t _ _ hs (rep t s hs).1).mpr (rep t s hs).2
  rw[h2,h3]
  exact(iff t _ _ (rep t r hr).1 (rep t s hs).1).mpr h1
 have:=BY nd (l₂:=ms) λv hv=>by
  obtain⟨x,hx,rfl⟩:=As.mp hv
  obtain⟨r,hr,rfl⟩:=(OC t x).mp hx
  exact hm _ (rep t r hr).1
 rwa [AB] at this
theorem ph{S:Nat}:∀{l:List Nat} {s:Nat} (k:Nat),bB l s=some S->∃s',bB (l.take k) s=some s'/\s'<=S
 | [],s,k,h=>⟨S,by rw[List.take_nil];exact h,AK _⟩
 | x::l,s,0,h=>⟨s,rfl,oZ h⟩
 | x::l,s,k+1,h=>by
  rw[Ic]
  simp only[bB] at h ⊢
  split at h
  ·rename_i c;rw[if_pos c];exact ph k h
  ·rename_i c
   rw[if_neg c]
   split at h
   ·rename_i c2;rw[if_pos c2];exact ph k h
   ·cases h
theorem rP{S:Nat}:∀{rs:List (List Nat)} {i s:Nat} (k:Nat),bY rs i s=some S->∃s',bY (rs.take k) i s=some s'/\s'<=S
 | [],i,s,k,h=>⟨S,by rw[List.take_nil];exact h,AK _⟩
 | r::rs,i,s,0,h=>⟨s,rfl,xO h⟩
 | r::rs,i,s,k+1,h=>by
  simp only[bY] at h
  rw[Ic]
  simp only[bY]
  split at h
  ·rename_i c
   rw[if_pos c]
   cases e:bB r s with
   | none=>rw[e] at h;cases h
   | some q=>
    rw[e] at h
    exact rP k h
  ·cases h
theorem T2(t s:Nat):inV (.int (t:Nat)) ((ak (Ao s)).map V.int)=decide (t<s):=by
 rw[Di,decide_eq_true_iff]
 unfold inV
 rw[List.any_eq_true]
 constructor
 ·rintro⟨x,hx,e⟩
  obtain⟨y,hy,rfl⟩:=As.mp hx
  obtain⟨z,hz,rfl⟩:=As.mp hy
  have:decide ((z:Int)=(t:Int))=true:=e
  have:=of_decide_eq_true this
  have:=A4.mp hz
  omega
 ·intro h
  exact⟨.int (t:Nat),As.mpr ⟨_,As.mpr ⟨t,A4.mpr h,rfl⟩,rfl⟩,decide_eq_true rfl⟩
theorem RJ(l:List Nat):((ak l).map V.int).all i4=true:=by
 rw[FJ]
 intro x hx
 obtain⟨y,_,rfl⟩:=As.mp hx
 rfl
def mkOf(ks:List Nat)(mv:List (List Nat))(r:Nat):Mark:=(((ks.getD r 0:Nat):Int),ak ((mv.getD r []).map λg=>ks.getD g 0))
theorem mk_iff{n B:Nat}{mv:List (List Nat)}(m:Moves n B mv){ks:List Nat}{r s:Nat}(hr:r<n)(hs:s<n):mkOf ks mv r=mkOf ks mv s↔ks.getD r 0=ks.getD s 0/\∀a,a<B->ks.getD (stp mv r a) 0=ks.getD (stp mv s a) 0:=by
 have row:∀{r:Nat},r<n->∀a,((mv.getD r []).map λg=>ks.getD g 0)[a]? =if a<B then some (ks.getD (stp mv r a) 0) else none:=λ{r} hr a=>by
  have lb:=(m.lead _ (AI (item_at [] (show r<mv.length by rw[m.len];exact hr)))).1
  rw[AJ]
  by_cases ha:a<B
  ·rw[if_pos ha,item_at 0 (show a<(mv.getD r []).length by rw[lb];exact ha)];rfl
  ·rw[if_neg ha,BC (by omega)];rfl
 unfold mkOf
 rw[FT]
 refine and_congr Int.natCast_inj ⟨λh a ha=>?_,λh=>?_⟩
 ·have e:((mv.getD r []).map λg=>ks.getD g 0)[a]? =((mv.getD s []).map λg=>ks.getD g 0)[a]? :=by rw[RI h]
  rw[row hr,row hs,if_pos ha,if_pos ha] at e
  exact AN e
 ·congr 1
  refine Cc λa=>?_
  rw[row hr,row hs]
  by_cases ha:a<B
  ·rw[if_pos ha,if_pos ha,h a ha]
  ·rw[if_neg ha,if_neg ha]
theorem mq{H H':Hp}{v:V}{m:Mark}(k:bq H H')(x:gw H v m):gw H' v m:=by
 obtain⟨p,q,rfl,h1,h2⟩:=x
 exact⟨p,q,rfl,k _ _ h1,k _ _ h2⟩
theorem W4{H:Hp}{M:Addr}{zs ys:List V}(h:H M=some (.lst zs)):bq H (upd H M (.lst ys)):=λb xs e=>by
 by_cases z:b=M
 ·subst z;rw[h] at e;cases e
 ·rw[aD z];exact e
theorem qE{α β γ:Type}{R:γ->β->Prop}{f:α->γ}:∀{l:List α} {m:List β},BV (λa b=>R (f a) b) l m->BV R (l.map f) m
 | _,_,.nil=>.nil
 | _,_,.cons h t=>.cons h (qE t)
def W5:Sp:=λvs H Q _=>∃(sa va:Addr) (ps:List Addr) (sg:List Nat) (mv:List (List Nat)) (B:Nat),vs=[.ref sa,.ref va]/\H sa=some (.tup ((ak sg).map V.int))/\H va=some (.tup (ps.map V.ref))/\cO H ps (mv.map ak)/\Ou B sg mv/\sg.length<=63/\B<=64/\∀H',Same H H'->Q (.bl true) H'
theorem u16{n c:Nat}(h:n+64<c):n+16<c:=by omega
theorem u8{n c:Nat}(h:n+64<c):n+8<c:=by omega
theorem dH:aN ["_law_marks","_law_moves","_law_seen","_law_room","_law_goal","_law_kinds","_law_turn","_law_rows","_law_order"] ["_law_marks","_law_moves"] (ah fM):=⟨rfl,rfl,rfl,by decide+kernel,rfl,by decide+kernel,by decide+kernel⟩
set_option maxHeartbeats 16000000 in
theorem OD{a:bF}(T:Txt K mg a):aR P w K mg base bh 1 a.mJ a.oV ["_law_marks","_law_moves"] W5:=by
 refine T.QF.ok dH (λvs H Q E h=>?_) (λcdv A outer s H vs Q E hr h=>?_)
 ·obtain⟨sa,va,ps,sg,mv,B,rfl,_⟩:=h
  rfl
 ·obtain⟨sa,va,ps,sg,mv,B,rfl,e2,e3,tp,cn,hn,hB,q⟩:=h
  refine⟨_,(ai (az (i:=2) dH.nd rfl (Ai rfl) (eO (ae aj ag)))
  (ai (cp A7 rfl (cg rfl T.cW (ae (aQ (aZ K) (by rfl) T.cA bR (ae (pv 1) ag)) ag)) (aH (i:=3) dH.nd rfl (Ai rfl))
   (ai (bW (bj abQ (pv 3) (aQ (aZ K) (by rfl) T.cA bR (ae (pv 2) ag)) (bt _))
    (aq (aM fm))
    bu)
   (aq (cp A7 rfl (kY (aA (av K) (pv 1) (pv 3) (λ_ _=>rfl))) (aH (i:=4) dH.nd rfl (Ai rfl))
    (aq (bW (bj (PD K) (pv 4) (pv 2) (by with_unfolding_all rfl))
     (ai (bW (bj i_ (pv 4) (aQ (aZ K) (by rfl) T.cA bR (ae (pv 2) ag)) (bt _))
      (aq (aM fm))
      bu)
     (aq (cM (fq A3 Ba Bb cZ (pv 2) (ae (pv 4) ag)))))
     bu))))))
  (ai (az (i:=5) dH.nd rfl (DD rfl) (bD (NF K) (by rfl) T.Ks Mp (ae (pv 0) ag)))
  (ai (cp A7 rfl (cg rfl T.cW (ae (aQ (aZ K) (by rfl) T.cA bR (ae (pv 1) ag)) ag)) (aH (i:=6) dH.nd rfl (Ai rfl))
   (ai (oz (i:=7) (aP.mk' (esc:=ah fM) (N:=["_law_marks","_law_moves","_law_seen","_law_room","_law_goal","_law_kinds","_law_turn","_law_rows","_law_order"]) (own:=["_law_room","_law_goes"]) (aI:=["_law_kinds"]) (bN:=[5]) rfl rfl (by decide+kernel)) rfl (zP rfl T.jO (ae (pv 1) ag)) (λ_ _ _ _=>(Mt K (n:=2) rfl (bV (aH (i:=0) (show Bs (["_law_room","_law_goes","_law_kinds"]:List Str) by decide+kernel) rfl (Ai rfl)) (bV (aH (i:=1) (show Bs (["_law_room","_law_goes","_law_kinds"]:List Str) by decide+kernel) rfl (Ai rfl)) iK)))) (λ_ _ _ _=>bK) (λ_ _ _ _=>(bx (ae (aA (fb K) (pv 2) (pv 0) (λ_ _=>rfl)) (ae (bD (bO K) (by rfl) T.dh cE (ae (cz (aP.mk' (esc:=_) (N:=["_law_room","_law_goes","_law_kinds"]) (own:=["_law_goal"]) (aI:=["_law_kinds"]) (bN:=[2]) rfl rfl (by rfl)) rfl (MG K (pv 1)) (λ_ _ _ _=>(aH (i:=0) (show Bs (["_law_goal","_law_kinds"]:List Str) by decide+kernel) rfl (Ai rfl))) (λ_ _ _ _=>bK) (λ_ _ _ _=>(aA (fb K) (pv 1) (pv 0) (λ_ _=>rfl)))) ag)) ag)))) dH.nd rfl rfl)
   (ai (az (i:=8) dH.nd rfl (DD rfl) (aQ (Ly rfl (u16 hr.units)) (by rfl) T.tI p9 (ae (bD (Qt rfl (u16 hr.units)) (by rfl) T.UW PB (ae (pv 7) ag)) ag)))
   (ai (az (i:=5) dH.nd rfl (DD rfl) (cz (aP.mk' (esc:=ah fM) (N:=["_law_marks","_law_moves","_law_seen","_law_room","_law_goal","_law_kinds","_law_turn","_law_rows","_law_order"]) (own:=["_law_row"]) (aI:=["_law_order"]) (bN:=[8]) rfl rfl (by decide+kernel)) rfl (dJ (pv 7)) (λ_ _ _ _=>(aH (i:=0) (show Bs (["_law_row","_law_order"]:List Str) by decide+kernel) rfl (Ai rfl))) (λ_ _ _ _=>bK) (λ_ _ _ _=>(Yw K A3 PySem.F.slot_list_index PySem.F.type_list_index (N8 K (u8 hr.units)) (pv 1) (ae (pv 0) ag)))))
   (aq (bW (bj kI (aQ (aZ K) (by rfl) T.cA bR (ae (pv 8) ag)) (aQ (aZ K) (by rfl) T.cA bR (ae (pv 1) ag)) (bt _))
    (aq (aM fm))
    bu))))))
  (aq (aM fm)))))),?_⟩
  have big:(100000:Nat)<=sizeLine:=by decide
  have lps:ps.length=sg.length:=by rw[Aq tp,AB,cn.aV.len]
  refine aW λY hY=>?_
  refine⟨by decide,λS hS=>?_⟩
  have sS:=Same.new (o:=.lst [.int 0]) hS
  have eS:(upd H S (.lst [.int 0])) S=some (.lst ((ak (Ao 1)).map V.int)):=af
  generalize upd H S (.lst [.int 0])=H1 at sS eS ⊢
  subst hY
  dsimp only[aO]
  refine aW λY hY=>?_
  refine⟨_,rfl,.ref va,sg.length,rfl,.inr ⟨_,.of (sS _ _ e3),by rw[AB];exact lps.symm⟩,_,rfl,by omega,by omega,i6 (n:=((sg.length:Nat):Int).toNat) (λi σ H'=>∃(v5 v6:Option V) (s:Nat),σ=[some (.ref sa),some (.ref va),some (.ref S),v5,v6,none,none,none,none]/\Same H H'/\H' S=some (.lst ((ak (Ao s)).map V.int))/\bY (mv.take i) 0 1=some s)
   ⟨none,none,1,rfl,sS,eS,rfl⟩ ?_ ?_⟩
  ·rintro i σ H2 N hN hi ⟨v5,v6,s,rfl,s2,l2,g2⟩
   have hi':i<sg.length:=by omega
   rw[show(0:Int)+(i:Int)=((i:Nat):Int) by omega]
   have TL:mv[i]? =some (mv.getD i []):=item_at [] (by rw[cn.aV.len];exact hi')
   obtain⟨s',g3,le3⟩:=rP (i+1) cn.go
   have g3':=g3
   rw[take_snoc TL,oY,g2] at g3'
   have g4:(if 0+(mv.take i).length<s then bB (mv.getD i []) s else none)=some s':=g3'
   rw[Az,Hm (by rw[cn.aV.len];omega),Dh] at g4
   have his:i<s:=by
    apply BW
    intro z
    rw[if_neg z] at g4
    cases g4
   rw[if_pos his] at g4
   dsimp only[aO]
   refine aW λY2 gF=>?_
   refine⟨_,rfl,_,rfl,.ref S,s,rfl,.inl ⟨_,.of l2,by simp[ak]⟩,_,_,rfl,rfl,_,rfl,?_⟩
   rw[show decide (((s:Nat):Int)<=((i:Nat):Int))=false from decide_eq_false (by omega)]
   refine cN ?_
   show Y2 _ _
   subst gF
   obtain⟨r1,r2,r3⟩:=cn.aV.row (tp.keep s2.kt) hi'
   refine⟨_,rfl,_,rfl,va,_,_,.ref (ps.getD i 0),rfl,rfl,.of (s2 _ _ e3),ao (by rw[AJ,r1];rfl),_,rfl,⟨_,.of r2⟩,SH (xs:=(ak (mv.getD i [])).map V.int) (λj σ H'=>∃(v6:Option V) (u:Nat),σ=[some (.ref sa),some (.ref va),some (.ref S),some (.int (i:Nat)),v6,none,none,none,none]/\Same H H'/\H' S=some (.lst ((ak (Ao u)).map V.int))/\bB ((mv.getD i []).take j) s=some u)
    ⟨v6,s,rfl,s2,l2,rfl⟩ (λj σ H' _ ⟨_,_,_,s',_⟩=>.of (cn.aV.row (tp.keep s'.kt) hi').2.1) ?_ ?_⟩
   ·rintro j x σ H3 N2 M_ hx ⟨v6,u,rfl,s3,l3,g5⟩
    obtain⟨c,rfl,ec⟩:=jD hx
    obtain⟨u',g6,le6⟩:=ph (j+1) g4
    have g7:=g6
    rw[take_snoc ec,jW,g5] at g7
    have g8:(if c<u then some u else if c=u then some (u+1) else none)=some u':=g7
    dsimp only[aO]
    refine⟨_,rfl,_,rfl,S,_,rfl,.inl (.of l3),rfl,RJ _,_,rfl,?_⟩
    rw[if_pos rfl,T2]
    by_cases hc:c<u
    ·rw[if_pos hc] at g8
     cases g8
     rw[decide_eq_true hc]
     refine cN ?_
     exact M_ _ _ ⟨_,u,rfl,s3,l3,g6⟩
    ·rw[if_neg hc] at g8
     have hcu:c=u:=by
      apply BW
      intro z
      rw[if_neg z] at g8
      cases g8
     rw[if_pos hcu] at g8
     cases g8
     rw[decide_eq_false hc]
     refine p8 ?_
     subst hcu
     refine⟨_,rfl,_,rfl,.ref S,c,rfl,.inl ⟨_,.of l3,by simp[ak]⟩,rfl,_,rfl,?_⟩
     rw[show(!decide (V.int ((c:Nat):Int)=V.int ((c:Nat):Int)))=false by simp]
     refine cN ?_
     refine⟨_,rfl,.inl ⟨rfl,_,.of l3⟩,_,rfl,S,_,_,rfl,rfl,l3,by rw[AB,a_,A2];omega,?_⟩
     refine M_ _ _ ⟨_,c+1,rfl,s3.kbn hS KB.write,?_,g6⟩
     rw[af,EX,eV,AW];rfl
   ·rintro σ H3 ⟨v6,u,rfl,s3,l3,g5⟩
    rw[AB,a_,BQ,g4] at g5
    cases g5
    exact hN _ _ ⟨_,v6,s',rfl,s3,l3,g3⟩
  ·rintro σ H2 ⟨v5,v6,s,rfl,s2,l2,g2⟩
   clear l2 g2 eS sS
   show Y _ _
   subst hY
   refine aW λY hY=>?_
   refine⟨_,rfl,sa,_,rfl,.inr (.of (s2 _ _ e2)),λD hD=>?_⟩
   have s3:=Same.new (o:=.lst ((ak sg).map V.int)) hD
   have l3:(upd H2 D (.lst ((ak sg).map V.int))) D=some (.lst ((ak sg).map V.int)):=af
   generalize upd H2 D (.lst ((ak sg).map V.int))=H3 at s3 l3 ⊢
   have s23:=s2.trans s3
   clear s2 s3 hD
   subst hY
   dsimp only[aO]
   refine aW λY hY=>?_
   refine⟨_,rfl,.ref va,sg.length,rfl,.inr ⟨_,.of (s23 _ _ e3),by rw[AB];exact lps.symm⟩,_,rfl,by omega,by omega,i6 (n:=((sg.length:Nat):Int).toNat) (λt σ H'=>∃(v8 v9 v10:Option V) (D:Addr) (ks:List Nat),σ=[some (.ref sa),some (.ref va),some (.ref S),v5,v6,some (.ref D),v8,v9,v10]/\Same H H'/\H' D=some (.lst ((ak ks).map V.int))/\ks.length=sg.length/\(∀r s,r<sg.length->s<sg.length->(ks.getD r 0=ks.getD s 0↔Ed B sg mv t r s))/\(t=0∨t+1<sg.length))
    ⟨none,none,none,D,sg,rfl,s23,l3,rfl,λr s hr hs=>?base,.inl rfl⟩ ?_ ?_⟩
   case base=>
    rw[Nb]
   ·rintro t σ H4 N hN ht ⟨v8,v9,v10,D,ks,rfl,s4,l4,lk,ek,_⟩
    dsimp only[aO]
    rw[show(0:Int)+(t:Int)=((t:Nat):Int) by omega]
    refine aW λY2 gF=>?_
    refine⟨_,rfl,va,rfl,⟨_,.of (s4 _ _ e3)⟩,λM hM=>?_⟩
    refine NY (xs:=ps.map V.ref) (λj σ H'=>∃(v0 v1:Option V) (yd:List Addr),σ=[v0,v1,some (.ref D)]/\Same H4 H'/\H' M=some (.lst (yd.map V.ref))/\BV (λa m=>gw H' (.ref a) m) yd ((Ao j).map (mkOf ks mv)))
     ⟨none,none,[],?sg2,Same.new hM,af,.nil⟩ (λj σ H' _ ⟨_,_,_,_,s',_⟩=>.of (s' _ _ (s4 _ _ e3))) ?_ ?_
    case sg2=>rfl
    ·rintro j y p σ H5 hy ⟨v0,v1,yd,rfl,s5,l5,p5⟩ hp
     obtain⟨pr,rfl,epr⟩:=qP hy
     have hj:j<sg.length:=by rw[<-lps];exact(AF.mp epr).1
     have sp:=Same.new (o:=.tup [.int (j:Nat),.ref pr]) hp
     have s6:=s5.trans sp
     obtain⟨r1,r2,r3⟩:=cn.aV.row (tp.keep (s4.trans s6).kt) hj
     have afJ:ps.getD j 0=pr:=AN (r1.symm.trans epr)
     rw[afJ] at r2
     have lm:=cX p5
     rw[AB,A2] at lm
     refine⟨p,_,rfl,.of af,rfl,_,_,rfl,_,_,rfl,rfl,?_⟩
     refine⟨_,rfl,_,rfl,D,_,_,.int (ks.getD j 0:Nat),rfl,rfl,.of (s6 _ _ l4),ao (bE (by omega)),_,rfl,pr,rfl,⟨_,.of r2⟩,λL hL=>?_⟩
     have l6:=sp _ _ l5
     have k6:bq H5 _:=sp.kt
     generalize upd H5 p (.tup [.int (j:Nat),.ref pr])=H6 at s6 r2 hL l6 k6 ⊢
     refine jn (xs:=(ak (mv.getD j [])).map V.int) (λi σ H'=>∃(v:Option V),σ=[v,some (.ref D)]/\Same H6 H'/\H' L=some (.lst ((ak (((mv.getD j []).map λg=>ks.getD g 0).take i)).map V.int)))
      ⟨none,?u0,Same.new hL,af⟩ (λi σ H' _ ⟨_,_,s',_⟩=>.of (s' _ _ r2)) ?_ ?_
     case u0=>rfl
     ·rintro i x σ H7 hx ⟨v,rfl,s7,l7⟩
      obtain⟨c,rfl,ec⟩:=jD hx
      have hc:c<sg.length:=(cn.aV.lead _ (AI (item_at [] (show j<mv.length by rw[cn.aV.len];exact hj)))).2 c (AI ec)
      refine⟨_,rfl,_,rfl,D,_,_,.int (ks.getD c 0:Nat),rfl,rfl,.of (s7 _ _ (s6 _ _ l4)),ao (bE (by omega)),_,l7,?_,_,rfl,s7.kbn hL KB.write,?_⟩
      ·rw[AB,a_,Az,AB,r3];omega
      ·rw[af,take_snoc (show((mv.getD j []).map λg=>ks.getD g 0)[i]? =some (ks.getD c 0) by rw[AJ,ec];rfl),eV,AW];rfl
     rintro σ H7 ⟨v,rfl,s7,l7⟩
     rw[AB,a_,BD (by rw[AB];exact AK _)] at l7
     refine⟨L,_,rfl,.inl ⟨.of l7,λl hl=>⟨by show 2<=sizeLine;omega,λm hm=>?_⟩⟩⟩
     have s8:=Same.new (o:=.tup ((ak ((mv.getD j []).map λg=>ks.getD g 0)).map V.int)) hl
     have s9:=Same.new (o:=.tup [.int (ks.getD j 0:Nat),.ref l]) hm
     have x9:gw (upd (upd H7 l (.tup ((ak ((mv.getD j []).map λg=>ks.getD g 0)).map V.int))) m (.tup [.int (ks.getD j 0:Nat),.ref l])) (.ref m) (mkOf ks mv j):=⟨m,l,rfl,af,s9 _ _ af⟩
     have rQ:=(s7.trans s8).trans s9
     generalize upd (upd H7 l (.tup ((ak ((mv.getD j []).map λg=>ks.getD g 0)).map V.int))) m (.tup [.int (ks.getD j 0:Nat),.ref l])=H9 at x9 rQ ⊢
     have l9:=rQ _ _ l6
     have kw:bq H9 (upd H9 M (.lst (yd.map V.ref++[.ref m]))):=W4 l9
     refine⟨_,l9,by rw[AB];omega,_,_,yd++[m],rfl,(s6.trans rQ).kbn hM KB.write,by rw[af,AW];rfl,?_⟩
     rw[EX,AW]
     exact(fL (λa m x=>mq (λb xs z=>kw b xs (rQ.kt b xs (k6 b xs z))) x) p5).snoc (mq kw x9)
    rintro σ H5 ⟨v0,v1,yd,rfl,s5,l5,p5⟩
    rw[AB,lps] at p5
    show Y2 _ _
    subst gF
    refine aW λY2 gF=>?_
    refine⟨_,rfl,M,yd.map V.ref,(Ao sg.length).map (mkOf ks mv),rfl,.of l5,qE p5,by rw[AB,A2];exact A1 hn (by decide),λp as dE hp pa nd mem=>?_⟩
    have sp:=λo=>Same.new (H:=H5) (p:=p) (o:=o) hp
    have afK:as.length<64:=by
     have q1:=cX pa
     have q2:=BY nd (l₂:=(Ao sg.length).map (mkOf ks mv)) λm hm=>(mem m).mp hm
     rw[AB,A2] at q2
     omega
    refine⟨p,as,dE,rfl,af,fL (λa m x=>mq (sp _).kt x) pa,afK,λo as' ho po=>?_⟩
    refine(λ(K7:∀H7,Same H5 H7->H7 o=some (.lst (as'.map V.ref))->Y2 [some (.ref sa),some (.ref va),some (.ref S),v5,v6,some (.ref D),some (.int (t:Nat)),some (.ref M),some (.ref o)] H7)=>K7 _ ((sp _).trans (Same.new ho)) af) λH7 s7 l7=>?_
    obtain⟨ms2,p2,xJ⟩:=mG po pa
    have zY:ms2.Nodup:=xJ.nodup_iff.mpr nd
    have T5:∀m,m∈ms2↔∃r,r<sg.length/\mkOf ks mv r=m:=λm=>by
     rw[xJ.mem_iff,mem,As]
     exact⟨λ⟨r,hr,e⟩=>⟨r,A4.mp hr,e⟩,λ⟨r,hr,e⟩=>⟨r,A4.mpr hr,e⟩⟩
    have l2:=cX p2
    obtain⟨f,hf⟩:∃f:Nat->Nat,∀r,r<sg.length->ms2[f r]? =some (mkOf ks mv r):=by
     have:∀r,∃j,r<sg.length->ms2[j]? =some (mkOf ks mv r):=λr=>by
      by_cases hr:r<sg.length
      ·obtain⟨j,hj⟩:=Ak ((T5 _).mpr ⟨r,hr,rfl⟩)
       exact⟨j,λ_=>hj⟩
      ·exact⟨0,λz=>absurd z hr⟩
     exact Classical.axiomOfChoice this
    have one:∀{i j:Nat} {m:Mark},ms2[i]? =some m->ms2[j]? =some m->i=j:=λh1 h2=>(List.getElem?_inj (AF.mp h1).1 zY).mp (h1.trans h2.symm)
    have am1:ms2.length<=sg.length:=by
     have:=BY zY (l₂:=(Ao sg.length).map (mkOf ks mv)) λm hm=>by
      obtain⟨r,hr,e⟩:=(T5 m).mp hm
      exact As.mpr ⟨r,A4.mpr hr,e⟩
     rwa [AB,A2] at this
    have ZY:=cX p5
    rw[AB,A2] at ZY
    subst gF
    refine aW λY2 gF=>?_
    refine⟨_,rfl,M,rfl,⟨_,.of (s7 _ _ l5)⟩,λD2 hD2=>?_⟩
    refine iN (xs:=yd.map V.ref) (λj σ H'=>∃v:Option V,σ=[v,some (.ref o)]/\Same H7 H'/\H' D2=some (.lst ((ak (((Ao sg.length).map f).take j)).map V.int)))
     ⟨none,?sg4,Same.new hD2,af⟩ (λj σ H' _ ⟨_,_,s',_⟩=>.of (s' _ _ (s7 _ _ l5))) ?_ ?_
    case sg4=>rfl
    ·rintro j y σ H8 hy ⟨v,rfl,s8,l8⟩
     obtain⟨b,rfl,eb⟩:=qP hy
     obtain⟨m,em,xm⟩:=fZ p5 eb
     have hj:j<sg.length:=by rw[<-ZY];exact(AF.mp eb).1
     rw[AJ,Ce hj] at em
     cases em
     have k8:=(s7.trans s8).kt
     refine⟨_,rfl,.inl ⟨rfl,_,.of (s8 _ _ l7)⟩,_,rfl,o,as'.map V.ref,ms2,mkOf ks mv j,.ref b,f j,rfl,rfl,.of (s8 _ _ l7),qE (fL (λa m x=>mq k8 x) p2),mq k8 xm,hf j hj,λi hi z=>?_,_,l8,?_,_,rfl,s8.kbn hD2 KB.write,?_⟩
     ·have:=one z (hf j hj);omega
     ·rw[AB,a_,Az];omega
     ·rw[af,take_snoc (show((Ao sg.length).map f)[j]? =some (f j) by rw[AJ,Ce hj];rfl),eV,AW];rfl
    rintro σ H8 ⟨v,rfl,s8,l8⟩
    rw[AB,ZY,BD (by rw[AB,A2];exact AK _)] at l8
    have ZZ:=((s4.trans s5).trans s7).trans s8
    subst gF
    dsimp only[aO]
    refine⟨_,rfl,.ref o,as'.length,rfl,.inl ⟨_,.of (s8 _ _ l7),by rw[AB]⟩,_,rfl,.ref va,sg.length,rfl,.inr ⟨_,.of (ZZ _ _ e3),by rw[AB];exact lps.symm⟩,rfl,_,rfl,?_⟩
    by_cases hl:as'.length=sg.length
    ·rw[show decide (V.int ((as'.length:Nat):Int)=V.int ((sg.length:Nat):Int))=true from decide_eq_true (by rw[hl])]
     refine p8 ?_
     exact q _ ZZ
    ·rw[show decide (V.int ((as'.length:Nat):Int)=V.int ((sg.length:Nat):Int))=false from decide_eq_false (λz=>hl (by injection z with z;omega))]
     refine cN ?_
     have ed:∀r s,r<sg.length->s<sg.length->(mkOf ks mv r=mkOf ks mv s↔Ed B sg mv (t+1) r s):=λr s hr hs=>by
      rw[mk_iff cn.aV hr hs,Na,ek r s hr hs]
      exact and_congr Iff.rfl ⟨λh a ha=>(ek _ _ (cn.aV.stp hr ha) (cn.aV.stp hs ha)).mp (h a ha),λh a ha=>(ek _ _ (cn.aV.stp hr ha) (cn.aV.stp hs ha)).mpr (h a ha)⟩
     have many:=OB cn (t+1) (ms:=ms2) (mkOf ks mv) (λr hr=>(T5 _).mpr ⟨r,hr,rfl⟩) λr s hr hs e=>(ed r s hr hs).mp e
     have at_:∀r,r<sg.length->((Ao sg.length).map f).getD r 0=f r:=λr hr=>by rw[BB,AJ,Ce hr];rfl
     refine hN _ _ ⟨_,_,_,D2,(Ao sg.length).map f,rfl,ZZ,l8,by rw[AB,A2],λr s hr hs=>?_,.inr (by omega)⟩
     rw[at_ r hr,at_ s hs,<-ed r s hr hs]
     constructor
     ·intro e
      have h1:=hf r hr
      rw[e,hf s hs] at h1
      exact(AN h1).symm
     ·intro e
      exact one (hf r hr) (e▸hf s hs)
   ·rintro σ H4 ⟨v8,v9,v10,D,ks,rfl,s4,l4,lk,ek,z⟩
    have:=cn.pos
    omega
theorem _root_.L2.bS.ne{H:Hp}{d N:Addr}(h:bS H d)(e:H N=none):N≠d:=by
 obtain⟨ms,a,_⟩:=h
 exact(aC a e).symm
theorem _root_.L2.bS.upd{H:Hp}{d N:Addr}{o:HO}(h:bS H d)(n:N≠d):bS (upd H N o) d:=by
 obtain⟨ms,a,c⟩:=h
 exact⟨ms,by rw[aD n.symm];exact a,c⟩
theorem _root_.L2.bS.ktu{H H':Hp}{d:Addr}(h:bS H d)(k:KB d H H'):bq H H':=by
 obtain⟨ms,a,_⟩:=h
 exact bq.kb a k
theorem KB.T6{H H':Hp}{d N:Addr}{o:HO}(k:KB d H H')(e:H N=none):KB d H (upd H' N o):=λb p h n=>by
 rw[aD (aC h e)]
 exact k b p h n
theorem qF(xs:List V){n:Nat}(h:n<=xs.length):gc xs (some (n:Int)) none=xs.drop n:=by
 unfold gc
 rw[show HT.bo xs.length 0 (some (n:Int))=min n xs.length from HT.vj xs.length 0 n,Hm h]
 exact BD (by rw[CG];exact AK _)
theorem wF{σ:St}{H:Hp}{Q:Option Int->Hp->Prop}(h:Q none H):Me σ H Q:=h
theorem RK{K:AD}{H:Hp}{a:Addr}{xs:List V}{lo hi:Option Int}{Q:VK}(ea:H a=some (.tup xs))(h:∀u H',Same H H'->H' u=some (.tup (gc xs lo hi))->Q (.ref u) H'):UL K (.ref a) lo hi H Q:=by
 refine⟨a,xs,rfl,.of ea,λc=>h a H (Same.refl _) ?_,λ_ p hp=>h p _ (Same.new hp) af⟩
 unfold gc
 rw[c.1,c.2,IM,Nat.sub_zero,BQ]
 exact ea
def zf(K:AD)(ts:List Addr):Sp:=λvs H Q _=>∃(a:Addr) (ns:List Int),vs=[.ref a]/\bG K H a (ns.map V.int)/\ns.length<=63/\qK ts H/\∀H',Q (.bl true) H'
theorem afL{K:AD}:Dz K (.type "int") (.type "bool")=some false:=by rfl
theorem afM{K:AD}:Dz K (.type "int") (.type "int")=some true:=by rfl
theorem afN{K:AD}:Dz K (.type "tuple") (.type "tuple")=some true:=by rfl
theorem Z_:∀r:Nat,r<2->∃v:Nat,0<v/\uf ([.int 2,.int 10]:List V) (r:Int)=some (.int (v:Nat))
 | 0,_=>⟨2,by decide,rfl⟩
 | 1,_=>⟨10,by decide,rfl⟩
 | r+2,h=>absurd h (by omega)
def mR(l:List Nat):Dt:=.tup ((ak l).map Dt.int)
theorem ye{K:AD}{H:Hp}:∀{ps:List Addr} {mv:List (List Nat)},cO H ps (mv.map ak)->aG K H (ps.map V.ref) (mv.map mR)
 | [],[],_=>fh
 | _::_,[],h=>nomatch h
 | [],_::_,h=>nomatch h
 | p::ps,l::mv,.cons h t=>bP (fY (.of h) (qc _)) (ye t)
theorem yf:∀mv:List (List Nat),Dt.deps (mv.map mR)<=1
 | []=>by simp[Dt.deps]
 | l::mv=>by
  rw[Aw,Dt.deps]
  have:=yf mv
  have e:(mR l).dep=1:=by rw[mR,Dt.dep,qd]
  omega
def T7(sg:List Nat)(mv:List (List Nat)):Dt:=.tup [mR sg,.tup (mv.map mR)]
theorem RL(sg:List Nat)(mv:List (List Nat)):(T7 sg mv).dep<=40:=by
 have h1:(mR sg).dep=1:=by rw[mR,Dt.dep,qd]
 have h3:=yf mv
 simp only[T7,Dt.dep,Dt.deps,h1]
 omega
theorem dG.dat{K:AD}{H:Hp}{r:Addr}{sg:List Nat}{mv:List (List Nat)}(h:dG H r sg mv):au K H (.ref r) (T7 sg mv):=by
 obtain⟨sa,ma,ps,e1,e2,e3,tp⟩:=h
 exact fY (.of e1) (bP (fY (.of e2) (qc _)) (bP (fY (.of e3) (ye tp)) fh))
theorem T9{α:Type}{xs:List α}{v:α}(h0:0<xs.length)(h:xs[xs.length-1]? =some v):uf xs (-1)=some v:=by
 unfold uf pF
 rw[if_neg (by decide),if_pos (by omega)]
 show xs[((-1:Int)+(xs.length:Int)).toNat]? =_
 rw[show((-1:Int)+(xs.length:Int)).toNat=xs.length-1 by omega]
 exact h
theorem RM{H:Hp}{ps:List Addr}{mv:List (List Nat)}(h:cO H ps (mv.map ak)):cO H (ps.drop 1) ((mv.drop 1).map ak):=by
 cases ps with
 | nil=>cases mv with
  | nil=>exact .nil
  | cons _ _=>cases h
 | cons p ps=>cases mv with
  | nil=>cases h
  | cons l mv=>cases h with
   | cons _ t=>exact t
theorem TB.lst{a:bF}{H H':Hp}{M:Addr}{xs:List V}(t:TB a H)(k:KB M H H')(e:H M=some (.lst xs)):TB a H':=by
 have q:∀{T:Addr} {L:List (Pos×Str)},Tab H T L->Tab H' T L:=λx=>x.kb k (λps z=>by rw[e] at z;cases z) λφ z=>by rw[e] at z;cases z
 exact⟨q t.si,q t.rm,q t.ro⟩
theorem dF:aN ["_law_script","_law_deck_here","_law_base_here","_law_many","_law_kinds","_law_signs","_law_moves","_law_row","_law_found","_law_world","_law_other","_law_turn","_law_number_here","_law_some","_law_due","_law_down"] ["_law_script"] (ah i8):=⟨rfl,rfl,rfl,by decide+kernel,rfl,by decide+kernel,by decide+kernel⟩
set_option maxHeartbeats 32000000 in
theorem Z0{a:bF}{pb:lY}{pc:m5}(T:Txt K mg a)(hB:fP mg base)(U:ji K w.params mg pb)(Yt:jP K w.params mg pc):aR P w K mg base bh 8 a.N9 a.Qv ["_law_script"] (zf K [a.bz,a.cb,a.dB,a.dC,a.bH,a.cR]):=by
 have Ua:=QK (P:=P) (w:=w) (base:=base) T
 have cf:=mN (P:=P) (w:=w) (base:=base) T
 have Ub:=QQ (P:=P) (w:=w) (base:=base) T
 have o9:=rG (P:=P) (w:=w) (base:=base) T
 have jQ:=qC (P:=P) (w:=w) (base:=base) T
 have pe:=x5 (P:=P) (w:=w) (base:=base) T
 have RN:=OD (P:=P) (w:=w) (base:=base) T
 have wG:aR P w K mg base bh 7 a.fJ a.gi ["_law_deck_here","_law_world"] (RF a):=u9 T hB U Yt
 have L3:=Lc (P:=P) (w:=w) (base:=base) T
 have RO:=Ox (P:=P) (w:=w) (base:=base) T
 have Lk:=y8 (P:=P) (w:=w) (base:=base) T
 have tZ:=RB (P:=P) (w:=w) (base:=base) T hB
 refine T.ach.ok dF (λvs H Q E h=>?_) (λcdv A outer s H vs Q E hr h=>?_)
 ·obtain⟨sa,ns,rfl,_⟩:=h
  rfl
 ·obtain⟨sa,ns,rfl,hS,hns,hO,k⟩:=h
  have RP:aL 2 _:=hr.mono (by decide)
  have bQ:aL 2 _:=hr.mono (by decide)
  have RQ:aL 3 _:=hr.mono (by decide)
  have ng:aL 3 _:=hr.mono (by decide)
  have jk:aL 1 _:=hr.mono (by decide)
  have mQ:aL 1 _:=hr.mono (by decide)
  have OE:aL 1 _:=hr.mono (by decide)
  have vd:aL 7 _:=hr
  have Ll:aL 2 _:=hr.mono (by decide)
  have OG:aL 2 _:=hr.mono (by decide)
  have y9:aL 3 _:=hr.mono (by decide)
  have qG:aL 4 _:=hr.mono (by decide)
  refine⟨_,(ai (az (i:=1) dF.nd rfl (DD rfl) (aB Ua RP rfl T.Tj T.Tn T.To .nil aJ (ae (pv 0) ag)))
  (ai (az (i:=2) dF.nd rfl (DD rfl) (aB Ub RQ rfl T.Tr T.Ts T.Tt .nil aJ (ae (pv 1) ag)))
  (ai (az (i:=3) dF.nd rfl (DD rfl) (aS eK aj (aB cf bQ rfl T.cS T.cU T.cV .nil aJ (ae (pv 1) (ae aj ag)))))
  (ai (az (i:=4) dF.nd rfl (DD rfl) (aA (fb K) (eO (ae aj (ae aj ag))) (aB cf bQ rfl T.cS T.cU T.cV .nil aJ (ae (pv 1) (ae aj ag))) (λ_ _=>rfl)))
  (ai (az (i:=5) dF.nd rfl (Ai rfl) (bD (bO K) (by rfl) T.dh cE (ae (cz (aP.mk' (esc:=ah i8) (N:=["_law_script","_law_deck_here","_law_base_here","_law_many","_law_kinds","_law_signs","_law_moves","_law_row","_law_found","_law_world","_law_other","_law_turn","_law_number_here","_law_some","_law_due","_law_down"]) (own:=["_law_room"]) (aI:=["_law_deck_here","_law_kinds"]) (bN:=[1,4]) rfl rfl (by decide+kernel)) rfl (cg rfl T.cW (ae (pv 3) ag)) (λ_ _ _ _=>(aH (i:=0) (show Bs (["_law_room","_law_deck_here","_law_kinds"]:List Str) by decide+kernel) rfl (Ai rfl))) (λ_ _ _ _=>bK) (λ_ _ _ _=>(aB cf bQ rfl T.cS T.cU T.cV .nil aJ (ae (pv 1) (ae (pv 2) ag))))) ag)))
  (ai (oz (i:=6) (aP.mk' (esc:=ah i8) (N:=["_law_script","_law_deck_here","_law_base_here","_law_many","_law_kinds","_law_signs","_law_moves","_law_row","_law_found","_law_world","_law_other","_law_turn","_law_number_here","_law_some","_law_due","_law_down"]) (own:=["_law_room"]) (aI:=["_law_deck_here","_law_many","_law_base_here"]) (bN:=[1,3,2]) rfl rfl (by decide+kernel)) rfl (cg rfl T.cW (ae (pv 3) ag)) (λ_ _ _ _=>(aH (i:=0) (show Bs (["_law_room","_law_deck_here","_law_many","_law_base_here"]:List Str) by decide+kernel) rfl (Ai rfl))) (λ_ _ _ _=>bK) (λ_ _ _ _=>(bD (bO K) (by rfl) T.dh cE (ae (cz (aP.mk' (esc:=_) (N:=["_law_room","_law_deck_here","_law_many","_law_base_here"]) (own:=["_law_k"]) (aI:=["_law_deck_here","_law_many"]) (bN:=[1,2]) rfl rfl (by rfl)) rfl (cg rfl T.cW (ae (pv 3) ag)) (λ_ _ _ _=>(aH (i:=0) (show Bs (["_law_k","_law_deck_here","_law_many"]:List Str) by decide+kernel) rfl (Ai rfl))) (λ_ _ _ _=>bK) (λ_ _ _ _=>(aB cf bQ rfl T.cS T.cU T.cV .nil aJ (ae (pv 1) (ae (pv 2) ag))))) ag))) dF.nd rfl rfl)
  (ai (t6 (aS (vG K) (bx (ae aj ag)) (jm (Mz K) (aA (fb K) (pv 6) aj (λ_ _=>rfl)) (iL aj) fX)) (O1 (pv 6) aj set_list))
  (ai (az (i:=7) dF.nd rfl (Ai rfl) (bx (ae (pv 5) (ae (bD (bO K) (by rfl) T.dh cE (ae (pv 6) ag)) ag))))
  (ai (az (i:=8) dF.nd rfl (Ai rfl) (aB tZ qG rfl T.sJ T.sO T.sQ .nil aJ (ae (pv 2) (ae (pv 7) ag))))
  (ai (bW (PW.pt (oh (nj (gj (aQ (qb K) (by rfl) T.lW j3 (ae (pv 8) (ae (vf (v:=.ty "tuple") rfl T.dh cE rfl) ag))) (λ_=>rfl))) (oh (bj i_ (aQ (aZ K) (by rfl) T.cA bR (ae (pv 8) ag)) aj (bt _)) (pW (nj (gj (aB RN OE rfl T.QG T.QH T.QI .nil aJ (ae (aA (av K) (pv 8) aj (λ_ _=>rfl)) (ae (aA (av K) (pv 8) aj (λ_ _=>rfl)) ag))) (λ_=>rfl)))))))
   (aq (aM fm))
   bu)
  (ai (az (i:=9) dF.nd rfl (Ai rfl) (bx (ae (pv 2) (ae (Mj (rW eJ (pv 8) vp) rfl rfl (λz=>nomatch z) (by decide)) ag))))
  (ai (bW (PW.pt (oh (bj V9 (aB Lk y9 rfl T.J0 T.J4 T.J5 .nil aJ (ae (pv 9) ag)) t_ (bt _)) (pW (nj (gj (aB wG vd rfl T.vQ T.vR T.vS .nil aJ (ae (pv 1) (ae (pv 9) ag))) (λ_=>rfl))))))
   (aq (aM fm))
   bu)
  (ai (az (i:=10) dF.nd rfl (Ai rfl) (bx (ae (Wr K (pv 5) fX fX (iL (Np zu aj))) (ae (aS (vG K) (bx (ae (aS (vG K) (bx (ae aj ag)) (jm (Mz K) (aA (fb K) (pv 6) (Np zu aj) (λ_ _=>rfl)) (iL aj) fX)) ag)) (bD (bO K) (by rfl) T.dh cE (ae (jm (oB K) (pv 6) (iL aj) fX) ag))) ag))))
  (ai (cM (aB tZ qG rfl T.sJ T.sO T.sQ .nil aJ (ae (pv 2) (ae (pv 10) ag))))
  (ai (bW (bj (X8 K hr.units) (aB tZ qG rfl T.sJ T.sO T.sQ .nil aJ (ae (pv 2) (ae (pv 7) ag))) (pv 8) (bt _))
   (aq (aM fm))
   bu)
  (ai (cp A7 rfl (cg rfl T.cW (ae aj ag)) (aH (i:=11) dF.nd rfl (Ai rfl))
   (ai (az (i:=12) dF.nd rfl (Ai rfl) (aB o9 ng rfl T.uM T.uN T.uO .nil aJ (ae (pv 1) (ae (pv 2) ag))))
   (ai (az (i:=13) dF.nd rfl (Ai rfl) (aB jQ jk rfl T.mY T.mZ T.m_ .nil aJ (ae (pv 2) (ae (pv 12) ag))))
   (ai (az (i:=14) dF.nd rfl (Ai rfl) (aB pe mQ rfl T.tF T.tG T.tH .nil aJ (ae (pv 7) (ae (Ws K (pv 13) fX fX (iL (Np zu aj))) ag))))
   (ai (az (i:=15) dF.nd rfl (Ai rfl) (aB L3 Ll rfl T.LG T.LH T.LI .nil aJ (ae (pv 2) (ae (pv 7) (ae (pv 12) ag)))))
   (ai (bW (PW.pt (oh (nj (gj (aQ (qb K) (by rfl) T.lW j3 (ae (pv 15) (ae (vf (v:=.ty "int") rfl T.UU Pz rfl) ag))) (λ_=>rfl))) (oh (gj (aQ (qb K) (by rfl) T.lW j3 (ae (pv 15) (ae (vf (v:=.ty "bool") rfl T.QJ Mq rfl) ag))) (λ_=>rfl)) (pW (bj i_ (pv 15) (pv 14) (bt _))))))
    (aq (aM fm))
    bu)
   (aq (bW (PW.pt (oh (bj i_ (aB pe mQ rfl T.tF T.tG T.tH .nil aJ (ae (pv 8) (ae (pv 13) ag))) (pv 14) (bt _)) (pW (bj i_ (aB RO OG rfl T.Qx T.Qy T.Qz .nil aJ (ae (pv 9) (ae eJ (ae (pv 12) ag)))) (pv 14) (bt _)))))
    (aq (aM fm))
    bu))))))))
  (aq (aM (nq (PF K hr.units) (pv 7) (bx (ae (pv 5) (ae (bD (bO K) (by rfl) T.dh cE (ae (pv 6) ag)) ag))) (bt _)))))))))))))))))))),?_⟩
  have big:(100000:Nat)<=sizeLine:=by decide
  have tb0:TB a H:=⟨hO.tab (by simp),hO.tab (by simp),hO.tab (by simp)⟩
  refine aW λY hY=>?_
  refine⟨_,rfl,sa,ns,rfl,hS,hns,λd H1 hd s1 d1=>?_⟩
  have xZ:=tb0.same s1
  dsimp only[aO]
  subst hY
  refine aW λY hY=>?_
  refine⟨_,rfl,d,rfl,d1,λb H2 hb2 hb4 k2 d2=>?_⟩
  have tb2:=xZ.o8 k2 d1
  dsimp only[aO]
  subst hY
  refine aW λY hY=>?_
  refine⟨_,rfl,d,3,rfl,d2,by decide,λr3 H3 r30 r31 k3 d3=>?_⟩
  have n_:=tb2.o8 k3 d2
  obtain⟨m0,rfl⟩:=toN r30
  refine⟨_,_,rfl,rfl,?_⟩
  dsimp only[aO]
  rw[show(1:Int)+(m0:Int)=((1+m0:Nat):Int) by omega]
  obtain⟨n,hn⟩:∃n,n=1+m0:=⟨_,rfl⟩
  rw[<-hn]
  have n0:0<n:=by omega
  have n3:n<=3:=by omega
  subst hY
  refine aW λY hY=>?_
  refine⟨by show 2<=sizeLine;omega,λL hL=>?_⟩
  have sL:=Same.new (o:=.lst [.int 2,.int 10]) hL
  refine⟨_,rfl,d,2,rfl,d3.same sL,by decide,λr4 H4 r40 r41 k4 d4=>?_⟩
  have M7:=(n_.same sL).o8 k4 (d3.same sL)
  obtain⟨r4,rfl⟩:=toN r40
  obtain⟨kd,kd0,ekd⟩:=Z_ r4 (by omega)
  refine⟨L,_,_,.int (kd:Nat),rfl,rfl,.of (k4 _ _ af (d3.ne hL)),ekd,?_⟩
  clear tb0 xZ tb2 n_ k2 k3 k4 d1 d2 d3 s1 sL hL ekd
  dsimp only[aO]
  subst hY
  refine aW λY hY=>?_
  refine⟨_,rfl,_,rfl,by omega,by omega,λC hC=>?_⟩
  have nC:=d4.ne hC
  refine gH (λj σ H'=>∃(sg:List Nat) (v:Option V),σ=[v,some (.ref d),some (.int (kd:Nat))]/\KB d H4 H'/\bS H' d/\H' C=some (.lst ((ak sg).map V.int))/\sg.length=j)
   ⟨[],none,?sg,(Same.new hC).kb,d4.same (Same.new hC),af,rfl⟩ ?_ ?_
  case sg=>rfl
  ·rintro j σ H6 hj ⟨sg,v,rfl,k6,d6,c6,lb⟩
   rw[Ae] at hj
   refine⟨_,rfl,_,rfl,d,_,rfl,d6,by omega,λq H7 q0 q1 k7 d7=>?_⟩
   obtain⟨q,rfl⟩:=toN q0
   refine⟨_,k7 _ _ c6 nC,?_,sg++[q],_,rfl,KB.T6 (k6.trans k7) hC,d7.upd nC,?_,by rw[AR,lb];rfl⟩
   ·rw[AB,a_];omega
   ·rw[af,eV,AW];rfl
  rintro σ H5 ⟨sg,v,rfl,k5,d5,c5,Vj⟩
  rw[Ae] at Vj
  subst Vj
  refine⟨C,_,rfl,.inl ⟨.of c5,λS hS'=>?_⟩⟩
  have sS:=Same.new (o:=.tup ((ak sg).map V.int)) hS'
  have eS:(upd H5 S (.tup ((ak sg).map V.int))) S=some (.tup ((ak sg).map V.int)):=af
  have d6:=d5.same sS
  have Lj:=(M7.o8 k5 d4).same sS
  generalize upd H5 S (.tup ((ak sg).map V.int))=H6 at eS d6 Lj ⊢
  clear M7 k5 d4 d5 c5 hC nC sS hS'
  dsimp only[aO]
  subst hY
  refine aW λY hY=>?_
  refine⟨_,rfl,_,rfl,by omega,by omega,λM hM=>?_⟩
  have nM:=d6.ne hM
  refine gH (λj σ H'=>∃(mv:List (List Nat)) (ps:List Addr) (v:Option V),σ=[v,some (.ref d),some (.int (sg.length:Nat)),some (.int (b:Nat))]/\KB d H6 H'/\bS H' d/\H' M=some (.lst (ps.map V.ref))/\cO H' ps (mv.map ak)/\mv.length=j/\∀l∈mv,l.length=b/\∀x∈l,x<sg.length)
   ⟨[],[],none,?sg2,(Same.new hM).kb,d6.same (Same.new hM),af,.nil,rfl,λl hl=>(by cases hl)⟩ ?_ ?_
  case sg2=>rfl
  ·rintro j σ H7 hj ⟨mv,ps,v,rfl,k7,d7,m7,n4,lm,hm⟩
   rw[Ae] at hj
   refine⟨_,rfl,_,rfl,by omega,by omega,λC hC=>?_⟩
   have nC:=d7.ne hC
   refine gH (λj σ H'=>∃(l:List Nat) (v:Option V),σ=[v,some (.ref d),some (.int (sg.length:Nat))]/\KB d H7 H'/\bS H' d/\H' C=some (.lst ((ak l).map V.int))/\l.length=j/\∀x∈l,x<sg.length)
    ⟨[],none,?u0,(Same.new hC).kb,d7.same (Same.new hC),af,rfl,λx hx=>(by cases hx)⟩ ?_ ?_
   case u0=>rfl
   ·rintro i σ H8 hi ⟨l,v,rfl,k8,d8,c8,ll,hl⟩
    rw[Ae] at hi
    refine⟨_,rfl,_,rfl,d,_,rfl,d8,by omega,λq H9 q0 q1 k9 d9=>?_⟩
    obtain⟨q,rfl⟩:=toN q0
    refine⟨_,k9 _ _ c8 nC,?_,l++[q],_,rfl,KB.T6 (k8.trans k9) hC,d9.upd nC,?_,by rw[AR,ll];rfl,λx hx=>?_⟩
    ·rw[AB,a_];omega
    ·rw[af,eV,AW];rfl
    ·rcases A6.mp hx with z | z
     ·exact hl x z
     ·rw[Ad.mp z];omega
   rintro σ H8 ⟨l,v,rfl,k8,d8,c8,ll,hl⟩
   rw[Ae] at ll
   refine⟨C,_,rfl,.inl ⟨.of c8,λZ hZ=>?_⟩⟩
   have sZ:=Same.new (o:=.tup ((ak l).map V.int)) hZ
   have eZ:(upd H8 Z (.tup ((ak l).map V.int))) Z=some (.tup ((ak l).map V.int)):=af
   have Vo:KB d H7 (upd H8 Z (.tup ((ak l).map V.int))):=k8.trans sZ.kb
   have d9:=d8.same sZ
   generalize upd H8 Z (.tup ((ak l).map V.int))=H9 at eZ Vo d9 ⊢
   have m9:=Vo _ _ m7 nM
   have kw:bq H9 (upd H9 M (.lst (ps.map V.ref++[.ref Z]))):=λb xs e=>by
    by_cases z:b=M
    ·subst z;rw[m9] at e;cases e
    ·rw[aD z];exact e
   have M0:bq H7 H9:=d7.ktu Vo
   have lps:ps.length=j:=by rw[Aq n4,AB,lm]
   refine⟨_,m9,by rw[AB];omega,mv++[l],ps++[Z],_,rfl,KB.T6 (k7.trans Vo) hM,d9.upd nM,by rw[af,AW];rfl,?_,by rw[AR,lm];rfl,λx hx=>?_⟩
   ·rw[AW]
    exact m4 ((n4.keep M0).keep kw) (kw _ _ eZ)
   ·rcases A6.mp hx with z | z
    ·exact hm x z
    ·rw[Ad.mp z];exact⟨ll,hl⟩
  rintro σ H7 ⟨Z1,xW,v,rfl,k7,d7,m7,n4,lm,hm⟩
  rw[Ae] at lm
  have am':Moves sg.length b Z1:=⟨lm,hm⟩
  have rM:=Lj.o8 k7 d6
  have eS7:=d6.ktu k7 _ _ eS
  have afO:xW.length=sg.length:=by rw[Aq n4,AB,lm]
  clear Lj d6 k7 eS
  show Y _ _
  subst hY
  refine aW λY hY=>?_
  obtain⟨r0,Vp,rfl⟩:∃r0 Vp,Z1=r0::Vp:=by
   cases Z1 with
   | nil=>rw[B5] at lm;omega
   | cons r m=>exact⟨r,m,rfl⟩
  obtain⟨p0,rR,rfl⟩:∃p0 rR,xW=p0::rR:=by
   cases xW with
   | nil=>rw[B5] at afO;omega
   | cons r m=>exact⟨r,m,rfl⟩
  have e0:H7 p0=some (.tup ((ak r0).map V.int)):=by
   cases n4 with
   | cons h _=>exact h
  have tpr:cO H7 rR (Vp.map ak):=by
   cases n4 with
   | cons _ t=>exact t
  have l0:r0.length=b:=(hm r0 AQ).1
  refine⟨by show 1<=sizeLine;omega,λz hz=>?_⟩
  have sz:=Same.new (o:=.tup [.int 0]) hz
  refine⟨_,rfl,M,_,_,.ref p0,rfl,rfl,.of (sz _ _ m7),ao (j:=0) rfl,_,rfl,wF (RK (sz _ _ e0) λu1 H8 s8 e8=>?_)⟩
  have e8':=e8.trans (congrArg (λx=>some (HO.tup x)) (qF ((ak r0).map V.int) (n:=1) (by rw[AB,a_];omega)))
  refine⟨z,u1,_,_,rfl,rfl,s8 _ _ af,e8',by rw[CG,AB,a_];show 1+(r0.length-1)<=_;omega,λu2 H9 s9 e9=>?_⟩
  have rQ:=(sz.trans s8).trans s9
  have m9:=rQ _ _ m7
  have e9':H9 u2=some (.tup ((ak (0::r0.drop 1)).map V.int)):=by rw[e9];simp[ak,FV]
  refine⟨_,rfl,M,_,0,0,rfl,rfl,m9,Y0 (i:=0) (by simp),?_⟩
  have kM:KB M H9 (upd H9 M (.lst ((HF V.ref (p0::rR)).set 0 (.ref u2)))):=KB.write
  have kt9:bq H9 (upd H9 M (.lst ((HF V.ref (p0::rR)).set 0 (.ref u2)))):=λb xs e=>by
   by_cases z:b=M
   ·subst z;rw[m9] at e;cases e
   ·rw[aD z];exact e
  have RS:(upd H9 M (.lst ((HF V.ref (p0::rR)).set 0 (.ref u2)))) M=some (.lst ((u2::rR).map V.ref)):=af
  have Z2:bS (upd H9 M (.lst ((HF V.ref (p0::rR)).set 0 (.ref u2)))) d:=(d7.same rQ).upd nM
  have Uc:=(rM.same rQ).lst kM m9
  generalize upd H9 M (.lst ((HF V.ref (p0::rR)).set 0 (.ref u2)))=rg at kt9 RS Z2 Uc ⊢
  have Ud:=rQ.kt.trans kt9
  obtain⟨mv,Z3⟩:∃mv,mv=(0::r0.drop 1)::Vp:=⟨_,rfl⟩
  have aV:Moves sg.length b mv:=by
   rw[Z3]
   refine⟨lm,λl hl=>?_⟩
   rcases AV.mp hl with z | z
   ·rw[z]
    refine⟨by rw[Aj,CG,l0];omega,λx hx=>?_⟩
    rcases AV.mp hx with y | y
    ·rw[y];exact n0
    ·exact(hm r0 AQ).2 x (Fb y)
   ·exact hm l (AM _ z)
  have h00:stp mv 0 0=0:=by rw[Z3];rfl
  obtain⟨ps,hps⟩:∃ps,ps=u2::rR:=⟨_,rfl⟩
  have OH:cO rg ps (mv.map ak):=by rw[Z3,hps];exact .cons (kt9 _ _ e9') (tpr.keep Ud)
  have Ue:=Ud _ _ eS7
  rw[<-hps] at RS
  clear rM d7 m7 m9 e9 e9' e8 e8' s8 s9 sz rQ kM kt9 Ud hz tpr e0 eS7 n4
  have lps:ps.length=sg.length:=by rw[Aq OH,AB,aV.len]
  show Y _ _
  subst hY
  refine aW λY hY=>?_
  refine⟨_,rfl,_,rfl,M,_,rfl,.inl ⟨.of RS,λma hma=>⟨by show 2<=sizeLine;omega,λro hro=>?_⟩⟩⟩
  have sA:=Same.new (o:=.tup (ps.map V.ref)) hma
  have sB:=Same.new (o:=.tup [.ref S,.ref ma]) hro
  have rh:=sA.trans sB
  have Z4:dG (upd (upd rg ma (.tup (ps.map V.ref))) ro (.tup [.ref S,.ref ma])) ro sg mv:=⟨S,ma,ps,af,rh _ _ Ue,sB _ _ af,OH.keep rh.kt⟩
  have afP:(upd (upd rg ma (.tup (ps.map V.ref))) ro (.tup [.ref S,.ref ma])) ma=some (.tup (ps.map V.ref)):=sB _ _ af
  generalize upd (upd rg ma (.tup (ps.map V.ref))) ro (.tup [.ref S,.ref ma])=zL at rh Z4 afP ⊢
  have d11:=Z2.same rh
  have afQ:=Uc.same rh
  have m11:=rh _ _ RS
  have afR:=rh _ _ Ue
  have afS:=OH.keep rh.kt
  clear sA sB hma hro Z2 Uc RS Ue OH rh
  dsimp only[aO]
  subst hY
  refine aW λY hY=>?_
  refine⟨_,rfl,_,rfl,b,ro,sg,mv,rfl,hb2,hb4,Z4,aV,n0,by omega,afQ,λfo sg2 mv2 H12 k12 Z5 rwF RU=>?_⟩
  have cn:=RU.can
  have few:=RU.few aV n0 (by omega)
  have RT:=RU.right aV n0 (by omega) ⟨hb2,hb4⟩ h00
  have d12:bS H12 d:=d11.kx k12
  obtain⟨sa2,ma2,ps2,f1,f2,f3,tpf⟩:=id rwF
  dsimp only[aO]
  subst hY
  refine aW λY hY=>?_
  refine⟨_,rfl,V.ref fo,_,"tuple",true,rfl,gk.tup f1,afN,true,rfl,cN ?_⟩
  refine⟨_,rfl,.ref fo,2,rfl,.inr ⟨_,.of f1,rfl⟩,rfl,_,rfl,?_⟩
  rw[show(!decide (V.int ((2:Nat):Int)=V.int 2))=false from rfl]
  refine cN ?_
  refine⟨_,rfl,fo,_,_,.ref sa2,rfl,rfl,.of f1,ao (j:=0) rfl,_,rfl,fo,_,_,.ref ma2,rfl,rfl,.of f1,ao (j:=1) rfl,sa2,ma2,ps2,sg2,mv2,b,rfl,f2,f3,tpf,cn,by omega,by omega,λNc RV=>⟨true,rfl,cN ?_⟩⟩
  show Y _ _
  have Z6:KX a zL Nc:=k12.trans (KX.same RV)
  have d13:=d12.same RV
  have Z7:=Z5.same RV
  have Vq:=rwF.keep RV.kt
  clear f1 f2 f3 tpf d12 Z5 k12 RV
  subst hY
  refine aW λY hY=>?_
  refine⟨_,rfl,λDw hDw=>⟨_,rfl,?_⟩⟩
  refine⟨af,[(Bv "ROW",.ref fo)],rfl,by show 1<=15;decide,by show 2<=sizeLine;omega,λwo hwo=>?_⟩
  have sw:=Same.new (o:=.tup [.int (b:Nat),.ref Dw]) hwo
  have rL:(upd (upd (upd Nc Dw (.dK [])) Dw (.dK (c_ [] [(Bv "ROW",.ref fo)]))) wo (.tup [.int (b:Nat),.ref Dw])) Dw=some (.dK [(Bv "ROW",.ref fo)]):=sw _ _ af
  have Lm:Same Nc (upd (upd (upd Nc Dw (.dK [])) Dw (.dK (c_ [] [(Bv "ROW",.ref fo)]))) wo (.tup [.int (b:Nat),.ref Dw])):=λc q e=>sw _ _ (by rw[aD (aC e hDw),aD (aC e hDw)];exact e)
  have vb:(upd (upd (upd Nc Dw (.dK [])) Dw (.dK (c_ [] [(Bv "ROW",.ref fo)]))) wo (.tup [.int (b:Nat),.ref Dw])) wo=some (.tup [.int (b:Nat),.ref Dw]):=af
  clear sw
  dsimp only[aO]
  refine(λ(K7:∀Ln,Same Nc Ln->Ln Dw=some (.dK [(Bv "ROW",.ref fo)])->Ln wo=some (.tup [.int (b:Nat),.ref Dw])->Y [some (.ref sa),some (.ref d),some (.int (b:Nat)),some (.int (sg.length:Nat)),some (.int (kd:Nat)),some (.ref S),some (.ref M),some (.ref ro),some (.ref fo),some (.ref wo),none,none,none,none,none,none] Ln)=>K7 _ Lm rL vb) λLn Lm rL vb=>?_
  have Z8:KX a zL Ln:=Z6.trans (KX.same Lm)
  have Vr:=d13.same Lm
  have Z9:=Z7.same Lm
  have zg:=Vq.keep Lm.kt
  clear Z6 d13 Z7 Vq Lm hDw hwo
  subst hY
  refine aW λY hY=>?_
  refine⟨_,rfl,b,wo,Dw,fo,"ROW",sg2,mv2,rfl,vb,rL,zg,RT,λH15 yg=>?_⟩
  refine⟨rfl,_,rfl,?_⟩
  rw[show(!decide (V.non=V.non))=false from rfl]
  refine cN ?_
  refine⟨_,rfl,_,rfl,d,wo,Dw,fo,b,sg2,mv2,rfl,Vr.same yg,yg _ _ vb,yg _ _ rL,zg.keep yg.kt,RT,cn.pos,few,Z9.same yg,λRW d16 Z' k16=>⟨true,rfl,cN ?_⟩⟩
  show Y _ _
  have nDw:Dw≠d:=λy=>by
   obtain⟨ms,e,_⟩:=Vr
   rw[y,e] at rL;cases rL
  have aac:KD d zL RW:=(KD.kx Z8).trans ((KD.same yg).trans k16)
  have k46:KD d Ln RW:=(KD.same yg).trans k16
  have Ug:=k46.kt Vr
  have Uh:=aac.kt d11
  have Vs:=zg.keep Ug
  have Vt:=Ug _ _ vb
  have Vu:=k46 _ _ rL nDw (λ_ y=>nomatch y)
  have Vv:=aac _ _ m11 nM (λ_ y=>nomatch y)
  have Ui:=Uh _ _ afR
  have OJ:=afS.keep Uh
  have OL:=Z4.keep Uh
  clear vb rL zg Z8 Vr Z9 k16 k46 Ug yg
  subst hY
  refine aW λY hY=>?_
  refine⟨_,rfl,_,rfl,_,rfl,S,_,rfl,rfl,rfl,rfl,.of Ui,λS' hS'=>?_⟩
  have RX:=Same.new (o:=.tup ((ak sg).map V.int).reverse) hS'
  have eS':(upd RW S' (.tup ((ak sg).map V.int).reverse)) S'=some (.tup ((ak sg.reverse).map V.int)):=by rw[af,tX]
  generalize upd RW S' (.tup ((ak sg).map V.int).reverse)=H17 at RX eS' ⊢
  have Vw:sg.length-1<sg.length:=by omega
  obtain⟨w1,w2,w3⟩:=aV.row (OJ.keep RX.kt) Vw
  refine⟨by show 1<=sizeLine;omega,λz hz=>?_⟩
  have sz:=Same.new (o:=.tup [.int 0]) hz
  refine⟨_,rfl,_,rfl,M,_,_,.ref (ps.getD (sg.length-1) 0),rfl,rfl,.of (sz _ _ (RX _ _ Vv)),T9 (by rw[AB];omega) (by rw[AB,lps,AJ,w1];rfl),_,rfl,wF (RK (sz _ _ w2) λu1 H18 Vx e18=>?_)⟩
  have aae:=e18.trans (congrArg (λx=>some (HO.tup x)) (qF ((ak (mv.getD (sg.length-1) [])).map V.int) (n:=1) (by rw[AB,a_,w3];omega)))
  refine⟨z,u1,_,_,rfl,rfl,Vx _ _ af,aae,by rw[CG,AB,a_,w3];show 1+(b-1)<=_;omega,λu3 H19 s19 e19=>?_⟩
  have aag:H19 u3=some (.tup ((ak (0::(mv.getD (sg.length-1) []).drop 1)).map V.int)):=by rw[e19];simp[ak,FV]
  have s69:=((RX.trans sz).trans Vx).trans s19
  refine⟨by show 1<=sizeLine;omega,λu4 hu4=>?_⟩
  have RY:=Same.new (o:=.tup [.ref u3]) hu4
  refine⟨_,rfl,_,rfl,wF ⟨M,_,rfl,.of (RY _ _ (s69 _ _ Vv)),λu5 hu5=>?_⟩⟩
  have RZ:=Same.new (o:=.lst (gc (ps.map V.ref) (some 1) none)) hu5
  refine⟨u5,_,rfl,.inl ⟨.of af,λu6 hu6=>?_⟩⟩
  have R_:=Same.new (o:=.tup (gc (ps.map V.ref) (some 1) none)) hu6
  have Uj:gc (ps.map V.ref) (some 1) none=(ps.drop 1).map V.ref:=(qF (ps.map V.ref) (n:=1) (by rw[AB];omega)).trans (by rw[FV])
  refine⟨u4,u6,_,_,rfl,rfl,R_ _ _ (RZ _ _ af),af,by rw[Uj,AB,CG];show 1+_<=_;omega,λu7 H20 Vy e20=>?_⟩
  have s60:=(((s69.trans RY).trans RZ).trans R_).trans Vy
  have s90:=((RY.trans RZ).trans R_).trans Vy
  have e20':H20 u7=some (.tup ((u3::ps.drop 1).map V.ref)):=by rw[e20,Uj];rfl
  have eu3:=s90 _ _ aag
  have aak:=(((((sz.trans Vx).trans s19).trans RY).trans RZ).trans R_).trans Vy _ _ eS'
  refine⟨by show 2<=sizeLine;omega,λot hot=>?_⟩
  have Nd:=Same.new (o:=.tup [.ref S',.ref u7]) hot
  have rwO:dG (upd H20 ot (.tup [.ref S',.ref u7])) ot sg.reverse ((0::(mv.getD (sg.length-1) []).drop 1)::mv.drop 1):=⟨S',u7,u3::ps.drop 1,af,Nd _ _ aak,Nd _ _ e20',.cons (Nd _ _ eu3) (RM (OJ.keep (s60.trans Nd).kt))⟩
  have Vz:=s60.trans Nd
  generalize upd H20 ot (.tup [.ref S',.ref u7])=H21 at Vz rwO ⊢
  clear RX eS' sz Vx e18 aae s19 e19 aag s69 hu4 RY hu5 RZ hu6 R_ Uj Vy e20 s60 s90 e20' eu3 aak hot Nd hz hS' w1 w2
  have aam:Moves sg.reverse.length b ((0::(mv.getD (sg.length-1) []).drop 1)::mv.drop 1):=by
   rw[Bw]
   refine⟨by rw[Aj,CG,aV.len];omega,λl hl=>?_⟩
   rcases AV.mp hl with y | y
   ·rw[y]
    refine⟨by rw[Aj,CG,w3];omega,λx hx=>?_⟩
    rcases AV.mp hx with y | y
    ·rw[y];exact n0
    ·exact(aV.lead _ (AI (item_at [] (show sg.length-1<mv.length by rw[aV.len];exact Vw)))).2 x (Fb y)
   ·exact aV.lead l (Fb y)
  dsimp only[aO]
  subst hY
  refine aW λY hY=>?_
  refine⟨_,rfl,_,rfl,b,ot,sg.reverse,_,rfl,hb2,hb4,rwO,aam,by rw[Bw];exact n0,by rw[Bw];omega,Z'.same Vz,λfo2 sg5 mv5 H22 k22 aan _ _=>?_⟩
  have k62:KX a RW H22:=(KX.same Vz).trans k22
  show Y _ _
  subst hY
  refine aW λY hY=>?_
  refine⟨_,rfl,_,rfl,b,ro,sg,mv,rfl,hb2,hb4,OL.keep k62.kt,aV,n0,by omega,aan,λfo3 u0 mv3 VA k23 afT Li RO3=>⟨_,rfl,?_⟩⟩
  obtain⟨z1,z2⟩:=RO3.one RU
  subst z1 z2
  have ve:=k62.trans k23
  have OM:=OL.keep ve.kt
  have zh:=Vs.keep ve.kt
  have acp:=ve.kt _ _ Vt
  have acq:=ve _ _ Vu (λ_ y=>nomatch y)
  have m23:=ve _ _ Vv (λ_ y=>nomatch y)
  have afU:=ve.kt _ _ Ui
  have afV:=OJ.keep ve.kt
  have d23:bS VA d:=d16.kx ve
  refine⟨?_,_,_,Li.dat,zh.dat,.inl ⟨_,_,rfl,rfl⟩⟩
  refine⟨_,_,Li.dat,zh.dat,rfl,rfl,RL _ _,_,rfl,?_⟩
  rw[if_pos rfl,Dt.beq_refl]
  refine cN ?_
  show Y _ _
  clear OL Vs Vt Vu Vv Ui OJ d16 Z' Vz rwO k22 aan k62 k23 afT Li ve aam
  subst hY
  refine aW λY hY=>?_
  have fin:∀(H':Hp) (v11 rO mn qD Nf:Option V),KD d VA H'->Y [some (.ref sa),some (.ref d),some (.int (b:Nat)),some (.int (sg.length:Nat)),some (.int (kd:Nat)),some (.ref S),some (.ref M),some (.ref ro),some (.ref fo),some (.ref wo),some (.ref ot),v11,rO,mn,qD,Nf] H':=by
   intro H' v11 rO mn qD Nf kk
   have kt:=kk.kt d23
   subst hY
   refine⟨_,rfl,_,rfl,_,rfl,M,_,rfl,.inl ⟨.of (kk _ _ m23 nM (λ_ y=>nomatch y)),λt ht=>⟨by show 2<=sizeLine;omega,λZ hZ=>?_⟩⟩⟩
   have st:=Same.new (o:=.tup (ps.map V.ref)) ht
   have sZ:=Same.new (o:=.tup [.ref S,.ref t]) hZ
   have ss:=st.trans sZ
   have g1:dG (upd (upd H' t (.tup (ps.map V.ref))) Z (.tup [.ref S,.ref t])) Z sg mv:=⟨S,t,ps,af,ss _ _ (kt _ _ afU),sZ _ _ af,(afV.keep kt).keep ss.kt⟩
   refine⟨_,_,((OM.keep kt).keep ss.kt).dat,g1.dat,rfl,rfl,RL _ _,?_⟩
   rw[if_neg (by decide),Dt.beq_refl]
   exact k _
  refine⟨_,rfl,by decide,by decide,i6 (n:=(6:Int).toNat) (λi σ H'=>∃v11 rO mn qD Nf:Option V,σ=[some (.ref sa),some (.ref d),some (.int (b:Nat)),some (.int (sg.length:Nat)),some (.int (kd:Nat)),some (.ref S),some (.ref M),some (.ref ro),some (.ref fo),some (.ref wo),some (.ref ot),v11,rO,mn,qD,Nf]/\bS H' d/\KD d VA H')
   ⟨none,none,none,none,none,rfl,d23,KD.refl⟩ ?_ (λσ H' ⟨v11,rO,mn,qD,Nf,e,_,kk⟩=>by rw[e];exact fin H' _ _ _ _ _ kk)⟩
  rintro i σ Ha N hN hi ⟨v11,rO,mn,qD,Nf,rfl,da,ka⟩
  dsimp only[aO]
  refine aW λY2 gF=>?_
  refine⟨_,rfl,_,rfl,d,b,rfl,da,hb2,hb4,λx Hb hx kb db=>?_⟩
  have hx2:x<2 ^ 20000:=AZ hx (by
   rw[show(4:Nat)=2 ^ 2 from rfl,<-Nat.pow_mul]
   exact BP (by decide) (by decide))
  have kb3:=ka.trans (KD.kb kb)
  dsimp only[aO]
  subst gF
  refine aW λY2 gF=>?_
  refine⟨_,rfl,_,rfl,b,x,rfl,hb2,by omega,hx2,λD Hc hD sc lD=>?_⟩
  rw[<-gQ hb2 x] at lD
  have hw:=kP hb2 x
  dsimp only[aO]
  subst gF
  refine aW λY2 gF=>?_
  refine⟨_,rfl,_,rfl,_,rfl,_,rfl,D,(ak (dg b x)).map V.int,rfl,rfl,rfl,rfl,.of lD,λR hR=>?_⟩
  have sR:=Same.new (o:=.lst ((ak (dg b x)).map V.int).reverse) hR
  have eR:(upd Hc R (.lst ((ak (dg b x)).map V.int).reverse)) R=some (.lst ((ak (dg b x).reverse).map V.int)):=by rw[af,tX]
  have lD2:=sR _ _ lD
  have VB:KD d VA (upd Hc R (.lst ((ak (dg b x)).map V.int).reverse)):=kb3.trans (KD.same (sc.trans sR))
  have dd:bS (upd Hc R (.lst ((ak (dg b x)).map V.int).reverse)) d:=(db.same sc).same sR
  generalize upd Hc R (.lst ((ak (dg b x)).map V.int).reverse)=Hd at eR lD2 VB dd ⊢
  have Q8:=VB.kt d23
  have afW:=VB _ _ acq nDw (λ_ y=>nomatch y)
  refine⟨b,ro,R,sg,mv,(dg b x).reverse,rfl,OM.keep Q8,aV,n0,.of eR,hw.rev,?_⟩
  have dn:=RU.says hw
  obtain⟨dv,hdv⟩:∃dv,dv=gR sg mv 0 (dg b x).reverse:=⟨_,rfl⟩
  rw[<-hdv] at dn ⊢
  dsimp only[aO]
  subst gF
  refine aW λY2 gF=>?_
  refine⟨_,rfl,_,rfl,_,rfl,b,x,ro,sg,mv,rfl,hb2,hb4,OM.keep Q8,aV,n0,hx2,λHe se=>?_⟩
  rw[<-hdv]
  have lDe:=se _ _ lD2
  have kte:=Q8.trans se.kt
  have afX:=se _ _ afW
  dsimp only[aO]
  subst gF
  refine aW λY2 gF=>?_
  have ii:(!decide (V.int (dv:Nat)=V.int (dv:Nat)))=false:=by simp
  refine⟨_,rfl,V.int _,_,"int",true,rfl,gk.int _,afM,true,rfl,cN ?_⟩
  refine⟨_,rfl,V.int _,_,"bool",false,rfl,gk.int _,afL,false,rfl,cN ?_⟩
  refine⟨_,rfl,_,rfl,rfl,_,rfl,?_⟩
  rw[ii]
  refine cN ?_
  show Y2 _ _
  subst gF
  refine⟨_,rfl,_,rfl,b,fo,D,u0,mv3,dg b x,rfl,zh.keep kte,cn.aV,cn.pos,.of lDe,hw,_,rfl,rfl,_,rfl,?_⟩
  rw[dn,ii]
  refine cN ?_
  refine⟨_,rfl,_,rfl,b,x,wo,Dw,fo,"ROW",u0,mv3,rfl,kte _ _ acp,afX,zh.keep kte,RT,cn.pos,hx2,λHf sf=>⟨_,rfl,rfl,_,rfl,?_⟩⟩
  rw[dn,ii]
  exact cN (hN _ _ ⟨_,_,_,_,_,rfl,(dd.same se).same sf,VB.trans (KD.same (se.trans sf))⟩)
@[elab_as_elim] theorem pG {P:List Value->Prop} (us:List Value) (e:us.length=1) (h:∀a,P [a]):P us:=by
 cases us with
 | nil=>cases e
 | cons a us=>cases us with
  | nil=>exact h a
  | cons _ _=>cases e
@[elab_as_elim] theorem ln2 {P:List Value->Prop} (us:List Value) (e:us.length=2) (h:∀a0 a1,P [a0,a1]):P us:=by
 cases us with
 | nil=>cases e
 | cons a us=>exact pG (P:=λz=>P (a::z)) us (EA e) (h a)
@[elab_as_elim] theorem n8 {P:List Value->Prop} (us:List Value) (e:us.length=3) (h:∀a0 a1 a2,P [a0,a1,a2]):P us:=by
 cases us with
 | nil=>cases e
 | cons a us=>exact ln2 (P:=λz=>P (a::z)) us (EA e) (h a)
@[elab_as_elim] theorem VC {P:List Value->Prop} (us:List Value) (e:us.length=4) (h:∀a0 a1 a2 a3,P [a0,a1,a2,a3]):P us:=by
 cases us with
 | nil=>cases e
 | cons a us=>exact n8 (P:=λz=>P (a::z)) us (EA e) (h a)
@[elab_as_elim] theorem ln5 {P:List Value->Prop} (us:List Value) (e:us.length=5) (h:∀a0 a1 a2 a3 a4,P [a0,a1,a2,a3,a4]):P us:=by
 cases us with
 | nil=>cases e
 | cons a us=>exact VC (P:=λz=>P (a::z)) us (EA e) (h a)
@[elab_as_elim] theorem ln6 {P:List Value->Prop} (us:List Value) (e:us.length=6) (h:∀a0 a1 a2 a3 a4 a5,P [a0,a1,a2,a3,a4,a5]):P us:=by
 cases us with
 | nil=>cases e
 | cons a us=>exact ln5 (P:=λz=>P (a::z)) us (EA e) (h a)
theorem all_mk{l:Hk}{w:World}{K:AD}{h:Heap}{mg:Str->Option Value}{fa:Addr}(X:K.In h)(G:h.Ns AX mg)(hfa:mg "law"=some (.ref fa))
  {f0:Addr} {od0 an0:Option Addr} {sl0:Array (Option Value)} {oc0 kV0 dc0 pm0 ct0:Value} {cd0:Value}
  {f1:Addr} {od1 an1:Option Addr} {sl1:Array (Option Value)} {oc1 kV1 dc1 pm1 ct1:Value} {cd1:Value}
  {f2:Addr} {od2 an2:Option Addr} {sl2:Array (Option Value)} {oc2 kV2 dc2 xJ ct2:Value} {cd2:Value}
  {f3:Addr} {od3 an3:Option Addr} {sl3:Array (Option Value)} {oc3 kV3 dc3 pm3 ct3:Value} {cd3:Value}
  {f4:Addr} {od4 an4:Option Addr} {sl4:Array (Option Value)} {oc4 kV4 dc4 pm4 ct4:Value} {cd4:Value}
  {f5:Addr} {od5 an5:Option Addr} {sl5:Array (Option Value)} {oc5 kV5 dc5 pm5 ct5:Value} {cd5:Value}
  {f6:Addr} {od6 an6:Option Addr} {sl6:Array (Option Value)} {oc6 kV6 dc6 pm6 ct6:Value} {cd6:Value}
  {f7:Addr} {od7 an7:Option Addr} {sl7:Array (Option Value)} {oc7 kV7 dc7 pm7 ct7:Value} {R0:Addr}
  {Ng dn7:Nat} {afY:Value} {afZ:Option Addr} {aaw:Tok} {af_:Array (Option Value)}
  {f8:Addr} {od8 an8:Option Addr} {sl8:Array (Option Value)} {oc8 kV8 dc8 pm8 ct8:Value} {cd8:Value}
  {f9:Addr} {od9 an9:Option Addr} {sl9:Array (Option Value)} {oc9 kV9 dc9 pm9 ct9:Value} {cd9:Value}
  {VD:Addr} {af0 aax:Option Addr} {af1:Array (Option Value)} {af2 aay aaz aaA aaB:Value} {wH:Addr}
  {ky:Addr} {acr:Option Addr} {pj:Array Value} {acs:Array (Option Value)}
  {f11:Addr} {af3 aaC:Option Addr} {af4:Array (Option Value)} {af5 aaD aaE aaF aaG:Value} {wI:Addr}
  {kz:Addr} {acu:Option Addr} {px:Array Value} {acv:Array (Option Value)}
  {VE:Addr} {af6 af7:Option Addr} {af8:Array (Option Value)} {af9 af' aga agb agc:Value} {aaH:Value}
  {VF:Addr} {agd age:Option Addr} {agf:Array (Option Value)} {agg agh agi agj agk:Value} {aaI:Value}
  {VG:Addr} {agl agm:Option Addr} {agn:Array (Option Value)} {ago agp agq agr ags:Value} {aaJ:Value}
  {VH:Addr} {agt agu:Option Addr} {agv:Array (Option Value)} {agw agx agy agz agA:Value} {aaK:Value}
  {VI:Addr} {agB agC:Option Addr} {agD:Array (Option Value)} {agE agF agG agH agI:Value} {aaL:Value}
  {VJ:Addr} {agJ agK:Option Addr} {agL:Array (Option Value)} {agM agN agO agP agQ:Value} {aaM:Value}
  {VL:Addr} {agR agS:Option Addr} {agT:Array (Option Value)} {agU agV agW agX agY:Value} {aaN:Value}
  {VM:Addr} {agZ ag_:Option Addr} {ag0:Array (Option Value)} {ag1 ag2 ag3 ag4 ag5:Value} {aaO:Value}
  {VN:Addr} {ag6 ag7:Option Addr} {ag8:Array (Option Value)} {ag9 ag' aha ahb ahc:Value} {aaP:Value}
  {VO:Addr} {ahd ahe:Option Addr} {ahf:Array (Option Value)} {ahg ahh ahi ahj ahk:Value} {aaQ:Value}
  {VP:Addr} {ahl ahm:Option Addr} {ahn:Array (Option Value)} {aho ahp ahq ahr ahs:Value} {aaR:Value}
  {VQ:Addr} {aht ahu:Option Addr} {ahv:Array (Option Value)} {ahw ahx ahy ahz ahA:Value} {aaS:Value}
  {VR:Addr} {ahB aaT:Option Addr} {ahC:Array (Option Value)} {ahD aaU aaV aaW aaX:Value} {wJ:Addr}
  {kB:Addr} {acw:Option Addr} {pz:Array Value} {acx:Array (Option Value)}
  {VS:Addr} {ahE aaY:Option Addr} {ahF:Array (Option Value)} {ahG aaZ aa_ aa0 aa1:Value} {wK:Addr}
  {kC:Addr} {acy:Option Addr} {pA:Array Value} {acz:Array (Option Value)}
  {VT:Addr} {ahH ahI:Option Addr} {ahJ:Array (Option Value)} {ahK ahL ahM ahN ahO:Value} {aa2:Value}
  {VU:Addr} {ahP ahQ:Option Addr} {ahR:Array (Option Value)} {ahS ahT ahU ahV ahW:Value} {aa3:Value}
  {VW:Addr} {ahX aa4:Option Addr} {ahY:Array (Option Value)} {ahZ aa5 aa6 aa7 aa8:Value} {wL:Addr}
  {kD:Addr} {acA:Option Addr} {pB:Array Value} {acB:Array (Option Value)}
  {VX:Addr} {ah_ aa9:Option Addr} {ah0:Array (Option Value)} {ah1 aa' abb abd abe:Value} {wM:Addr}
  {kE:Addr} {acC:Option Addr} {pC:Array Value} {acD:Array (Option Value)}
  {VY:Addr} {ah2 ah3:Option Addr} {ah4:Array (Option Value)} {ah5 ah6 ah7 ah8 ah9:Value} {abf:Value}
  {VZ:Addr} {ah' Uk:Option Addr} {aia:Array (Option Value)} {aib Ul Um Uo Up:Value} {Lo:Addr}
  {wN aic:Nat} {acE:Value} {acF:Option Addr} {V_:Tok} {acG:Array (Option Value)}
  {f32:Addr} {aid aie:Option Addr} {aif:Array (Option Value)} {aih aii aij aik ail:Value} {abg:Value}
  {V0:Addr} {aim ain:Option Addr} {aio:Array (Option Value)} {aip aiq air ais ait:Value} {abh:Value}
  {V1:Addr} {aiu aiv:Option Addr} {aiw:Array (Option Value)} {aix aiy aiz aiA aiB:Value} {abi:Value}
  {V2:Addr} {aiC aiD:Option Addr} {aiE:Array (Option Value)} {aiF aiG aiH aiI aiJ:Value} {abj:Value}
  {V3:Addr} {aiK aiL:Option Addr} {aiM:Array (Option Value)} {aiN aiO aiP aiQ aiR:Value} {abk:Value}
  {V4:Addr} {aiS aiT:Option Addr} {aiU:Array (Option Value)} {aiV aiW aiX aiY aiZ:Value} {abl:Value}
  {V5:Addr} {ai_ ai0:Option Addr} {ai1:Array (Option Value)} {ai2 ai3 ai4 ai5 ai6:Value} {abm:Value}
  {V6:Addr} {ai7 ai8:Option Addr} {ai9:Array (Option Value)} {ai' aja ajb ajc ajd:Value} {abn:Value}
  {V7:Addr} {aje ajf:Option Addr} {ajg:Array (Option Value)} {ajh aji ajj ajk ajl:Value} {abo:Value}
  {f41:Addr} {ajm abq:Option Addr} {ajn:Array (Option Value)} {ajo abr abt abu abv:Value} {Uq:Value}
  {gt0:Tok}
  (a0:AS K AX "figures_of"=some (some (.ref f0))) (l0:K.lookup f0=some ⟨oc0,od0,.func (Aa "figures_of" "figures_of" (aF fC) (aE fC) (ah fC) .none kV0 dc0 pm0 an0 cd0 ct0),sl0⟩) (c0:Ab K cd0 "figures_of"=true) (k0:AL K (.ref f0)=true)
  (a1:AS K AX "all_letters"=some (some (.ref f1))) (l1:K.lookup f1=some ⟨oc1,od1,.func (Aa "all_letters" "all_letters" (aF dq) (aE dq) (ah dq) .none kV1 dc1 pm1 an1 cd1 ct1),sl1⟩) (c1:Ab K cd1 "all_letters"=true) (k1:AL K (.ref f1)=true)
  (a2:AS K AX "are_rooms"=some (some (.ref f2))) (l2:K.lookup f2=some ⟨oc2,od2,.func (Aa "are_rooms" "are_rooms" (aF fi) (aE fi) (ah fi) .none kV2 dc2 xJ an2 cd2 ct2),sl2⟩) (c2:Ab K cd2 "are_rooms"=true) (k2:AL K (.ref f2)=true)
  (a3:AS K AX "is_right"=some (some (.ref f3))) (l3:K.lookup f3=some ⟨oc3,od3,.func (Aa "is_right" "is_right" (aF gL) (aE gL) (ah gL) .none kV3 dc3 pm3 an3 cd3 ct3),sl3⟩) (c3:Ab K cd3 "is_right"=true) (k3:AL K (.ref f3)=true)
  (a4:AS K AX "look_world"=some (some (.ref f4))) (l4:K.lookup f4=some ⟨oc4,od4,.func (Aa "look_world" "look_world" (aF fD) (aE fD) (ah fD) .none kV4 dc4 pm4 an4 cd4 ct4),sl4⟩) (c4:Ab K cd4 "look_world"=true) (k4:AL K (.ref f4)=true)
  (a5:AS K AX "room_after"=some (some (.ref f5))) (l5:K.lookup f5=some ⟨oc5,od5,.func (Aa "room_after" "room_after" (aF fE) (aE fE) (ah fE) .none kV5 dc5 pm5 an5 cd5 ct5),sl5⟩) (c5:Ab K cd5 "room_after"=true) (k5:AL K (.ref f5)=true)
  (a6:AS K AX "sign_at"=some (some (.ref f6))) (l6:K.lookup f6=some ⟨oc6,od6,.func (Aa "sign_at" "sign_at" (aF iS) (aE iS) (ah iS) .none kV6 dc6 pm6 an6 cd6 ct6),sl6⟩) (c6:Ab K cd6 "sign_at"=true) (k6:AL K (.ref f6)=true)
  (a7:AS K AX "grown_from"=some (some (.ref f7))) (l7:K.lookup f7=some ⟨oc7,od7,.func (Aa "grown_from" "grown_from" (aF bJ) (aE bJ) (ah bJ) (.ref Ng) kV7 dc7 pm7 an7 (.ref R0) ct7),sl7⟩) (c7:Ab K (.ref R0) "grown_from"=true) (k7:AL K (.ref f7)=true)
  (ld7:K.lookup Ng=some ⟨afY,afZ,.seq #[(.int 2000 aaw)] dn7,af_⟩)
  (a8:AS K AX "machine_of"=some (some (.ref f8))) (l8:K.lookup f8=some ⟨oc8,od8,.func (Aa "machine_of" "machine_of" (aF fF) (aE fF) (ah fF) .none kV8 dc8 pm8 an8 cd8 ct8),sl8⟩) (c8:Ab K cd8 "machine_of"=true) (k8:AL K (.ref f8)=true)
  (a9:AS K AX "sign_down"=some (some (.ref f9))) (l9:K.lookup f9=some ⟨oc9,od9,.func (Aa "sign_down" "sign_down" (aF f_) (aE f_) (ah f_) .none kV9 dc9 pm9 an9 cd9 ct9),sl9⟩) (c9:Ab K cd9 "sign_down"=true) (k9:AL K (.ref f9)=true)
  (a10:AS K AX "rooms_met"=some (some (.ref VD))) (l10:K.lookup VD=some ⟨af2,af0,.func (Aa "rooms_met" "rooms_met" (aF cY) (aE cY) (ah cY) .none aay aaz aaA aax (.ref wH) aaB),af1⟩) (c10:Ab K (.ref wH) "rooms_met"=true) (k10:AL K (.ref VD)=true)
  (lc10:K.lookup wH=some ⟨.type "code",acr,.fields pj,acs⟩) (lv10:pj[11]? =some (.ref ky))
  (le10:((match (pj[11]? :Option Value) with | some (.ref P')=>P' == ky | _=>false)&&(match pj.getD 18 .none with | .str _ _=>true | _=>false)&&(match pj.getD 7 .none with | .int _ _=>true | _=>false)&&(match pj.getD 9 .none with | .bool _=>true | _=>false)&&(match pj.getD 10 .none with | .int _ _=>true | _=>false)&&wH != ky)=true)
  (lz10:K.lookup ky=none) (lt10:h.get? ky=some (B1 #[]))
  (a11:AS K AX "row_of"=some (some (.ref f11))) (l11:K.lookup f11=some ⟨af5,af3,.func (Aa "row_of" "row_of" (aF dU) (aE dU) (ah dU) .none aaD aaE aaF aaC (.ref wI) aaG),af4⟩) (c11:Ab K (.ref wI) "row_of"=true) (k11:AL K (.ref f11)=true)
  (lc11:K.lookup wI=some ⟨.type "code",acu,.fields px,acv⟩) (lv11:px[11]? =some (.ref kz))
  (le11:((match (px[11]? :Option Value) with | some (.ref P')=>P' == kz | _=>false)&&(match px.getD 18 .none with | .str _ _=>true | _=>false)&&(match px.getD 7 .none with | .int _ _=>true | _=>false)&&(match px.getD 9 .none with | .bool _=>true | _=>false)&&(match px.getD 10 .none with | .int _ _=>true | _=>false)&&wI != kz)=true)
  (lz11:K.lookup kz=none) (lt11:h.get? kz=some (B1 #[]))
  (a12:AS K AX "inner_parts"=some (some (.ref VE))) (l12:K.lookup VE=some ⟨af9,af6,.func (Aa "inner_parts" "inner_parts" (aF dr) (aE dr) (ah dr) .none af' aga agb af7 aaH agc),af8⟩) (c12:Ab K aaH "inner_parts"=true) (k12:AL K (.ref VE)=true)
  (a13:AS K AX "term_names"=some (some (.ref VF))) (l13:K.lookup VF=some ⟨agg,agd,.func (Aa "term_names" "term_names" (aF dW) (aE dW) (ah dW) .none agh agi agj age aaI agk),agf⟩) (c13:Ab K aaI "term_names"=true) (k13:AL K (.ref VF)=true)
  (a14:AS K AX "parts_in_order"=some (some (.ref VG))) (l14:K.lookup VG=some ⟨ago,agl,.func (Aa "parts_in_order" "parts_in_order" (aF cP) (aE cP) (ah cP) .none agp agq agr agm aaJ ags),agn⟩) (c14:Ab K aaJ "parts_in_order"=true) (k14:AL K (.ref VG)=true)
  (a15:AS K AX "told_of_parts"=some (some (.ref VH))) (l15:K.lookup VH=some ⟨agw,agt,.func (Aa "told_of_parts" "told_of_parts" (aF cF) (aE cF) (ah cF) .none agx agy agz agu aaK agA),agv⟩) (c15:Ab K aaK "told_of_parts"=true) (k15:AL K (.ref VH)=true)
  (a16:AS K AX "names_over"=some (some (.ref VI))) (l16:K.lookup VI=some ⟨agE,agB,.func (Aa "names_over" "names_over" (aF dX) (aE dX) (ah dX) .none agF agG agH agC aaL agI),agD⟩) (c16:Ab K aaL "names_over"=true) (k16:AL K (.ref VI)=true)
  (a17:AS K AX "names_by_place"=some (some (.ref VJ))) (l17:K.lookup VJ=some ⟨agM,agJ,.func (Aa "names_by_place" "names_by_place" (aF cQ) (aE cQ) (ah cQ) .none agN agO agP agK aaM agQ),agL⟩) (c17:Ab K aaM "names_by_place"=true) (k17:AL K (.ref VJ)=true)
  (a18:AS K AX "free_names"=some (some (.ref VL))) (l18:K.lookup VL=some ⟨agU,agR,.func (Aa "free_names" "free_names" (aF fG) (aE fG) (ah fG) .none agV agW agX agS aaN agY),agT⟩) (c18:Ab K aaN "free_names"=true) (k18:AL K (.ref VL)=true)
  (a19:AS K AX "times_of"=some (some (.ref VM))) (l19:K.lookup VM=some ⟨ag1,agZ,.func (Aa "times_of" "times_of" (aF fQ) (aE fQ) (ah fQ) .none ag2 ag3 ag4 ag_ aaO ag5),ag0⟩) (c19:Ab K aaO "times_of"=true) (k19:AL K (.ref VM)=true)
  (a20:AS K AX "sum_of"=some (some (.ref VN))) (l20:K.lookup VN=some ⟨ag9,ag6,.func (Aa "sum_of" "sum_of" (aF iH) (aE iH) (ah iH) .none ag' aha ahb ag7 aaP ahc),ag8⟩) (c20:Ab K aaP "sum_of"=true) (k20:AL K (.ref VN)=true)
  (a21:AS K AX "letter_sums"=some (some (.ref VO))) (l21:K.lookup VO=some ⟨ahg,ahd,.func (Aa "letter_sums" "letter_sums" (aF du) (aE du) (ah du) .none ahh ahi ahj ahe aaQ ahk),ahf⟩) (c21:Ab K aaQ "letter_sums"=true) (k21:AL K (.ref VO)=true)
  (a22:AS K AX "differences"=some (some (.ref VP))) (l22:K.lookup VP=some ⟨aho,ahl,.func (Aa "differences" "differences" (aF fS) (aE fS) (ah fS) .none ahp ahq ahr ahm aaR ahs),ahn⟩) (c22:Ab K aaR "differences"=true) (k22:AL K (.ref VP)=true)
  (a23:AS K AX "same_onward"=some (some (.ref VQ))) (l23:K.lookup VQ=some ⟨ahw,aht,.func (Aa "same_onward" "same_onward" (aF fU) (aE fU) (ah fU) .none ahx ahy ahz ahu aaS ahA),ahv⟩) (c23:Ab K aaS "same_onward"=true) (k23:AL K (.ref VQ)=true)
  (a24:AS K AX "same_growth"=some (some (.ref VR))) (l24:K.lookup VR=some ⟨ahD,ahB,.func (Aa "same_growth" "same_growth" (aF cq) (aE cq) (ah cq) .none aaU aaV aaW aaT (.ref wJ) aaX),ahC⟩) (c24:Ab K (.ref wJ) "same_growth"=true) (k24:AL K (.ref VR)=true)
  (lc24:K.lookup wJ=some ⟨.type "code",acw,.fields pz,acx⟩) (lv24:pz[11]? =some (.ref kB))
  (le24:((match (pz[11]? :Option Value) with | some (.ref P')=>P' == kB | _=>false)&&(match pz.getD 18 .none with | .str _ _=>true | _=>false)&&(match pz.getD 7 .none with | .int _ _=>true | _=>false)&&(match pz.getD 9 .none with | .bool _=>true | _=>false)&&(match pz.getD 10 .none with | .int _ _=>true | _=>false)&&wJ != kB)=true)
  (lz24:K.lookup kB=none) (lt24:h.get? kB=some (B1 #[]))
  (a25:AS K AX "less_growth"=some (some (.ref VS))) (l25:K.lookup VS=some ⟨ahG,ahE,.func (Aa "less_growth" "less_growth" (aF cu) (aE cu) (ah cu) .none aaZ aa_ aa0 aaY (.ref wK) aa1),ahF⟩) (c25:Ab K (.ref wK) "less_growth"=true) (k25:AL K (.ref VS)=true)
  (lc25:K.lookup wK=some ⟨.type "code",acy,.fields pA,acz⟩) (lv25:pA[11]? =some (.ref kC))
  (le25:((match (pA[11]? :Option Value) with | some (.ref P')=>P' == kC | _=>false)&&(match pA.getD 18 .none with | .str _ _=>true | _=>false)&&(match pA.getD 7 .none with | .int _ _=>true | _=>false)&&(match pA.getD 9 .none with | .bool _=>true | _=>false)&&(match pA.getD 10 .none with | .int _ _=>true | _=>false)&&wK != kC)=true)
  (lz25:K.lookup kC=none) (lt25:h.get? kC=some (B1 #[]))
  (a26:AS K AX "row_onward"=some (some (.ref VT))) (l26:K.lookup VT=some ⟨ahK,ahH,.func (Aa "row_onward" "row_onward" (aF fH) (aE fH) (ah fH) .none ahL ahM ahN ahI aa2 ahO),ahJ⟩) (c26:Ab K aa2 "row_onward"=true) (k26:AL K (.ref VT)=true)
  (a27:AS K AX "sign_from"=some (some (.ref VU))) (l27:K.lookup VU=some ⟨ahS,ahP,.func (Aa "sign_from" "sign_from" (aF f') (aE f') (ah f') .none ahT ahU ahV ahQ aa3 ahW),ahR⟩) (c27:Ab K aa3 "sign_from"=true) (k27:AL K (.ref VU)=true)
  (a28:AS K AX "sign_growth"=some (some (.ref VW))) (l28:K.lookup VW=some ⟨ahZ,ahX,.func (Aa "sign_growth" "sign_growth" (aF bw) (aE bw) (ah bw) .none aa5 aa6 aa7 aa4 (.ref wL) aa8),ahY⟩) (c28:Ab K (.ref wL) "sign_growth"=true) (k28:AL K (.ref VW)=true)
  (lc28:K.lookup wL=some ⟨.type "code",acA,.fields pB,acB⟩) (lv28:pB[11]? =some (.ref kD))
  (le28:((match (pB[11]? :Option Value) with | some (.ref P')=>P' == kD | _=>false)&&(match pB.getD 18 .none with | .str _ _=>true | _=>false)&&(match pB.getD 7 .none with | .int _ _=>true | _=>false)&&(match pB.getD 9 .none with | .bool _=>true | _=>false)&&(match pB.getD 10 .none with | .int _ _=>true | _=>false)&&wL != kD)=true)
  (lz28:K.lookup kD=none) (lt28:h.get? kD=some (B1 #[]))
  (a29:AS K AX "alike_growth"=some (some (.ref VX))) (l29:K.lookup VX=some ⟨ah1,ah_,.func (Aa "alike_growth" "alike_growth" (aF bX) (aE bX) (ah bX) .none aa' abb abd aa9 (.ref wM) abe),ah0⟩) (c29:Ab K (.ref wM) "alike_growth"=true) (k29:AL K (.ref VX)=true)
  (lc29:K.lookup wM=some ⟨.type "code",acC,.fields pC,acD⟩) (lv29:pC[11]? =some (.ref kE))
  (le29:((match (pC[11]? :Option Value) with | some (.ref P')=>P' == kE | _=>false)&&(match pC.getD 18 .none with | .str _ _=>true | _=>false)&&(match pC.getD 7 .none with | .int _ _=>true | _=>false)&&(match pC.getD 9 .none with | .bool _=>true | _=>false)&&(match pC.getD 10 .none with | .int _ _=>true | _=>false)&&wM != kE)=true)
  (lz29:K.lookup kE=none) (lt29:h.get? kE=some (B1 #[]))
  (a30:AS K AX "atom_growth"=some (some (.ref VY))) (l30:K.lookup VY=some ⟨ah5,ah2,.func (Aa "atom_growth" "atom_growth" (aF eB) (aE eB) (ah eB) .none ah6 ah7 ah8 ah3 abf ah9),ah4⟩) (c30:Ab K abf "atom_growth"=true) (k30:AL K (.ref VY)=true)
  (a31:AS K AX "atom_of"=some (some (.ref VZ))) (l31:K.lookup VZ=some ⟨aib,ah',.func (Aa "atom_of" "atom_of" (aF cH) (aE cH) (ah cH) (.ref wN) Ul Um Uo Uk (.ref Lo) Up),aia⟩) (c31:Ab K (.ref Lo) "atom_of"=true) (k31:AL K (.ref VZ)=true)
  (ld31:K.lookup wN=some ⟨acE,acF,.seq #[(.int 2000 V_)] aic,acG⟩)
  (a32:AS K AX "_law_mixed"=some (some (.ref f32))) (l32:K.lookup f32=some ⟨aih,aid,.func (Aa "_law_mixed" "_law_mixed" (aF iT) (aE iT) (ah iT) .none aii aij aik aie abg ail),aif⟩) (c32:Ab K abg "_law_mixed"=true) (k32:AL K (.ref f32)=true)
  (a33:AS K AX "_law_deck"=some (some (.ref V0))) (l33:K.lookup V0=some ⟨aip,aim,.func (Aa "_law_deck" "_law_deck" (aF iI) (aE iI) (ah iI) .none aiq air ais ain abh ait),aio⟩) (c33:Ab K abh "_law_deck"=true) (k33:AL K (.ref V0)=true)
  (a34:AS K AX "_law_next"=some (some (.ref V1))) (l34:K.lookup V1=some ⟨aix,aiu,.func (Aa "_law_next" "_law_next" (aF ju) (aE ju) (ah ju) .none aiy aiz aiA aiv abi aiB),aiw⟩) (c34:Ab K abi "_law_next"=true) (k34:AL K (.ref V1)=true)
  (a35:AS K AX "_law_base"=some (some (.ref V2))) (l35:K.lookup V2=some ⟨aiF,aiC,.func (Aa "_law_base" "_law_base" (aF jv) (aE jv) (ah jv) .none aiG aiH aiI aiD abj aiJ),aiE⟩) (c35:Ab K abj "_law_base"=true) (k35:AL K (.ref V2)=true)
  (a36:AS K AX "_law_number"=some (some (.ref V3))) (l36:K.lookup V3=some ⟨aiN,aiK,.func (Aa "_law_number" "_law_number" (aF gM) (aE gM) (ah gM) .none aiO aiP aiQ aiL abk aiR),aiM⟩) (c36:Ab K abk "_law_number"=true) (k36:AL K (.ref V3)=true)
  (a37:AS K AX "_law_least"=some (some (.ref V4))) (l37:K.lookup V4=some ⟨aiV,aiS,.func (Aa "_law_least" "_law_least" (aF fM) (aE fM) (ah fM) .none aiW aiX aiY aiT abl aiZ),aiU⟩) (c37:Ab K abl "_law_least"=true) (k37:AL K (.ref V4)=true)
  (a38:AS K AX "_law_sign"=some (some (.ref V5))) (l38:K.lookup V5=some ⟨ai2,ai_,.func (Aa "_law_sign" "_law_sign" (aF jw) (aE jw) (ah jw) .none ai3 ai4 ai5 ai0 abm ai6),ai1⟩) (c38:Ab K abm "_law_sign"=true) (k38:AL K (.ref V5)=true)
  (a39:AS K AX "_law_figures"=some (some (.ref V6))) (l39:K.lookup V6=some ⟨ai',ai7,.func (Aa "_law_figures" "_law_figures" (aF gb) (aE gb) (ah gb) .none aja ajb ajc ai8 abn ajd),ai9⟩) (c39:Ab K abn "_law_figures"=true) (k39:AL K (.ref V6)=true)
  (a40:AS K AX "_law_sums_right"=some (some (.ref V7))) (l40:K.lookup V7=some ⟨ajh,aje,.func (Aa "_law_sums_right" "_law_sums_right" (aF dM) (aE dM) (ah dM) .none aji ajj ajk ajf abo ajl),ajg⟩) (c40:Ab K abo "_law_sums_right"=true) (k40:AL K (.ref V7)=true)
  (a41:AS K AX "law"=some (some (.ref f41))) (l41:K.lookup f41=some ⟨ajo,ajm,.func (Aa "law" "law" (aF i8) (aE i8) (ah i8) .none abr abt abu abq Uq abv),ajn⟩) (c41:Ab K Uq "law"=true) (k41:AL K (.ref f41)=true)
  (z0:AS K AX "ValueError"=some none)
  (z1:AS K AX "range"=some none)
  (z2:AS K AX "all"=some none)
  (z3:AS K AX "enumerate"=some none)
  (z4:AS K AX "sorted"=some none)
  (z5:AS K AX "tuple"=some none)
  (z6:AS K AX "len"=some none)
  (z7:AS K AX "list"=some none)
  (z8:AS K AX "dict"=some none)
  (z9:AS K AX "sum"=some none)
  (z10:AS K AX "int"=some none)
  (z11:AS K AX "reversed"=some none)
  (z12:AS K AX "bool"=some none)
  (z13:AS K AX "set"=some none)
  (z14:AS K AX "zip"=some none)
  (z15:AS K AX "abs"=some none)
  (z16:AS K AX "isinstance"=some none)
  (gg0:AS K AX "FAR_BEYOND"=some (some (.int 1000000 gt0)))
  (tne01:ky≠kz)
  (tne02:ky≠kB)
  (tne03:ky≠kC)
  (tne04:ky≠kD)
  (tne05:ky≠kE)
  (tne12:kz≠kB)
  (tne13:kz≠kC)
  (tne14:kz≠kD)
  (tne15:kz≠kE)
  (tne23:kB≠kC)
  (tne24:kB≠kD)
  (tne25:kB≠kE)
  (tne34:kC≠kD)
  (tne35:kC≠kE)
  (tne45:kD≠kE)
  {pd:Addr} {pes:Array DictEntry} {pn:Nat}
  {OO:Addr} {acH:Nat} {abx:_}
  {OP:Addr} {acI:Nat} {aby:_} {abz:_}
  {OQ:Addr} {acJ:Nat} {abA:_} {abB:_}
  {OS:Addr} {acK:Nat} {abC:_}
  {OT:Addr} {acL:Nat} {abD:_}
  (p_a:AS K AX "PART_SPOTS"=some (some (.ref pd))) (p_l:K.lookup pd=some ⟨.type "dict",none,.dict pes pn, #[]⟩) (p_k:HZ w.params pes.toList) (p_s:(pd == CS)=false)
  (pq_no:AS K pd "not"=some (some (.ref OO))) (pr_no:K.lookup OO=some ⟨.type "tuple",none,.seq #[.int 1 abx] acH, #[]⟩)
  (pq_an:AS K pd "and"=some (some (.ref OP))) (pr_an:K.lookup OP=some ⟨.type "tuple",none,.seq #[.int 1 aby,.int 2 abz] acI, #[]⟩)
  (pq_or:AS K pd "or"=some (some (.ref OQ))) (pr_or:K.lookup OQ=some ⟨.type "tuple",none,.seq #[.int 1 abA,.int 2 abB] acJ, #[]⟩)
  (pq_so:AS K pd "some"=some (some (.ref OS))) (pr_so:K.lookup OS=some ⟨.type "tuple",none,.seq #[.int 2 abC] acK, #[]⟩)
  (pq_ea:AS K pd "each"=some (some (.ref OT))) (pr_ea:K.lookup OT=some ⟨.type "tuple",none,.seq #[.int 2 abD] acL, #[]⟩)
  (pq_same:AS K pd "same"=some none)
  (pq_less:AS K pd "less"=some none)
  (pq_sign:AS K pd "sign"=some none)
  (pq_alike:AS K pd "alike"=some none)
  {sd:Addr} {ses:Array DictEntry} {sn:Nat}
  {OU:Addr} {acM:Nat} {abF:_} {abG:_}
  {OV:Addr} {acN:Nat} {abH:_} {abI:_}
  {OW:Addr} {acO:Nat} {abJ:_}
  {OX:Addr} {acP:Nat} {abK:_} {abL:_}
  (s_a:AS K AX "TERM_SPOTS"=some (some (.ref sd))) (s_l:K.lookup sd=some ⟨.type "dict",none,.dict ses sn, #[]⟩) (s_k:HZ w.params ses.toList) (s_s:(sd == CS)=false)
  (sq_sa:AS K sd "same"=some (some (.ref OU))) (sr_sa:K.lookup OU=some ⟨.type "tuple",none,.seq #[.int 1 abF,.int 2 abG] acM, #[]⟩)
  (sq_le:AS K sd "less"=some (some (.ref OV))) (sr_le:K.lookup OV=some ⟨.type "tuple",none,.seq #[.int 1 abH,.int 2 abI] acN, #[]⟩)
  (sq_si:AS K sd "sign"=some (some (.ref OW))) (sr_si:K.lookup OW=some ⟨.type "tuple",none,.seq #[.int 2 abJ] acO, #[]⟩)
  (sq_al:AS K sd "alike"=some (some (.ref OX))) (sr_al:K.lookup OX=some ⟨.type "tuple",none,.seq #[.int 2 abK,.int 4 abL] acP, #[]⟩)
  (sq_not:AS K sd "not"=some none)
  (sq_and:AS K sd "and"=some none)
  (sq_or:AS K sd "or"=some none)
  (sq_some:AS K sd "some"=some none)
  (sq_each:AS K sd "each"=some none)
  :∃(fd:Ay) (ts:List Addr),(∀T∈ts,(∃c,E3 h c T)/\h.get? T=some (B1 #[])/\K.lookup T=none)/\(∀(s:AH) (v:Value),JG s fd ⟨[v],[]⟩ [("_law_script",v)])/\∀base:Heap,K.In base->base.Ns AX mg->fP mg base->aR l.prog w K mg base bh 8 fa fd ["_law_script"] (zf K ts):=by
 have e:=hfa.symm.trans (Ah X G a41)
 cases e
 have F0:=bp (st:=fC) l0 c0 k0
 have b0:=F0.binds (ps:=["base","number"]) λ_ _ _ _ _ _ us hl=>ln2 us hl λ_ _=>rfl
 have F1:=bp (st:=dq) l1 c1 k1
 have b1:=F1.binds (ps:=["base","many"]) λ_ _ _ _ _ _ us hl=>ln2 us hl λ_ _=>rfl
 have F2:=bp (st:=fi) l2 c2 k2
 have b2:=F2.binds (ps:=["leads","many"]) λ_ _ _ _ _ _ us hl=>ln2 us hl λ_ _=>rfl
 have F3:=bp (st:=gL) l3 c3 k3
 have b3:=F3.binds (ps:=["base","row"]) λ_ _ _ _ _ _ us hl=>ln2 us hl λ_ _=>rfl
 have F4:=bp (st:=fD) l4 c4 k4
 have b4:=F4.binds (ps:=["world"]) λ_ _ _ _ _ _ us hl=>pG us hl λ_=>rfl
 have F5:=bp (st:=fE) l5 c5 k5
 have b5:=F5.binds (ps:=["moves","room","figures"]) λ_ _ _ _ _ _ us hl=>n8 us hl λ_ _ _=>rfl
 have F6:=bp (st:=iS) l6 c6 k6
 have b6:=F6.binds (ps:=["world","name","number"]) λ_ _ _ _ _ _ us hl=>n8 us hl λ_ _ _=>rfl
 have F7:=iP (st:=bJ) l7 c7 k7
 have b7:Binds K (Aa "grown_from" "grown_from" (aF bJ) (aE bJ) (ah bJ) (.ref Ng) kV7 dc7 pm7 an7 (.ref R0) ct7) ["first","many","onward","is_yes","most"] []:=λs us hK hl=>ln5 us (by rw[Bg] at hl;exact hl) λ_ _ _ _ _=>EL (T:=Ng) rfl (hK _ _ ld7) rfl rfl rfl
 have d7:∃t,Binds K (Aa "grown_from" "grown_from" (aF bJ) (aE bJ) (ah bJ) (.ref Ng) kV7 dc7 pm7 an7 (.ref R0) ct7) ["first","many","onward","is_yes","most"] [.int 2000 t]:=⟨aaw,λs us hK hl=>have h3:us.length=4:=(by simpa using hl);VC us h3 λ_ _ _ _=>EL (T:=Ng) rfl (hK _ _ ld7) rfl rfl rfl⟩
 have F8:=bp (st:=fF) l8 c8 k8
 have b8:=F8.binds (ps:=["base","names","growth","most"]) λ_ _ _ _ _ _ us hl=>VC us hl λ_ _ _ _=>rfl
 have F9:=bp (st:=f_) l9 c9 k9
 have b9:=F9.binds (ps:=["base","row","number"]) λ_ _ _ _ _ _ us hl=>n8 us hl λ_ _ _=>rfl
 have F10:=iP (st:=cY) l10 c10 k10
 have rg:=iQ lc10 le10
 have b10:Binds K (Aa "rooms_met" "rooms_met" (aF cY) (aE cY) (ah cY) .none aay aaz aaA aax (.ref wH) aaB) ["base","row"] []:=.all λus hl=>ln2 us hl λ_ _=>rfl
 have F11:=iP (st:=dU) l11 c11 k11
 have zL:=iQ lc11 le11
 have b11:Binds K (Aa "row_of" "row_of" (aF dU) (aE dU) (ah dU) .none aaD aaE aaF aaC (.ref wI) aaG) ["base","row"] []:=.all λus hl=>ln2 us hl λ_ _=>rfl
 have F12:=bp (st:=dr) l12 c12 k12
 have b12:=F12.binds (ps:=["saying"]) λ_ _ _ _ _ _ us hl=>pG us hl λ_=>rfl
 have F13:=bp (st:=dW) l13 c13 k13
 have b13:=F13.binds (ps:=["saying"]) λ_ _ _ _ _ _ us hl=>pG us hl λ_=>rfl
 have F14:=bp (st:=cP) l14 c14 k14
 have b14:=F14.binds (ps:=["saying"]) λ_ _ _ _ _ _ us hl=>pG us hl λ_=>rfl
 have F15:=bp (st:=cF) l15 c15 k15
 have b15:=F15.binds (ps:=["told","place","saying"]) λ_ _ _ _ _ _ us hl=>n8 us hl λ_ _ _=>rfl
 have F16:=bp (st:=dX) l16 c16 k16
 have b16:=F16.binds (ps:=["saying","inner"]) λ_ _ _ _ _ _ us hl=>ln2 us hl λ_ _=>rfl
 have F17:=bp (st:=cQ) l17 c17 k17
 have b17:=F17.binds (ps:=["saying"]) λ_ _ _ _ _ _ us hl=>pG us hl λ_=>rfl
 have F18:=bp (st:=fG) l18 c18 k18
 have b18:=F18.binds (ps:=["saying"]) λ_ _ _ _ _ _ us hl=>pG us hl λ_=>rfl
 have F19:=bp (st:=fQ) l19 c19 k19
 have b19:=F19.binds (ps:=["term","names"]) λ_ _ _ _ _ _ us hl=>ln2 us hl λ_ _=>rfl
 have F20:=bp (st:=iH) l20 c20 k20
 have b20:=F20.binds (ps:=["letter","times"]) λ_ _ _ _ _ _ us hl=>ln2 us hl λ_ _=>rfl
 have F21:=bp (st:=du) l21 c21 k21
 have b21:=F21.binds (ps:=["base","times"]) λ_ _ _ _ _ _ us hl=>ln2 us hl λ_ _=>rfl
 have F22:=bp (st:=fS) l22 c22 k22
 have b22:=F22.binds (ps:=["saying","names"]) λ_ _ _ _ _ _ us hl=>ln2 us hl λ_ _=>rfl
 have F23:=bp (st:=fU) l23 c23 k23
 have b23:=F23.binds (ps:=["base","room","total"]) λ_ _ _ _ _ _ us hl=>n8 us hl λ_ _ _=>rfl
 have F24:=iP (st:=cq) l24 c24 k24
 have H24:=iQ lc24 le24
 have b24:Binds K (Aa "same_growth" "same_growth" (aF cq) (aE cq) (ah cq) .none aaU aaV aaW aaT (.ref wJ) aaX) ["base","names","saying"] []:=.all λus hl=>n8 us hl λ_ _ _=>rfl
 have F25:=iP (st:=cu) l25 c25 k25
 have H25:=iQ lc25 le25
 have b25:Binds K (Aa "less_growth" "less_growth" (aF cu) (aE cu) (ah cu) .none aaZ aa_ aa0 aaY (.ref wK) aa1) ["base","names","saying"] []:=.all λus hl=>n8 us hl λ_ _ _=>rfl
 have F26:=bp (st:=fH) l26 c26 k26
 have b26:=F26.binds (ps:=["base","row","pair","total"]) λ_ _ _ _ _ _ us hl=>VC us hl λ_ _ _ _=>rfl
 have F27:=bp (st:=f') l27 c27 k27
 have b27:=F27.binds (ps:=["base","row","pair"]) λ_ _ _ _ _ _ us hl=>n8 us hl λ_ _ _=>rfl
 have F28:=iP (st:=bw) l28 c28 k28
 have H28:=iQ lc28 le28
 have b28:Binds K (Aa "sign_growth" "sign_growth" (aF bw) (aE bw) (ah bw) .none aa5 aa6 aa7 aa4 (.ref wL) aa8) ["world","names","saying"] []:=.all λus hl=>n8 us hl λ_ _ _=>rfl
 have F29:=iP (st:=bX) l29 c29 k29
 have H29:=iQ lc29 le29
 have b29:Binds K (Aa "alike_growth" "alike_growth" (aF bX) (aE bX) (ah bX) .none aa' abb abd aa9 (.ref wM) abe) ["world","names","saying"] []:=.all λus hl=>n8 us hl λ_ _ _=>rfl
 have F30:=bp (st:=eB) l30 c30 k30
 have b30:=F30.binds (ps:=["world","names","saying"]) λ_ _ _ _ _ _ us hl=>n8 us hl λ_ _ _=>rfl
 have F31:=iP (st:=cH) l31 c31 k31
 have b31:Binds K (Aa "atom_of" "atom_of" (aF cH) (aE cH) (ah cH) (.ref wN) Ul Um Uo Uk (.ref Lo) Up) ["world","saying","most"] []:=λs us hK hl=>n8 us (by rw[Bg] at hl;exact hl) λ_ _ _=>EL (T:=wN) rfl (hK _ _ ld31) rfl rfl rfl
 have d31:∃t,Binds K (Aa "atom_of" "atom_of" (aF cH) (aE cH) (ah cH) (.ref wN) Ul Um Uo Uk (.ref Lo) Up) ["world","saying","most"] [.int 2000 t]:=⟨V_,λs us hK hl=>have h3:us.length=2:=(by simpa using hl);ln2 us h3 λ_ _=>EL (T:=wN) rfl (hK _ _ ld31) rfl rfl rfl⟩
 have F32:=bp (st:=iT) l32 c32 k32
 have b32:=F32.binds (ps:=["_law_cell","_law_k"]) λ_ _ _ _ _ _ us hl=>ln2 us hl λ_ _=>rfl
 have F33:=bp (st:=iI) l33 c33 k33
 have b33:=F33.binds (ps:=["_law_script"]) λ_ _ _ _ _ _ us hl=>pG us hl λ_=>rfl
 have F34:=bp (st:=ju) l34 c34 k34
 have b34:=F34.binds (ps:=["_law_deck_here","_law_many"]) λ_ _ _ _ _ _ us hl=>ln2 us hl λ_ _=>rfl
 have F35:=bp (st:=jv) l35 c35 k35
 have b35:=F35.binds (ps:=["_law_deck_here"]) λ_ _ _ _ _ _ us hl=>pG us hl λ_=>rfl
 have F36:=bp (st:=gM) l36 c36 k36
 have b36:=F36.binds (ps:=["_law_deck_here","_law_base_here"]) λ_ _ _ _ _ _ us hl=>ln2 us hl λ_ _=>rfl
 have F37:=bp (st:=fM) l37 c37 k37
 have b37:=F37.binds (ps:=["_law_marks","_law_moves"]) λ_ _ _ _ _ _ us hl=>ln2 us hl λ_ _=>rfl
 have F38:=bp (st:=jw) l38 c38 k38
 have b38:=F38.binds (ps:=["_law_row","_law_some"]) λ_ _ _ _ _ _ us hl=>ln2 us hl λ_ _=>rfl
 have F39:=bp (st:=gb) l39 c39 k39
 have b39:=F39.binds (ps:=["_law_base_here","_law_number_here"]) λ_ _ _ _ _ _ us hl=>ln2 us hl λ_ _=>rfl
 have F40:=bp (st:=dM) l40 c40 k40
 have b40:=F40.binds (ps:=["_law_deck_here","_law_world"]) λ_ _ _ _ _ _ us hl=>ln2 us hl λ_ _=>rfl
 have F41:=bp (st:=i8) l41 c41 k41
 have T:Txt K mg ⟨f0,_,f1,_,f2,_,f3,_,f4,_,f5,_,f6,_,f7,_,R0,f8,_,f9,_,VD,_,wH,ky,f11,_,wI,kz,VE,_,VF,_,VG,_,VH,_,VI,_,VJ,_,VL,_,VM,_,VN,_,VO,_,VP,_,VQ,_,VR,_,wJ,kB,VS,_,wK,kC,VT,_,VU,_,VW,_,wL,kD,VX,_,wM,kE,VY,_,VZ,_,Lo,f32,_,V0,_,V1,_,V2,_,V3,_,V4,_,V5,_,V6,_,V7,_,fa,_⟩:=⟨F0,Ah X G a0,k0,b0,F1,Ah X G a1,k1,b1,F2,Ah X G a2,k2,b2,F3,Ah X G a3,k3,b3,F4,Ah X G a4,k4,b4,F5,Ah X G a5,k5,b5,F6,Ah X G a6,k6,b6,F7,Ah X G a7,k7,b7,d7,F8,Ah X G a8,k8,b8,F9,Ah X G a9,k9,b9,F10,rg,Ah X G a10,k10,b10,F11,zL,Ah X G a11,k11,b11,F12,Ah X G a12,k12,b12,F13,Ah X G a13,k13,b13,F14,Ah X G a14,k14,b14,F15,Ah X G a15,k15,b15,F16,Ah X G a16,k16,b16,F17,Ah X G a17,k17,b17,F18,Ah X G a18,k18,b18,F19,Ah X G a19,k19,b19,F20,Ah X G a20,k20,b20,F21,Ah X G a21,k21,b21,F22,Ah X G a22,k22,b22,F23,Ah X G a23,k23,b23,F24,H24,Ah X G a24,k24,b24,F25,H25,Ah X G a25,k25,b25,F26,Ah X G a26,k26,b26,F27,Ah X G a27,k27,b27,F28,H28,Ah X G a28,k28,b28,F29,H29,Ah X G a29,k29,b29,F30,Ah X G a30,k30,b30,F31,Ah X G a31,k31,b31,d31,F32,Ah X G a32,k32,b32,F33,Ah X G a33,k33,b33,F34,Ah X G a34,k34,b34,F35,Ah X G a35,k35,b35,F36,Ah X G a36,k36,b36,F37,Ah X G a37,k37,b37,F38,Ah X G a38,k38,b38,F39,Ah X G a39,k39,b39,F40,Ah X G a40,k40,b40,F41,Ah X G a41,BH X G z0,BH X G z1,BH X G z2,BH X G z3,BH X G z4,BH X G z5,BH X G z6,BH X G z7,BH X G z8,BH X G z9,BH X G z10,BH X G z11,BH X G z12,BH X G z13,BH X G z14,BH X G z15,BH X G z16,tne01,tne02,tne03,tne04,tne05,tne12,tne13,tne14,tne15,tne23,tne24,tne25,tne34,tne35,tne45,⟨_,Ah X G gg0⟩⟩
 have Dp:nE K w.params pd (dO ⟨pd,OO,OP,OQ,OS,OT⟩):=⟨⟨pes,pn,p_l,p_k,by
  intro x r hm
  simp only[dO,AV,List.mem_nil_iff,or_false,FT] at hm
  rcases hm with⟨rfl,rfl⟩ | ⟨rfl,rfl⟩ | ⟨rfl,rfl⟩ | ⟨rfl,rfl⟩ | ⟨rfl,rfl⟩ | ⟨rfl,rfl⟩ | ⟨rfl,rfl⟩ | ⟨rfl,rfl⟩ | ⟨rfl,rfl⟩
  ·rw[Bc p_l pq_no];exact rfl
  ·rw[Bc p_l pq_an];exact rfl
  ·rw[Bc p_l pq_or];exact rfl
  ·rw[Bc p_l pq_so];exact rfl
  ·rw[Bc p_l pq_ea];exact rfl
  ·rw[Bc p_l pq_same];exact By
  ·rw[Bc p_l pq_less];exact By
  ·rw[Bc p_l pq_sign];exact By
  ·rw[Bc p_l pq_alike];exact By⟩,p_s⟩
 have U:ji K w.params mg ⟨pd,OO,OP,OQ,OS,OT⟩:=⟨Ah X G p_a,Dp,λH=>gJ (us:=[.int 1 _]) pr_no (.cons ⟨_,rfl⟩ (.nil)) (by decide),λH=>gJ (us:=[.int 1 _,.int 2 _]) pr_an (.cons ⟨_,rfl⟩ (.cons ⟨_,rfl⟩ (.nil))) (by decide),λH=>gJ (us:=[.int 1 _,.int 2 _]) pr_or (.cons ⟨_,rfl⟩ (.cons ⟨_,rfl⟩ (.nil))) (by decide),λH=>gJ (us:=[.int 2 _]) pr_so (.cons ⟨_,rfl⟩ (.nil)) (by decide),λH=>gJ (us:=[.int 2 _]) pr_ea (.cons ⟨_,rfl⟩ (.nil)) (by decide)⟩
 have Ds:nE K w.params sd (dP ⟨sd,OU,OV,OW,OX⟩):=⟨⟨ses,sn,s_l,s_k,by
  intro x r hm
  simp only[dP,AV,List.mem_nil_iff,or_false,FT] at hm
  rcases hm with⟨rfl,rfl⟩ | ⟨rfl,rfl⟩ | ⟨rfl,rfl⟩ | ⟨rfl,rfl⟩ | ⟨rfl,rfl⟩ | ⟨rfl,rfl⟩ | ⟨rfl,rfl⟩ | ⟨rfl,rfl⟩ | ⟨rfl,rfl⟩
  ·rw[Bc s_l sq_sa];exact rfl
  ·rw[Bc s_l sq_le];exact rfl
  ·rw[Bc s_l sq_si];exact rfl
  ·rw[Bc s_l sq_al];exact rfl
  ·rw[Bc s_l sq_not];exact By
  ·rw[Bc s_l sq_and];exact By
  ·rw[Bc s_l sq_or];exact By
  ·rw[Bc s_l sq_some];exact By
  ·rw[Bc s_l sq_each];exact By⟩,s_s⟩
 have Y:jP K w.params mg ⟨sd,OU,OV,OW,OX⟩:=⟨Ah X G s_a,Ds,λH=>gJ (us:=[.int 1 _,.int 2 _]) sr_sa (.cons ⟨_,rfl⟩ (.cons ⟨_,rfl⟩ (.nil))) (by decide),λH=>gJ (us:=[.int 1 _,.int 2 _]) sr_le (.cons ⟨_,rfl⟩ (.cons ⟨_,rfl⟩ (.nil))) (by decide),λH=>gJ (us:=[.int 2 _]) sr_si (.cons ⟨_,rfl⟩ (.nil)) (by decide),λH=>gJ (us:=[.int 2 _,.int 4 _]) sr_al (.cons ⟨_,rfl⟩ (.cons ⟨_,rfl⟩ (.nil))) (by decide)⟩
 exact⟨Aa "law" "law" (aF i8) (aE i8) (ah i8) .none abr abt abu abq Uq abv,[ky,kz,kB,kC,kD,kE],(A8.mpr ⟨⟨⟨_,Cf X rg⟩,lt10,lz10⟩,(A8.mpr ⟨⟨⟨_,Cf X zL⟩,lt11,lz11⟩,(A8.mpr ⟨⟨⟨_,Cf X H24⟩,lt24,lz24⟩,(A8.mpr ⟨⟨⟨_,Cf X H25⟩,lt25,lz25⟩,(A8.mpr ⟨⟨⟨_,Cf X H28⟩,lt28,lz28⟩,(A8.mpr ⟨⟨⟨_,Cf X H29⟩,lt29,lz29⟩,(λ_ h=>nomatch h)⟩)⟩)⟩)⟩)⟩)⟩),λs v=>.of_eq rfl,λbase _ _ hB=>Z0 T hB U Y⟩
theorem walk{l:Hk}{q:Af}{loose:List Str}{XP:(Str->Option Value)->Heap->Prop}{YP:World->Heap->Prop}{d:DefRec}{K:Hz->AD}(hn:l.most=some 63)(hdf:d.params.defaults=[])
  (hY:∀(w:World) (h:Heap),YP w h->(K w.params).In h)
  (F:∀(w:World) (mg:Str->Option Value) (fa:Addr) (h:Heap),(K w.params).In h->h.Ns AX mg->mg d.name=some (.ref fa)->YP w h->
   ∃(fd:Ay) (ts:List Addr),(∀T∈ts,(∃c,E3 h c T)/\h.get? T=some (B1 #[])/\(K w.params).lookup T=none)/\(∀(s:AH) (u:Value),JG s fd ⟨[u],[]⟩ [("_law_script",u)])/\
    ∀base:Heap,(K w.params).In base->base.Ns AX mg->fP mg base->aR l.prog w (K w.params) mg base bh 8 fa fd ["_law_script"] (zf (K w.params) ts)):
  PySem.W.WalkO q loose XP YP l.row.toRowW d [] (λf vs=>Jd f vs):=
 L2.SD (n:=63) (k:=8) (x:="_law_script") (sp:=λw ts=>zf (K w.params) ts) hn (by decide) hdf ⟨rfl,by decide,by decide,rfl⟩ hY F (λ_ _ a ns _ hl hO hS=>⟨a,ns,rfl,hS,hl,hO,λ_=>rfl⟩)
end
end My
namespace PySem.W.Fast
theorem tw14725078206336531750 : True := trivial
theorem tw6357317100363637919 : True := trivial
theorem tw3198557005938560280 : True := trivial
theorem tw6748710784583303426 : True := trivial
theorem tw2932377735649596411 : True := trivial
theorem tw13921870618218940892 : True := trivial
theorem tw10097143837933959153 : True := trivial
theorem tw11500400019271960549 : True := trivial
theorem tw15848327290666162333 : True := trivial
theorem tw9046846361674508227 : True := trivial
theorem tw8893934909861236269 : True := trivial
theorem tw14341913975867355713 : True := trivial
theorem tw18233230346081165405 : True := trivial
theorem tw9518194001631653561 : True := trivial
theorem tw5826321672946282217 : True := trivial
theorem tw5118133158442361209 : True := trivial
theorem tw1262569306816456119 : True := trivial
theorem tw16478124507123583172 : True := trivial
theorem tw127535454221559972 : True := trivial
theorem tw6422496348963166938 : True := trivial
theorem tw13877976073917706084 : True := trivial
theorem tw9103292214618857332 : True := trivial
theorem tw6483727219294427594 : True := trivial
theorem tw10503954762586187076 : True := trivial
theorem tw9953196231331298100 : True := trivial
theorem tw14152859383280105150 : True := trivial
theorem tw12919641154349582922 : True := trivial
theorem tw2805931954965812942 : True := trivial
theorem tw8487407055287565814 : True := trivial
theorem tw9163460761328984378 : True := trivial
theorem tw12695852310925167093 : True := trivial
theorem tw5845121921679470650 : True := trivial
theorem tw2405377129672987952 : True := trivial
theorem tw11205373449191727570 : True := trivial
theorem tw17312230205044634308 : True := trivial
theorem tw16034434865941660213 : True := trivial
theorem tw10134263935546503549 : True := trivial
theorem tw12337789632502134332 : True := trivial
theorem tw11369342481302205513 : True := trivial
theorem tw6391130318836201252 : True := trivial
theorem tw12412343508823990372 : True := trivial
theorem tw5034154080466349543 : True := trivial
theorem tw11393021963383158371 : True := trivial
theorem tw5608438530162795049 : True := trivial
theorem tw5136008297367244731 : True := trivial
theorem tw4067166827477984368 : True := trivial
theorem tw5398796598833360742 : True := trivial
theorem tw10580395914177712435 : True := trivial
theorem tw12043160955288594404 : True := trivial
theorem tw3586330142338098567 : True := trivial
theorem tw5346800520190443514 : True := trivial
theorem tw5664032833111666635 : True := trivial
theorem tw8264998229525318774 : True := trivial
theorem tw4275504269290150697 : True := trivial
theorem tw7382326110271356695 : True := trivial
theorem tw15217100350723253911 : True := trivial
theorem tw7816617992818129575 : True := trivial
theorem tw9013762649409055124 : True := trivial
theorem tw14977964383354098351 : True := trivial
theorem tw17956258133849462642 : True := trivial
theorem tw17235021946892935861 : True := trivial
theorem tw5328361911886184986 : True := trivial
theorem tw2950983754959329060 : True := trivial
theorem tw10047107989589715689 : True := trivial
theorem tw7793543194377595174 : True := trivial
theorem tw9426919105728785801 : True := trivial
theorem tw5574053947784967606 : True := trivial
theorem tw1542292791321985271 : True := trivial
theorem tw14816085058211319646 : True := trivial
theorem tw4918098604418698349 : True := trivial
theorem tw8026486896132591307 : True := trivial
theorem tw12840284182547588493 : True := trivial
theorem tw17185796348286086256 : True := trivial
theorem tw14599270634625278069 : True := trivial
theorem tw10226267012445084196 : True := trivial
theorem tw6473952819339913633 : True := trivial
theorem tw1115112285487071217 : True := trivial
theorem tw10670170843421003032 : True := trivial
theorem tw10123345631775536970 : True := trivial
theorem tw9670471369611229059 : True := trivial
theorem tw3851022620011559568 : True := trivial
theorem tw2059165341348491413 : True := trivial
theorem tw18148988630257510526 : True := trivial
theorem tw6542626157386248006 : True := trivial
theorem tw5818149596526925551 : True := trivial
theorem tw11812023010535371422 : True := trivial
theorem tw17838570652684479920 : True := trivial
theorem tw10440787810201541844 : True := trivial
theorem tw8831687470254268282 : True := trivial
theorem tw7591393099580108452 : True := trivial
theorem tw16291263755664488658 : True := trivial
theorem tw14926230568205735574 : True := trivial
theorem tw13623709887350417160 : True := trivial
theorem tw10191152810990733885 : True := trivial
theorem tw13141571112786427237 : True := trivial
theorem tw15307744838769581923 : True := trivial
theorem tw287807037758784301 : True := trivial
theorem tw17975770812127591318 : True := trivial
theorem tw15308520305584426430 : True := trivial
theorem tw5478305081528765360 : True := trivial
theorem tw17146121068303680540 : True := trivial
theorem tw10299763821736127186 : True := trivial
theorem tw2700366814811517723 : True := trivial
theorem tw1224208194261002383 : True := trivial
theorem tw6225460279541690334 : True := trivial
theorem tw6236648526201390009 : True := trivial
theorem tw9728388679487298913 : True := trivial
theorem tw11642167567794121000 : True := trivial
theorem tw6455660180381774923 : True := trivial
theorem tw17683376556464627592 : True := trivial
theorem tw12846772384344239114 : True := trivial
theorem tw8023018302489313393 : True := trivial
theorem tw10327296997058628873 : True := trivial
theorem tw11715390236421134040 : True := trivial
theorem tw5143049487510148657 : True := trivial
theorem tw5818254204646430355 : True := trivial
theorem tw13597500519743698824 : True := trivial
theorem tw12333749127829657909 : True := trivial
theorem tw595295063281854169 : True := trivial
theorem tw7769368188594905328 : True := trivial
theorem tw5057638281489816853 : True := trivial
theorem tw1004532895046916313 : True := trivial
theorem tw2826221319734603398 : True := trivial
theorem tw7849978518810952908 : True := trivial
theorem tw5903635060330492733 : True := trivial
theorem tw13397396178327685669 : True := trivial
theorem tw7920146492382886661 : True := trivial
theorem tw13317836158680122140 : True := trivial
theorem tw3761679401392983797 : True := trivial
theorem tw10736777504196289595 : True := trivial
theorem tw15565434020597487165 : True := trivial
theorem tw15278684086389087547 : True := trivial
theorem tw9822310421573526195 : True := trivial
theorem tw8887384012927573337 : True := trivial
theorem tw15102569941895550690 : True := trivial
theorem tw10533286316608933100 : True := trivial
theorem tw11750862027266620120 : True := trivial
theorem tw13804954127302514976 : True := trivial
theorem tw1548752954191780602 : True := trivial
theorem tw14170291381681509199 : True := trivial
theorem tw11398192213972546839 : True := trivial
theorem tw5004002930490859142 : True := trivial
theorem tw10386265082632865421 : True := trivial
end PySem.W.Fast
open PySem PySem.W PyProof.Rows
set_option maxRecDepth 100000 in
set_option maxHeartbeats 0 in
theorem PySem.Challenge.cw_figurejudge_k80_whole_rows_from_above_holds : PySem.Challenge.rw_figurejudge_k80_whole_rows_from_above.Holds := by
 w_on;o_law;k_head;(case hw=>w_witness2)
 k_fill
 refine My.walk (l:=PySem.Challenge.rw_figurejudge_k80_whole_rows_from_above) rfl rfl (fun w h Y=>PySem.W.km_in_of Y) ?F
 case F=>
  intro w mg fa h KX G hmg Y
  refine' My.all_mk KX G hmg ?a0 ?l0 ?c0 ?k0 ?a1 ?l1 ?c1 ?k1 ?a2 ?l2 ?c2 ?k2 ?a3 ?l3 ?c3 ?k3 ?a4 ?l4 ?c4 ?k4 ?a5 ?l5 ?c5 ?k5 ?a6 ?l6 ?c6 ?k6 ?a7 ?l7 ?c7 ?k7 ?ld7 ?a8 ?l8 ?c8 ?k8 ?a9 ?l9 ?c9 ?k9 ?a10 ?l10 ?c10 ?k10 ?lc10 ?lv10 ?le10 ?lz10 ?lt10 ?a11 ?l11 ?c11 ?k11 ?lc11 ?lv11 ?le11 ?lz11 ?lt11 ?a12 ?l12 ?c12 ?k12 ?a13 ?l13 ?c13 ?k13 ?a14 ?l14 ?c14 ?k14 ?a15 ?l15 ?c15 ?k15 ?a16 ?l16 ?c16 ?k16 ?a17 ?l17 ?c17 ?k17 ?a18 ?l18 ?c18 ?k18 ?a19 ?l19 ?c19 ?k19 ?a20 ?l20 ?c20 ?k20 ?a21 ?l21 ?c21 ?k21 ?a22 ?l22 ?c22 ?k22 ?a23 ?l23 ?c23 ?k23 ?a24 ?l24 ?c24 ?k24 ?lc24 ?lv24 ?le24 ?lz24 ?lt24 ?a25 ?l25 ?c25 ?k25 ?lc25 ?lv25 ?le25 ?lz25 ?lt25 ?a26 ?l26 ?c26 ?k26 ?a27 ?l27 ?c27 ?k27 ?a28 ?l28 ?c28 ?k28 ?lc28 ?lv28 ?le28 ?lz28 ?lt28 ?a29 ?l29 ?c29 ?k29 ?lc29 ?lv29 ?le29 ?lz29 ?lt29 ?a30 ?l30 ?c30 ?k30 ?a31 ?l31 ?c31 ?k31 ?ld31 ?a32 ?l32 ?c32 ?k32 ?a33 ?l33 ?c33 ?k33 ?a34 ?l34 ?c34 ?k34 ?a35 ?l35 ?c35 ?k35 ?a36 ?l36 ?c36 ?k36 ?a37 ?l37 ?c37 ?k37 ?a38 ?l38 ?c38 ?k38 ?a39 ?l39 ?c39 ?k39 ?a40 ?l40 ?c40 ?k40 ?a41 ?l41 ?c41 ?k41 ?z0 ?z1 ?z2 ?z3 ?z4 ?z5 ?z6 ?z7 ?z8 ?z9 ?z10 ?z11 ?z12 ?z13 ?z14 ?z15 ?z16 ?gg0 ?tne01 ?tne02 ?tne03 ?tne04 ?tne05 ?tne12 ?tne13 ?tne14 ?tne15 ?tne23 ?tne24 ?tne25 ?tne34 ?tne35 ?tne45 ?p_a ?p_l ?p_k ?p_s ?pq_no ?pr_no ?pq_an ?pr_an ?pq_or ?pr_or ?pq_so ?pr_so ?pq_ea ?pr_ea ?pq_same ?pq_less ?pq_sign ?pq_alike ?s_a ?s_l ?s_k ?s_s ?sq_sa ?sr_sa ?sq_le ?sr_le ?sq_si ?sr_si ?sq_al ?sr_al ?sq_not ?sq_and ?sq_or ?sq_some ?sq_each
  (case a0=>k_is)
  (case l0=>k_is)
  (case c0=>k_is)
  (case k0=>k_is)
  (case a1=>k_is)
  (case l1=>k_is)
  (case c1=>k_is)
  (case k1=>k_is)
  (case a2=>k_is)
  (case l2=>k_is)
  (case c2=>k_is)
  (case k2=>k_is)
  (case a3=>k_is)
  (case l3=>k_is)
  (case c3=>k_is)
  (case k3=>k_is)
  (case a4=>k_is)
  (case l4=>k_is)
  (case c4=>k_is)
  (case k4=>k_is)
  (case a5=>k_is)
  (case l5=>k_is)
  (case c5=>k_is)
  (case k5=>k_is)
  (case a6=>k_is)
  (case l6=>k_is)
  (case c6=>k_is)
  (case k6=>k_is)
  (case a7=>k_is)
  (case l7=>k_is)
  (case c7=>k_is)
  (case k7=>k_is)
  (case ld7=>k_is)
  (case a8=>k_is)
  (case l8=>k_is)
  (case c8=>k_is)
  (case k8=>k_is)
  (case a9=>k_is)
  (case l9=>k_is)
  (case c9=>k_is)
  (case k9=>k_is)
  (case a10=>k_is)
  (case l10=>k_is)
  (case c10=>k_is)
  (case k10=>k_is)
  (case lc10=>k_is)
  (case lv10=>rfl)
  (case le10=>rfl)
  (case lz10=>kernel_rfl)
  (case lt10=>exact PySem.W.km_tabs_of Y _ (by decide))
  (case a11=>k_is)
  (case l11=>k_is)
  (case c11=>k_is)
  (case k11=>k_is)
  (case lc11=>k_is)
  (case lv11=>rfl)
  (case le11=>rfl)
  (case lz11=>kernel_rfl)
  (case lt11=>exact PySem.W.km_tabs_of Y _ (by decide))
  (case a12=>k_is)
  (case l12=>k_is)
  (case c12=>k_is)
  (case k12=>k_is)
  (case a13=>k_is)
  (case l13=>k_is)
  (case c13=>k_is)
  (case k13=>k_is)
  (case a14=>k_is)
  (case l14=>k_is)
  (case c14=>k_is)
  (case k14=>k_is)
  (case a15=>k_is)
  (case l15=>k_is)
  (case c15=>k_is)
  (case k15=>k_is)
  (case a16=>k_is)
  (case l16=>k_is)
  (case c16=>k_is)
  (case k16=>k_is)
  (case a17=>k_is)
  (case l17=>k_is)
  (case c17=>k_is)
  (case k17=>k_is)
  (case a18=>k_is)
  (case l18=>k_is)
  (case c18=>k_is)
  (case k18=>k_is)
  (case a19=>k_is)
  (case l19=>k_is)
  (case c19=>k_is)
  (case k19=>k_is)
  (case a20=>k_is)
  (case l20=>k_is)
  (case c20=>k_is)
  (case k20=>k_is)
  (case a21=>k_is)
  (case l21=>k_is)
  (case c21=>k_is)
  (case k21=>k_is)
  (case a22=>k_is)
  (case l22=>k_is)
  (case c22=>k_is)
  (case k22=>k_is)
  (case a23=>k_is)
  (case l23=>k_is)
  (case c23=>k_is)
  (case k23=>k_is)
  (case a24=>k_is)
  (case l24=>k_is)
  (case c24=>k_is)
  (case k24=>k_is)
  (case lc24=>k_is)
  (case lv24=>rfl)
  (case le24=>rfl)
  (case lz24=>kernel_rfl)
  (case lt24=>exact PySem.W.km_tabs_of Y _ (by decide))
  (case a25=>k_is)
  (case l25=>k_is)
  (case c25=>k_is)
  (case k25=>k_is)
  (case lc25=>k_is)
  (case lv25=>rfl)
  (case le25=>rfl)
  (case lz25=>kernel_rfl)
  (case lt25=>exact PySem.W.km_tabs_of Y _ (by decide))
  (case a26=>k_is)
  (case l26=>k_is)
  (case c26=>k_is)
  (case k26=>k_is)
  (case a27=>k_is)
  (case l27=>k_is)
  (case c27=>k_is)
  (case k27=>k_is)
  (case a28=>k_is)
  (case l28=>k_is)
  (case c28=>k_is)
  (case k28=>k_is)
  (case lc28=>k_is)
  (case lv28=>rfl)
  (case le28=>rfl)
  (case lz28=>kernel_rfl)
  (case lt28=>exact PySem.W.km_tabs_of Y _ (by decide))
  (case a29=>k_is)
  (case l29=>k_is)
  (case c29=>k_is)
  (case k29=>k_is)
  (case lc29=>k_is)
  (case lv29=>rfl)
  (case le29=>rfl)
  (case lz29=>kernel_rfl)
  (case lt29=>exact PySem.W.km_tabs_of Y _ (by decide))
  (case a30=>k_is)
  (case l30=>k_is)
  (case c30=>k_is)
  (case k30=>k_is)
  (case a31=>k_is)
  (case l31=>k_is)
  (case c31=>k_is)
  (case k31=>k_is)
  (case ld31=>k_is)
  (case a32=>k_is)
  (case l32=>k_is)
  (case c32=>k_is)
  (case k32=>k_is)
  (case a33=>k_is)
  (case l33=>k_is)
  (case c33=>k_is)
  (case k33=>k_is)
  (case a34=>k_is)
  (case l34=>k_is)
  (case c34=>k_is)
  (case k34=>k_is)
  (case a35=>k_is)
  (case l35=>k_is)
  (case c35=>k_is)
  (case k35=>k_is)
  (case a36=>k_is)
  (case l36=>k_is)
  (case c36=>k_is)
  (case k36=>k_is)
  (case a37=>k_is)
  (case l37=>k_is)
  (case c37=>k_is)
  (case k37=>k_is)
  (case a38=>k_is)
  (case l38=>k_is)
  (case c38=>k_is)
  (case k38=>k_is)
  (case a39=>k_is)
  (case l39=>k_is)
  (case c39=>k_is)
  (case k39=>k_is)
  (case a40=>k_is)
  (case l40=>k_is)
  (case c40=>k_is)
  (case k40=>k_is)
  (case a41=>k_is)
  (case l41=>k_is)
  (case c41=>k_is)
  (case k41=>k_is)
  (case z0=>k_is)
  (case z1=>k_is)
  (case z2=>k_is)
  (case z3=>k_is)
  (case z4=>k_is)
  (case z5=>k_is)
  (case z6=>k_is)
  (case z7=>k_is)
  (case z8=>k_is)
  (case z9=>k_is)
  (case z10=>k_is)
  (case z11=>k_is)
  (case z12=>k_is)
  (case z13=>k_is)
  (case z14=>k_is)
  (case z15=>k_is)
  (case z16=>k_is)
  (case gg0=>k_is)
  (case tne01=>decide)
  (case tne02=>decide)
  (case tne03=>decide)
  (case tne04=>decide)
  (case tne05=>decide)
  (case tne12=>decide)
  (case tne13=>decide)
  (case tne14=>decide)
  (case tne15=>decide)
  (case tne23=>decide)
  (case tne24=>decide)
  (case tne25=>decide)
  (case tne34=>decide)
  (case tne35=>decide)
  (case tne45=>decide)
  (case p_a=>k_is)
  (case p_l=>k_is)
  (case p_k=>repeat (first | exact⟨⟩ | refine⟨⟨_,_,rfl,rfl⟩,?_⟩))
  (case p_s=>rfl)
  (case pq_no=>k_is)
  (case pr_no=>k_is)
  (case pq_an=>k_is)
  (case pr_an=>k_is)
  (case pq_or=>k_is)
  (case pr_or=>k_is)
  (case pq_so=>k_is)
  (case pr_so=>k_is)
  (case pq_ea=>k_is)
  (case pr_ea=>k_is)
  (case pq_same=>k_is)
  (case pq_less=>k_is)
  (case pq_sign=>k_is)
  (case pq_alike=>k_is)
  (case s_a=>k_is)
  (case s_l=>k_is)
  (case s_k=>repeat (first | exact⟨⟩ | refine⟨⟨_,_,rfl,rfl⟩,?_⟩))
  (case s_s=>rfl)
  (case sq_sa=>k_is)
  (case sr_sa=>k_is)
  (case sq_le=>k_is)
  (case sr_le=>k_is)
  (case sq_si=>k_is)
  (case sr_si=>k_is)
  (case sq_al=>k_is)
  (case sr_al=>k_is)
  (case sq_not=>k_is)
  (case sq_and=>k_is)
  (case sq_or=>k_is)
  (case sq_some=>k_is)
  (case sq_each=>k_is)
#print axioms PySem.Challenge.cw_figurejudge_k80_whole_rows_from_above_holds
