import PyProof.Rows.All
import Wide.All
import OpenK.AllK
import Wide.FinOn
import Lean
import PyProof.EqAt
import PyProof.EqKinds
import PyProof.TupleCall
import PyProof.NeKinds
import PyProof.ListRange
import PyProof.Draws
import PyProof.Rows.SortStr
import KE.KDictSum
import KE.KEqDict
import KE.KDictOf
import KE.KRevSl
import PyProof.StrWalks
import PyProof.StrBlock2
import PyProof.SetKind
import PyProof.SetRoads
import PyProof.Rows.SetFrom
import PyProof.ReprRoads
import PyProof.ReprLen
import PyProof.NsDelKeeps
import PyProof.ListMulRoad
import PyProof.FactsAll.tuple_2
import KE.KLam
import KE.KNestM
import PyProof.AttrMissHeap
import PyProof.Rows.SortShell
import PySem.Challenge.RW_figurejudge_k37_whole_atoms_at_great_num
set_option Elab.async false
set_option linter.all false
set_option maxRecDepth 100000
set_option maxHeartbeats 4000000
open List renaming length_map → AA, getElem?_eq_some_iff → AF, mem_of_getElem? → AG, map_append → AI, mem_cons_of_mem → AJ, length_append → AK, mem_cons_self → AL, getElem?_map → AU, mem_singleton → AW, mem_map → AZ, forall_mem_cons → Aa, mem_append → Ac, mem_cons → Ae, size_toArray → Ai, map_cons → Aj, length_take → Ao, take_length → Ap, getElem?_append_right → Aq, getElem?_eq_getElem → As, getElem?_append_left → Ax, length_cons → A2, Nodup → A4, append_nil → A8, range → A9, getD_eq_getElem?_getD → BA, map_congr_left → BI, map_map → BL, getElem?_of_mem → BR, mem_append_right → BV, take_of_length_le → Bg, nodup_cons → Bj, replicate → Bm, not_mem_nil → Bq, mem_range → Bv, sum_cons → By, getElem?_cons_succ → B6, length_range → B8, length_reverse → B_, nodup_append → CS, map_nil → CW
open List renaming length_replicate → Cg, getElem?_eq_none → Cj, append_assoc → Cu, mem_of_mem_take → Cv, any_cons → Cz, lookup_cons → C4, getElem_mem → C5, find?_cons → DC, length_nil → DD, range_succ → DG, getElem?_toArray → DI, getElem?_reverse → DJ, length_filter_le → DL, take_add_one → DO, flatten_cons → DP, mem_reverse → DW, flatten_nil → DZ, filterMap_cons → Df, of_mem_zip → Dv, sum_append → Dy, reverse_cons → EF, zipWith → EN, eraseIdx_eq_take_drop_succ → ER, length_drop → EW, mem_flatMap → EZ, length → Ed, map_id → Ee, eq_nil_of_length_eq_zero → Eg, mem_filter → Ei, forIn_cons → Er, nil_append → Eu, length_eraseIdx_of_lt → FH, drop_zero → FJ, filter_append → FK, drop_eq_getElem_cons → FP, flatMap_cons → FX, getElem?_take_of_lt → FZ, getElem?_replicate → Fn, all_eq_true → Fs, length_eq_zero_iff → Fw
open List renaming map_reverse → Fz, getElem?_set_self → GB, drop_of_length_le → GN, sum_replicate_nat → GO, zipWith_cons_cons → GP, find?_cons_of_neg → GR, map_const' → GX, take_append_drop → Ga, mem_append_left → Gn, getElem?_set_ne → Gp, length_dropLast → Gv, nodup_nil → Gy, forIn_nil → G3, length_flatMap → HC, flatMap_append → HD, flatten_append → HE, filter_sublist → HF, all_cons → HI, all_map → Hd
open PySem.W renaming Frag → AB, keepIn → AH, nsIn → AQ, fnOf → Ad, codeIn → Af, mg_of → Ak, mg_none_of → A7, find_K → BM, tabObj → Bn, kia_one → Bo, kitOne → CN, codeHdIn → Ca, codeHd_of_K → C3, cellsFrom_some → EB, CodeHd → EI, envX → E1, methodObj → FR, instObj → GS, KeysLit → GV, OpenLaw → GW, hideAll_size → Gj, hideAll_none → Gk, lookIn → Gr, hideAll_get → G_, of_hideAll → HP, callWith_K → HQ, codeRec_of → HR, kitx_list → HY, kitx_dict → HZ, plainGet → Hn
open PySem renaming wpAny_bind → AD, Shared → AN, wpAny_pure → AO, mainGlobals → AY, Program → Ah, FuncData → Av, rawInt → A3, Around → BB, starEach → BE, bootBuiltins → BN, wpAny_callSpecial?_slot → BO, wpAny_call_entry → BS, wpAny_newObj_type → BX, sysModules → Ba, wpAny_setField_rec → Bh, Paired → Bl, wpAny_holding → Bp, mem_of_lookup → Br, wpAny_field → Bt, compareOp → Bu, wpAny_mono → B0, wpAny_Call_Name_kw → B2, builtinLookup_eq_fast → CB, binaryOp → CM, wpAny_seqItems → CO, codeAny_builtin → CU, plainId_quiet → CY, IsPair → Cm, wpAny_passesOwn → Cn, wpAny_typeOf → Cr, wpAny_setState_of → Ct, wpAny_setEntries_of → C2, tupleKind_room_in1 → DA, wpAny_rule → DB, typeLookup_type → DF, pyNext → DH, wpAny_truthy_bool → DM, NameKind → DQ, codeAmong → DX, wpAny_attempt → Dl
open PySem renaming wpAny_ite_split → Dx, assignEach → Dz, getattributeRaised → D4, sliceBounds → D6, backTo → D8, wpAny_pyIter_list → D9, codeAny_mono → EA, fits_of_scanBound → EG, tupleKind → ET, wpAny_execs_cons → EU, Arguments → EV, wpAny_isInstance → EX, wpAny_pyIter_zip → EY, codeAny → Ea, getItem → Eb, wpAny_execs_nil → Ej, letOwnedTupleGo → Ek, wpAny_specialOf → Eo, wpAny_updateSeq → Es, scanBound → E2, wpAny_Name → E4, wpAny_pyIter_tuple → E6, wpAny_newFunctionEnv_cells → E7, typeLookup → E_, typeIs_str → FA, call_meets → FC, isSubtype_type → FD, firstArgMember → FE, wpAny_fieldsOf → FG, wpAny_letOwnedTupleGo_zip → FO, foldedSetIterable → FU, sizeLine_eq → FV, IsPart → Fb, wpAny_getItem_list_slice → Fc, attributeBase → Fd, wpAny_comprehension_free → Fe, noFill_tuple_add → Fp, wpAny_askSetting → Fu, pickOrder → Fv, builtinsNs → GA
open PySem renaming valueAt → GF, merged → GG, GenState → Gm, subscripted → Gu, Params → Gw, callType_codes → Gz, ZipApart → G0, swapsWith → G5, callerA → G6, seqItems? → G7, seq_tuple_add → HH, wpAny_standAt → HJ, wpAny_onRaise → HK, closureFor → HU, strKind_is → HV, BindsTo → Ha, bindArgs → Hb, storeSet → Hg, setNext → Hi, call → Hw
open PySem.Heap renaming get?_push_of_some → AE, lt_size → AR, get?_push_size → AV, size_push → BG, get?_update_self → CC, SameBut → C9, get?_update_other → C', ExtBut → Ef
open Nat renaming le_refl → AM, lt_of_lt_of_le → AX, ne_of_lt → Al, lt_of_le_of_lt → Ay, pow_le_pow_right → A0, le_trans → A5, zero_le → A6, lt_irrefl → BQ, pow_succ → Bi, sub_self → B9, le_succ → B', ne_of_gt → CH, lt_trans → CL, lt_succ_of_lt → CP, mod_lt → CV, lt_succ_self → CZ, pow_lt_pow_right → Cw, le_of_lt → C8, log2_le_self → Dc, pow_zero → EJ, div_div_eq_div_mul → EK, zero_add → EL, div_lt_self → Ew, eq_zero_or_pos → FI, pow_pos → FY, le_add_right → Ft, mod_eq_of_lt → F', div_lt_iff_lt_mul → Gh, mul_le_mul_right → G4, not_lt → HW, sub_zero → Hl, mul_comm → Hm, div_one → Hq
open Option.some renaming inj → AS, injEq → Hf
open Or renaming inl → Ab, inr → CT
open PySem.Paired renaming length → Ag
open Sum renaming inr → Am, inl → Du
open Bool renaming false_ne_true → An, and_eq_true → Bc, and_false → ED, eq_iff_iff → El, true_or → Hc
open Int renaming toNat_natCast → Au, toNat_of_nonneg → BH, le_refl → B7, natCast_mul → CA, emod_lt_of_pos → CF, natCast_ediv → CG, natAbs_natCast → Cf, emod_nonneg → Cp, natCast_add → Cq, mul_nonneg → DU, natCast_emod → DY, mul_zero → EO, mul_le_mul_of_nonneg_left → Eh, toNat → E3, mul_assoc → Fl, le_ediv_iff_mul_le → GJ, ediv_lt_iff_lt_mul → GQ, mul_one → Gq, mul_add → Hs, one_mul → Ht
open PySem.PassesOwn renaming never → Aw
open PySem.F renaming plainAttrs_list → Az, slot_list_append → BC, type_list_append → BD, called_set → B3, slot_tuple_iterator_next → Cd, slot_dict_get → Ci, slot_zip_next → DK, slot_tuple_getattribute → De, args_tuple_add_2 → Dk, slot_list_getattribute → Dm, slot_list_extend → Dq, type_list_extend → Dr, entry_tuple_add → D5, args_dict_get_3 → D7, slot_tuple_add → EC, entry_dict_get → EE, plainAttrs_str → EM, args_tuple_iterator_next_1 → Et, entry_tuple_iterator_next → Ey, slot_dict_getitem → FL, slot_str_getitem → Fg, plainAttrs_dict → Fq, plain_list_iadd → Fx, args_zip_next_1 → F_, slot_str_index → GI, entry_zip_next → GK, slot_str_upper → GL, type_dict_get → GY, plain_set_new → GZ, slot_set_iter → Gd, slot_list_pop → Gf, type_list_pop → Gg
open Array renaming length_toList → A_, getElem?_eq_getElem → BW, getElem?_toList → BZ, getElem?_eq_none → EH, getD_eq_getD_getElem? → Ez, size_eq_one_iff → Gb, toList → HX
open PySem.Value renaming ref → BF, none → Bz, str → ES, isInt → FQ, int → Fm, isStrOf_shape → G9, isStrOf → HG, type → HN, bool → Hv
open PyProof.Rows renaming envOfC → BJ, callWith_type1 → BP, slot_tuple_getitem → BY, sortedS → B4, StrsAre → Cs, subscriptTail → Ec, envOfC → Em, AllBare → FT, IntsAre → GC, Subscript_ → GD, ltCps_eq → Ge, sortedS → He
open PySem.NameKind renaming free → BK
open True renaming intro → BU
open False renaming elim → Bb
open PySem.Builtin.SmallTypes renaming nextOf → Be, ownedTupleIsFree → Bx, ownedTupleHandOut → Di
open Option renaming map_eq_some_iff → Bf, isSome_iff_exists → CI, bind_eq_some_iff → CQ, map_some → En, isSome_map → FW, none → Gx, bind_eq_bind → HB, some → Hr
open PySem.Builtin.List renaming listExtendWith → Bk, listTooLong → CK, listSameRef → C0, listLengthHint → DN, listItems → GH
open PyProof.Rows.F renaming plain_set_update_loop → Bs, entry_set_update_loop → Dh
open PySem.SetTable renaming grown → Bw, below → Ce, relaid → Hu
open PySem.Around renaming under_plainId → B5, frames_deeper → Gs
open List.Pairwise renaming sublist → CD
open PySem.Str renaming ofString → CJ
open PySem.Calls renaming spliced_cons → Cb, callWith_builtin → C_, evalArgs_plain → DS, spliced_nil → D_, Name_function_global → E5, call_function_entry → FN
open PySem.SeqAt renaming EqAt → Cc, RcAt → Hx
open PySem.Builtin.Slice renaming slicePlaces → Ck, sliceAdjust → Dd, sliceApplied → E8
open PySem.Unicode renaming upperOf → Co
open PySem.Builtin.Tuple renaming tupleExact → Cy, tupleItemsOf → E9
open Ne renaming symm → C1
open PySem.Builtin.Dict renaming updateFrom → C6, selfAndRest → Fj
open List.Nodup renaming length_le_of_subset → C7
open ForInStep renaming yield → DE
open PySem.Obj renaming mapSeq → DT, putSet → FF
open Nat.succ renaming inj → DV
open PySem.Heap.SameBut renaming update → Dg
open PySem.BindsTo renaming of_defaults → Dj
open PySem.Heap.DictOf renaming new → Ep
open PySem.Builtin.Str renaming tooLong → Ex, occurrences → Fy
open PyProof renaming noPylong_of_log2 → Ff
open Prod.mk renaming injEq → Fh
open PySem.Shared renaming TypeIs → Fi
open PySem.SeqAt.EqAt renaming same → GU, none_int → G', int_none → HA, int_str → HL, str_int → HM
open Sum.inr renaming inj → Gi
open PySem.Txt renaming upper → G8
open PySem.Heap.IsSliceOf renaming new → HS
open String renaming splitOnAux → Hh
open PySem.pickOrder renaming go → Hj
open PySem.SetTable.below renaming go → Hk
open PySem.Moved renaming trans → Ho
namespace L2
open PySem PySem.Spec PyProof.Rows
abbrev Key:=Sum Int Str
def oA:Key->Value->Bool
 | .inl k,v=>FQ k v
 | .inr x,v=>HG x v
def ad1(w:World):Key->Int
 | .inl k=>hashInt k
 | .inr x=>hashStr w x
theorem cI:∀{k:Key} {v:Value},oA k v=true->(∃i t,k=Du i/\v=Fm i t)∨(∃x t,k=Am x/\v=ES x t)
 | .inl i,v,h=>by
  obtain⟨t,e⟩:=Value.isInt_shape (k:=i) (v:=v) h
  exact .inl ⟨i,t,rfl,e⟩
 | .inr x,v,h=>by
  obtain⟨t,e⟩:=G9 (x:=x) (v:=v) h
  exact .inr ⟨x,t,rfl,e⟩
theorem NH(i:Int)(t:Tok):oA (.inl i) (.int i t)=true:=by simp[oA,FQ]
theorem NI(x:Str)(t:Tok):oA (.inr x) (.str x t)=true:=by simp[oA,HG]
theorem Wz(a b:Int):decide ((Du a:Key)=Du b)=(a == b):=by
 by_cases e:a=b
 ·subst e;simp
 ·have h:¬(Du a:Key)=Du b:=λq=>e (Sum.inl.inj q)
  rw[decide_eq_false h]
  exact(beq_eq_false_iff_ne.mpr e).symm
theorem WA(a b:Str):decide ((Am a:Key)=Am b)=decide (a=b):=by
 by_cases e:a=b
 ·subst e;simp
 ·have h:¬(Am a:Key)=Am b:=λq=>e (Gi q)
  rw[decide_eq_false h,decide_eq_false e]
theorem WB(a:Int)(b:Str):decide ((Du a:Key)=Am b)=false:=decide_eq_false (λq=>nomatch q)
theorem WC(a:Str)(b:Int):decide ((Am a:Key)=Du b)=false:=decide_eq_false (λq=>nomatch q)
def bf(prog:Ah)(w:World):PySem.KeyKind prog w Key where
 is:=oA
 hash:=ad1 w
 inj:=λv a b ha hb=>by
  rcases cI ha with⟨i,t,rfl,rfl⟩ | ⟨x,t,rfl,rfl⟩
  ·rcases cI hb with⟨j,u,rfl,e⟩ | ⟨y,u,rfl,e⟩
   ·injection e with e1 _;rw[e1]
   ·exact nomatch e
  ·rcases cI hb with⟨j,u,rfl,e⟩ | ⟨y,u,rfl,e⟩
   ·exact nomatch e
   ·injection e with e1 _;rw[e1]
 byValue:=λk v h=>by
  rcases cI h with⟨i,t,rfl,rfl⟩ | ⟨x,t,rfl,rfl⟩<;>rfl
 pyHash:=λhv h=>by
  rcases cI hv with⟨i,t,rfl,rfl⟩ | ⟨x,t,rfl,rfl⟩
  ·exact wpAny_pyHash_int h
  ·exact wpAny_pyHash_str h
 eqBool:=λhu hv h=>by
  rcases cI hu with⟨i,t,rfl,rfl⟩ | ⟨x,t,rfl,rfl⟩
  ·rcases cI hv with⟨j,u,rfl,rfl⟩ | ⟨y,u,rfl,rfl⟩
   ·rw[Wz] at h;exact wpAny_eqBool_int h
   ·rw[WB] at h;exact HL i t y u _ _ _ _ h
  ·rcases cI hv with⟨j,u,rfl,rfl⟩ | ⟨y,u,rfl,rfl⟩
   ·rw[WC] at h;exact HM x t j u _ _ _ _ h
   ·rw[WA] at h;exact wpAny_eqBool_str h
 «strs» :=λk x t v h=>by
  rcases cI h with⟨i,u,rfl,e⟩ | ⟨y,u,rfl,e⟩
  ·exact nomatch e
  ·injection e with e1 _
   subst e1
   cases v<;>rfl
theorem Mc(prog:Ah)(w:World)(k:Key)(v:Value):(bf prog w).is k v=oA k v:=rfl
theorem KA(prog:Ah)(w:World)(i:Int)(t:Tok):(bf prog w).is (.inl i) (.int i t)=true:=NH i t
theorem KC(prog:Ah)(w:World)(x:Str)(t:Tok):(bf prog w).is (.inr x) (.str x t)=true:=NI x t
inductive V where
 | non | bl (b:Bool) | int (i:Int) | str (x:Str) | mY (b:Array UInt8) | flt (b:UInt64) | ref (a:Addr) | ty (n:String)
 deriving DecidableEq
def RelV:V->Value->Prop
 | .non,u=>u=Bz
 | .bl b,u=>u=Hv b
 | .int i,u=>∃t,u=Fm i t
 | .str x,u=>∃t,u=ES x t
 | .mY b,u=>∃t,u=Value.bytes b t
 | .flt b,u=>∃t,u=Value.float b t
 | .ref a,u=>u=BF a
 | .ty n,u=>u=HN n
abbrev Vals:List V->List Value->Prop:=Bl RelV
theorem Vals.length{xs:List V}{us:List Value}(r:Vals xs us):xs.length=us.length:=Ag r
theorem Vals.get:∀{xs:List V} {us:List Value} {i:Nat} {x:V},Vals xs us->xs[i]? =some x->∃u,us[i]? =some u/\RelV x u
 | _,_,_,_,.nil,e=>by simp at e
 | _,_,0,_,.cons r _,e=>by simp at e;subst e;exact⟨_,rfl,r⟩
 | _,_,i+1,x,.cons _ t,e=>by
  obtain⟨u,h1,h2⟩:=Vals.get (i:=i) (x:=x) t (by simpa using e)
  exact⟨u,by simpa using h1,h2⟩
theorem Vals.append:∀{xs ys:List V} {us ws:List Value},Vals xs us->Vals ys ws->Vals (xs++ys) (us++ws)
 | _,_,_,_,.nil,s=>s
 | _,_,_,_,.cons r t,s=>.cons r (Vals.append t s)
theorem Vals.take:∀{xs:List V} {us:List Value} (n:Nat),Vals xs us->Vals (xs.take n) (us.take n)
 | _,_,0,_=>.nil
 | _,_,_+1,.nil=>.nil
 | _,_,n+1,.cons r t=>.cons r (Vals.take n t)
theorem Vals.drop:∀{xs:List V} {us:List Value} (n:Nat),Vals xs us->Vals (xs.drop n) (us.drop n)
 | _,_,0,r=>r
 | _,_,_+1,.nil=>.nil
 | _,_,n+1,.cons _ t=>Vals.drop n t
def iu:Option V->Option Value->Prop
 | some v,some u=>RelV v u
 | none,none=>True
 | _,_=>False
def KV{κ:Type}:List (κ×V)->List (κ×Value)->Prop:=Bl λ(p:κ×V) (q:κ×Value)=>p.1=q.1/\RelV p.2 q.2
def kV:Key->V
 | .inl i=>.int i
 | .inr x=>.str x
inductive HO where
 | lst (xs:List V)
 | tup (xs:List V)
 | dK (kvs:List (Key×V)) | dT (kvs:List (List Key×V))
 | set (S:Int->Bool) (n:Nat)
 | ins (C dx:Addr) (fs:List (Str×V))
 | own (x:Addr)
 | xd (fs:List (Str×V))
 | met (f x:Addr)
 | rng (lo hi:Int)
 | eZ (o:Obj) (u:HO)
 | ke (ps:Array Value)
 | ext (φ:Heap->Prop)
abbrev Hp:=Addr->Option HO
def upd(H:Hp)(a:Addr)(o:HO):Hp:=λb=>if b=a then some o else H b
theorem af{H:Hp}{a:Addr}{o:HO}:upd H a o a=some o:=by unfold upd;rw[if_pos rfl]
theorem aB{H:Hp}{a b:Addr}{o:HO}(h:b≠a):upd H a o b=H b:=by unfold upd;rw[if_neg h]
theorem fE{H:Hp}{a b:Addr}{o u:HO}(h:H a=some o)(h':H b=some u)(d:o≠u):a≠b:=by
 intro e;subst e;rw[h] at h';exact d (AS h')
theorem aA{H:Hp}{a b:Addr}{o:HO}(h:H a=some o)(h':H b=none):a≠b:=by
 intro e;subst e;rw[h] at h';cases h'
section
variable(P:Ah)(w:World)
def bN(H:Hp)(h:Heap)(a:Addr):HO->Prop
 | .lst xs=>xs.length<=sizeLine/\∃(its:List Value) (n:Nat),Vals xs its/\h.get? a=some {cls:=.type "list",data:=.seq its.toArray n}
 | .tup xs=>(xs.length<=sizeLine/\∃o,h.get? a=some o/\o.dict=none)/\∃its:List Value,Vals xs its/\IsTup h a its.toArray
 | .dK kvs=>kvs.length<=sizeLine/\(a == Ba)=false/\∃vs,KV kvs vs/\h.DictOf (bf P w) a vs
 | .dT kvs=>kvs.length<=sizeLine/\(a == Ba)=false/\∃xs:List (List Key×Addr×Value),
   Bl (λ(p:List Key×V) (q:List Key×Addr×Value)=>p.1=q.1/\H q.2.1=some (.tup (p.1.map kV))/\RelV p.2 q.2.2) kvs xs/\
   ∃o es ep,h.get? a=some o/\o.ExactDict/\o.data=.dict es ep/\es.toList=xs.map (entryOfKey (ET (bf P w)))/\(xs.map (·.1)).Nodup
 | .set S n=>h.SetOf (intKind P w) a S n
 | .ins C dx fs=>H dx=some (.own a)/\fs.length<=1000/\dx≠a/\h.get? a=some (GS C dx)/\
   ∃mA,h.Ns1 dx mA/\(∀f,iu (fs.lookup f) (mA f))/\PySem.Within mA (fs.map (·.1))
 | .own _=>∃o,h.get? a=some o
 | .xd fs=>∃mA,h.Ns1 a mA/\∀f,iu (fs.lookup f) (mA f)
 | .rng lo hi=>∃t u v,h.get? a=some {cls:=.type "range",data:=.fields #[.int lo t,.int hi u,.int 1 v]}
 | .eZ o u=>h.get? a=some o/\bN H h a u
 | .ke ps=>h.get? a=some {cls:=.none,data:=.fields ps}
 | .met f x=>h.get? a=some (FR (.ref f) (.ref x))
 | .ext φ=>φ h/\(∃o,h.get? a=some o)/\∀h1 h2:Heap,φ h1->(∀o,h1.get? a=some o->h2.get? a=some o)->φ h2
def dW(H:Hp)(h:Heap):Prop:=∀a o,H a=some o->bN P w H h a o
end
section
variable{P:Ah}{w:World}{H H':Hp}{h h':Heap}{a:Addr}{o:HO}
theorem bN.lt(x:bN P w H h a o):a<h.objs.size:=by
 cases o with
 | lst xs=>obtain⟨_,_,_,_,e⟩:=x;exact AR e
 | tup xs=>obtain⟨_,_,_,p⟩:=x;exact p.lt
 | dK kvs=>obtain⟨_,_,_,_,o,_,_,e,_⟩:=x;exact AR e
 | dT kvs=>obtain⟨_,_,_,_,o,_,_,e,_⟩:=x;exact AR e
 | set S n=>obtain⟨o,_,_,_,e,_⟩:=x;exact AR e
 | ins C dx fs=>obtain⟨_,_,_,e,_⟩:=x;exact AR e
 | own y=>obtain⟨_,e⟩:=x;exact AR e
 | xd fs=>obtain⟨_,⟨_,_,_,e,_⟩,_⟩:=x;exact AR e
 | rng lo hi=>obtain⟨_,_,_,e⟩:=x;exact AR e
 | eZ ob u=>obtain⟨e,_⟩:=x;exact AR e
 | ke ps=>exact AR (show h.get? a=some _ from x)
 | met f y=>exact AR (show h.get? a=some _ from x)
 | ext φ=>obtain⟨_,⟨_,e⟩,_⟩:=x;exact AR e
theorem Paired.rM{α β:Type}{F G:α->β->Prop}:∀{l₁:List α} {l₂:List β},Bl F l₁ l₂->(∀a b,F a b->G a b)->Bl G l₁ l₂
 | _,_,.nil,_=>.nil
 | _,_,.cons r t,f=>.cons (f _ _ r) (Paired.rM t f)
theorem bN.stay(x:bN P w H h a o)(k:∀b u,(b=a∨H b=some (.own a))->h.get? b=some u->h'.get? b=some u)
  (ho:∀b,H b=some (.own a)->H' b=some (.own a)) (ht:∀b xs,H b=some (.tup xs)->H' b=some (.tup xs)):bN P w H' h' a o:=by
 induction o with
 | lst xs=>obtain⟨z,its,n,r,e⟩:=x;exact⟨z,its,n,r,k _ _ (.inl rfl) e⟩
 | tup xs=>obtain⟨⟨z,o2,e2,d2⟩,its,r,ob,e,c⟩:=x;exact⟨⟨z,o2,k _ _ (.inl rfl) e2,d2⟩,its,r,ob,k _ _ (.inl rfl) e,c⟩
 | dK kvs=>obtain⟨z,y,vs,r,ob,es,ep,e,c⟩:=x;exact⟨z,y,vs,r,ob,es,ep,k _ _ (.inl rfl) e,c⟩
 | dT kvs=>
  obtain⟨z,y,xs,r,ob,es,ep,e,c⟩:=x
  exact⟨z,y,xs,Paired.rM r λp q z=>⟨z.1,ht _ _ z.2.1,z.2.2⟩,ob,es,ep,k _ _ (.inl rfl) e,c⟩
 | set S n=>obtain⟨ob,es,ep,t,e,c⟩:=x;exact⟨ob,es,ep,t,k _ _ (.inl rfl) e,c⟩
 | ins C dx fs=>
  obtain⟨d,z,ne,e,mA,⟨od,es,ep,e2,c⟩,r⟩:=x
  exact⟨ho _ d,z,ne,k _ _ (.inl rfl) e,mA,⟨od,es,ep,k _ _ (.inr d) e2,c⟩,r⟩
 | own y=>obtain⟨ob,e⟩:=x;exact⟨ob,k _ _ (.inl rfl) e⟩
 | xd fs=>obtain⟨mA,⟨od,es,ep,e,c⟩,r⟩:=x;exact⟨mA,⟨od,es,ep,k _ _ (.inl rfl) e,c⟩,r⟩
 | rng lo hi=>obtain⟨t,u,v,e⟩:=x;exact⟨t,u,v,k _ _ (.inl rfl) e⟩
 | eZ ob u ih=>obtain⟨e,q⟩:=x;exact⟨k _ _ (.inl rfl) e,ih q⟩
 | ke ps=>
  have e:h.get? a=some {cls:=.none,data:=.fields ps}:=x
  show h'.get? a=some {cls:=.none,data:=.fields ps}
  exact k a _ (.inl rfl) e
 | met f y=>
  have e:h.get? a=some (FR (.ref f) (.ref y)):=x
  show h'.get? a=some (FR (.ref f) (.ref y))
  exact k a _ (.inl rfl) e
 | ext φ=>obtain⟨p,⟨o,e⟩,st⟩:=x;exact⟨st _ _ p λo q=>k _ _ (.inl rfl) q,⟨o,k _ _ (.inl rfl) e⟩,st⟩
theorem dW.lt(x:dW P w H h)(e:H a=some o):a<h.objs.size:=(x a o e).lt
theorem dW.fresh(x:dW P w H h)(e:h.objs.size<=a):H a=none:=by
 cases q:H a with
 | none=>rfl
 | some u=>exact absurd (AX (x.lt q) e) (BQ _)
theorem dW.kept(x:dW P w H h)(k:∀b u,h.get? b=some u->h'.get? b=some u):dW P w H h':=λa o e=>
 (x a o e).stay (λb u _ q=>k b u q) (λ_ q=>q) λ_ _ q=>q
theorem dW.laid(x:dW P w H h)(k:∀b u,h.get? b=some u->h'.get? b=some u)(hp:h.objs.size<=a)(new:bN P w (upd H a o) h' a o):dW P w (upd H a o) h':=λb u e=>by
 have hn:=x.fresh hp
 by_cases hb:b=a
 ·subst hb;rw[af] at e;cases e;exact new
 ·rw[aB hb] at e
  exact(x b u e).stay (λc v _ q=>k c v q) (λc q=>by rw[aB (aA q hn)];exact q) λc xs q=>by rw[aB (aA q hn)];exact q
end
def Rd(H:Hp)(a:Addr)(u:HO):Prop:=H a=some u∨∃o,H a=some (.eZ o u)
theorem Rd.ok{P:Ah}{w:World}{H:Hp}{h:Heap}{a:Addr}{u:HO}(r:Rd H a u)(x:dW P w H h):bN P w H h a u:=by
 rcases r with r | ⟨o,r⟩
 ·exact x a u r
 ·obtain⟨_,q⟩:=x a _ r
  exact q
def NJ:Option HO->Prop
 | some (.lst _)=>True
 | some (.dK _)=>True
 | some (.dT _)=>True
 | some (.set _ _)=>True
 | some (.ins _ _ _)=>True
 | some (.ext _)=>True
 | _=>False
section
variable{P:Ah}{w:World}{H:Hp}{h h':Heap}{x e:Addr}{o':HO}
theorem dW.write(ok:dW P w H h)(mu:NJ (H x))(he:e=x∨H e=some (.own x))(k:∀b u,b≠e->h.get? b=some u->h'.get? b=some u)(heo:∃u,h'.get? e=some u)
  (new:bN P w (upd H x o') h' x o'):dW P w (upd H x o') h':=λb u q=>by
 have WD:∀c y,H c=some (.own y)->c≠x:=λc y r z=>by subst z;rw[r] at mu;exact mu
 have ad2:∀c xs,H c=some (.tup xs)->c≠x:=λc xs r z=>by subst z;rw[r] at mu;exact mu
 by_cases hb:b=x
 ·subst hb;rw[af] at q;cases q;exact new
 ·rw[aB hb] at q
  by_cases hbe:b=e
  ·have q':H b=some (.own x):=by
    rcases he with z | z
    ·exact absurd (hbe.trans z) hb
    ·rw[hbe];exact z
   rw[q] at q';cases q'
   obtain⟨v,hv⟩:=heo
   exact⟨v,by rw[hbe];exact hv⟩
  ·refine(ok b u q).stay (λc v hc r=>k c v ?_ r) (λc r=>by rw[aB (WD c b r)];exact r) λc xs r=>by rw[aB (ad2 c xs r)];exact r
   rcases hc with rfl | hc
   ·exact hbe
   ·rintro rfl
    rcases he with z | z
    ·exact WD c b hc z
    ·rw[hc] at z;cases z;exact hb rfl
end
structure Un (fs ex:List Addr)(H H':Hp)(h h':Heap):Prop where
 keep:∀b o,h.get? b=some o->H b=none->b ∉ fs->b ∉ ex->h'.get? b=some o
 slot:∀b o,h.get? b=some o->H b=none->b∈fs->b ∉ ex->∃sl,h'.get? b=some {o with slots:=sl}
 free:∀b o,h.get? b=some o->H b=none->b ∉ ex->H' b=none
 there:∀b o,h.get? b=some o->b ∉ ex->∃o',h'.get? b=some o'
 tups:∀b xs,H b=some (.tup xs)->H' b=some (.tup xs)
 mZ:∀b o u,H b=some (.eZ o u)->H' b=some (.eZ o u)
 m_:∀b ps,H b=some (.ke ps)->∃more,H' b=some (.ke (ps++more))
section
variable{fs fs' ex ex':List Addr}{H H1 H2:Hp}{h h1 h2 h':Heap}{a x e:Addr}{o:HO}
theorem Un.any(u:Un fs ex H H1 h h1){b:Addr}{ob:Obj}(q:h.get? b=some ob)(n:H b=none)(hx:b ∉ ex):∃sl,h1.get? b=some {ob with slots:=sl}:=by
 by_cases hb:b∈fs
 ·exact u.slot b ob q n hb hx
 ·exact⟨ob.slots,u.keep b ob q n hb hx⟩
theorem Un.kept(k:∀b u,h.get? b=some u->h'.get? b=some u):Un fs ex H H h h':=
 ⟨λb ob q _ _ _=>k b ob q,λb ob q _ _ _=>⟨ob.slots,k b ob q⟩,λ_ _ _ n _=>n,λb ob q _=>⟨ob,k b ob q⟩,λ_ _ q=>q,λ_ _ _ q=>q,λ_ ps q=>⟨#[],by rw[q];simp⟩⟩
theorem Un.refl:Un fs ex H H h h:=Un.kept λ_ _ q=>q
theorem Un.laid(k:∀b u,h.get? b=some u->h'.get? b=some u)(hp:h.objs.size<=a)(hn:H a=none):Un fs ex H (upd H a o) h h' where
 keep:=λb u q _ _ _=>k b u q
 slot:=λb u q _ _ _=>⟨u.slots,k b u q⟩
 free:=λb u q n _=>by rw[aB (Al (AX (AR q) hp))];exact n
 there:=λb u q _=>⟨u,k b u q⟩
 tups:=λb xs q=>by rw[aB (aA q hn)];exact q
 mZ:=λb u xs q=>by rw[aB (aA q hn)];exact q
 m_:=λb ps q=>⟨#[],by rw[aB (aA q hn),q];simp⟩
theorem Un.write(mu:NJ (H x))(he:e=x∨H e=some (.own x))(k:∀b u,b≠e->h.get? b=some u->h'.get? b=some u)(heo:∃u,h'.get? e=some u):Un fs ex H (upd H x o) h h':=by
 have hx:∀b,H b=none->b≠x:=λb n z=>by subst z;rw[n] at mu;exact mu
 have hb:∀b,H b=none->b≠e:=λb n z=>by
  subst z
  rcases he with r | r
  ·exact hx b n r
  ·rw[n] at r;cases r
 have hm:∀b u,H b=some u->¬NJ (some u)->b≠x:=λb u q nm z=>by subst z;rw[q] at mu;exact nm mu
 refine⟨λb u q n _ _=>k b u (hb b n) q,λb u q n _ _=>⟨u.slots,k b u (hb b n) q⟩,λb u q n _=>by rw[aB (hx b n)];exact n,λb u q _=>?_,
  λb xs q=>by rw[aB (hm b _ q λz=>z)];exact q,λb u xs q=>by rw[aB (hm b _ q λz=>z)];exact q,λb ps q=>⟨#[],by rw[aB (hm b _ q λz=>z),q];simp⟩⟩
 by_cases hbe:b=e
 ·subst hbe;exact heo
 ·exact⟨u,k b u hbe q⟩
end
def Tn(h:Heap)(H:Hp):List Addr:=(A9 h.objs.size).filter λa=>(H a).isSome
def m6(h:Heap)(H:Hp):Heap:=PySem.W.hideAll h (Tn h H)
theorem xK(h:Heap)(H:Hp):(m6 h H).objs.size=h.objs.size:=Gj _ _
theorem zG{h:Heap}{H:Hp}{b:Addr}{o:Obj}(e:h.get? b=some o)(n:H b=none):(m6 h H).get? b=some o:=
 G_ _ e λhm=>by
  have q:(H b).isSome=true:=(Ei.mp hm).2
  rw[n] at q;simp at q
theorem K6{h:Heap}{H:Hp}{b:Addr}{o:Obj}(e:(m6 h H).get? b=some o):h.get? b=some o/\H b=none:=by
 have e':h.get? b=some o:=HP (Tn h H) e
 refine⟨e',?_⟩
 cases q:H b with
 | none=>rfl
 | some x=>
  have hm:b∈Tn h H:=Ei.mpr ⟨Bv.mpr (AR e'),by simp[q]⟩
  have z:(m6 h H).get? b=none:=Gk (Tn h H) hm
  rw[z] at e;cases e
structure Mod (K:AB)(mg:Str->Option Value)(base:Heap):Prop where
 t9:K.In base
 glob:base.Ns AY mg
 blt:∃mb,base.Ns GA mb/\∀x:Str,x≠"__name__"->mb x=BN x
 nolimit:base.NoLimit
structure Cx where
 prog:Ah
 w:World
 K:AB
 mg:Str->Option Value
 base:Heap
 A:BB
 N:List Str
 s₀:AN
 H₀:Hp
 env:Env
 outer:List Env
 stack:List Env
 ex:List Addr
 fn:Str->Bool
 calm:Bool
 pn:List (Addr×Obj)
 xe:Value->AN->Prop
def frs(l:List Env):List Addr:=l.filterMap (·.frame)
abbrev Cx.fs (X:Cx):List Addr:=frs X.outer
def K7(sc:Scope)(x:Str):Prop:=sc.names.lookup x=some .local∨sc.names.lookup x=some .cell∨sc.names.lookup x=some .free
def Loc(sc:Scope)(x:Str):Prop:=sc.names.lookup x=some .local∨sc.names.lookup x=some .cell
def Look(env:Env)(h:Heap)(m:Str->Option Value)(x:Str)(u:Value):Prop:=
 (env.kindOf x=some .local/\m x=some u)∨((env.kindOf x=some .cell∨env.kindOf x=some .free)/\∃c,env.cells.lookup x=some c/\h.IsCell c (some u))
structure Cx.Ok (X:Cx):Prop where
 mod:Mod X.K X.mg X.base
 kind:X.env.scope.kind=.function
 glob:X.env.globals=AY
 blt:X.env.builtins=GA
 above:X.s₀.heap.objs.size<=X.env.locals
 inj:∀x y c,X.env.cells.lookup x=some c->X.env.cells.lookup y=some c->x=y
 has:∀x,(X.env.kindOf x=some .cell∨X.env.kindOf x=some .free)->∃c,X.env.cells.lookup x=some c
 cab:∀x c,X.fn x=true->X.env.cells.lookup x=some c->X.s₀.heap.objs.size<=c
 hd:X.calm=true->X.A.handled=none
 frames:X.A.frames=some X.stack
 stk:X.stack=X.outer∨(X.stack=X.env::X.outer/\X.env.frame=some X.env.locals)
 WE:∀b∈X.ex,b≠X.env.locals/\∀x c,X.env.cells.lookup x=some c->c≠b
 bs:∀b o,X.base.get? b=some o->X.s₀.heap.get? b=some o/\X.H₀ b=none
 ua:X.base.objs.size<=X.s₀.heap.objs.size
 zH:∀b o,X.base.get? b=some o->b ∉ X.ex
 zI:∀b∈X.ex,b ∉ X.fs
 kh:X.s₀.heap.FunFrames X.base X.outer
 zJ:∀b∈X.fs,X.H₀ b=none
structure Inv (X:Cx)(pins:List (Addr×Obj))(σ:List (Option V))(H:Hp)(s:AN):Prop where
 ok:X.Ok
 os:s.os=X.s₀.os
 bare:FT s.gens
 base:Un X.fs X.ex X.H₀ H X.s₀.heap s.heap
 loc:∃m,s.heap.Ns X.env.locals m/\∀(i:Nat) (x:Str) (v:V),X.N[i]? =some x->σ[i]? =some (some v)->K7 X.env.scope x->∃u,RelV v u/\Look X.env s.heap m x u
 cell:∀x c,X.env.cells.lookup x=some c->∃v,s.heap.IsCell c v
 free:H X.env.locals=none
 iN:∀x c,X.env.cells.lookup x=some c->H c=none
 pin:∀p∈X.pn++pins,s.heap.get? p.1=some p.2/\H p.1=none/\p.1≠X.env.locals/\p.1 ∉ X.fs/\∀v,p.2.data≠.cell v
 hok:dW X.prog X.w H s.heap
 len:σ.length=X.N.length
section
variable{X:Cx}{pins:List (Addr×Obj)}{σ:List (Option V)}{H H':Hp}{s:AN}{h':Heap}
theorem Cx.Ok.WG(ok:X.Ok){b:Addr}{o:Obj}(e:X.base.get? b=some o):b ∉ X.fs:=λhb=>by
 have:=(ok.kh.mem hb).1
 rw[e] at this;cases this
theorem Inv.bs(I:Inv X pins σ H s):∀b o,X.base.get? b=some o->s.heap.get? b=some o/\H b=none:=λb o e=>
 ⟨I.base.keep b o (I.ok.bs b o e).1 (I.ok.bs b o e).2 (I.ok.WG e) (I.ok.zH b o e),I.base.free b o (I.ok.bs b o e).1 (I.ok.bs b o e).2 (I.ok.zH b o e)⟩
theorem Inv.bk(I:Inv X pins σ H s):∀b o,X.base.get? b=some o->s.heap.get? b=some o:=λb o e=>(I.bs b o e).1
theorem Inv.mod(I:Inv X pins σ H s):Mod X.K X.mg X.base:=I.ok.mod
theorem Inv.i8(I:Inv X pins σ H s):X.K.In s.heap:=I.ok.mod.t9.keeps I.bk
theorem Inv.lt(I:Inv X pins σ H s):X.env.locals<s.heap.objs.size:=let ⟨_,hn,_⟩:=I.loc;hn.lt
theorem Inv.sz(I:Inv X pins σ H s):X.s₀.heap.objs.size<=s.heap.objs.size:=A5 I.ok.above (C8 I.lt)
theorem Inv.ad3(I:Inv X pins σ H s){a:Addr}(h:s.heap.objs.size<=a):a ∉ X.fs:=λhb=>by
 obtain⟨_,o,ho,_⟩:=I.ok.kh.mem hb
 exact absurd (AX (AR ho) (A5 I.sz h)) (BQ _)
theorem Inv.xM(I:Inv X pins σ H s):∀x c,X.env.cells.lookup x=some c->c≠X.env.locals:=λx c e z=>by
 obtain⟨v,o,ho,hd⟩:=I.cell x c e
 obtain⟨m,⟨o',es,ep,ho',hd',_⟩,_⟩:=I.loc
 rw[z,ho'] at ho;cases ho;rw[hd'] at hd;cases hd
theorem Inv.kh(I:Inv X pins σ H s):s.heap.FunFrames X.base X.outer:=by
 have all:∀(l:List Env),(∀b∈frs l,b∈X.fs)->X.s₀.heap.FunFrames X.base l->s.heap.FunFrames X.base l:=by
  intro l
  induction l with
  | nil=>intro _ _;trivial
  | cons env r ih=>
   intro hs hl
   obtain⟨hk,⟨L,o,hf,hn,ho,hd⟩,hr⟩:=hl
   have hL:L∈X.fs:=hs L (by unfold frs;rw[Df,hf];exact AL)
   obtain⟨sl,e⟩:=I.base.slot L o ho (I.ok.zJ L hL) hL λz=>I.ok.zI L z hL
   exact⟨hk,⟨L,_,hf,hn,e,hd⟩,ih (λb hb=>hs b (by unfold frs;rw[Df,hf];exact AJ _ hb)) hr⟩
 exact all X.outer (λ_ hb=>hb) I.ok.kh
theorem Inv.stack(I:Inv X pins σ H s):s.heap.FunFrames X.base X.stack:=by
 rcases I.ok.stk with e | ⟨e,hf⟩
 ·rw[e];exact I.kh
 ·rw[e]
  obtain⟨m,hn,_⟩:=I.loc
  refine .cons (by rw[I.ok.kind];decide) hf hn ?_ I.kh
  exact Heap.get?_none_of_le (A5 I.ok.ua I.ok.above)
theorem Inv.rN(I:Inv X pins σ H s):∀b∈frs X.stack,b∈X.env.locals::X.fs:=λb hb=>by
 rcases I.ok.stk with e | ⟨e,hf⟩
 ·rw[e] at hb;exact AJ _ hb
 ·rw[e] at hb
  unfold frs at hb
  rw[Df,hf] at hb
  exact hb
theorem Inv.pJ(I:Inv X pins σ H s):∀b∈frs X.stack,H b=none:=λb hb=>by
 rcases Ae.mp (I.rN b hb) with e | hb
 ·rw[e];exact I.free
 ·obtain⟨_,o,ho,_⟩:=I.ok.kh.mem hb
  exact I.base.free b o ho (I.ok.zJ b hb) λz=>I.ok.zI b z hb
theorem Inv.step{g':Array Gm}{t':Nat}{d':Drawn}{ch:List Addr}(I:Inv X pins σ H s)
  (hch:∀b∈ch,(b∈X.ex∨X.s₀.heap.objs.size<=b)/\b≠X.env.locals/\(∀x c,X.env.cells.lookup x=some c->c≠b)/\∀p∈X.pn++pins,p.1≠b)
  (keep:∀b o,b≠X.env.locals->b ∉ X.fs->b ∉ ch->s.heap.get? b=some o->H b=none->h'.get? b=some o)
  (slot:∀b o,b≠X.env.locals->b∈X.fs->b ∉ ch->s.heap.get? b=some o->H b=none->∃sl,h'.get? b=some {o with slots:=sl}) (free:∀b o,b ∉ ch->s.heap.get? b=some o->H b=none->H' b=none)
  (there:∀b o,b ∉ ch->s.heap.get? b=some o->∃o',h'.get? b=some o')
  (tups:∀b xs,H b=some (.tup xs)->H' b=some (.tup xs)) (mZ:∀b o u,H b=some (.eZ o u)->H' b=some (.eZ o u)) (m_:∀b ps,H b=some (.ke ps)->∃more,H' b=some (.ke (ps++more)))
  (ns:∀m,s.heap.Ns X.env.locals m->h'.Ns X.env.locals m) (hok:dW X.prog X.w H' h') (hg:FT g'):
  Inv X pins σ H' {s with heap:=h',gens:=g',drawn:=d',toks:=t'}:=by
 have neL:∀b o,X.s₀.heap.get? b=some o->b≠X.env.locals:=λb o e=>Al (AX (AR e) I.ok.above)
 have To:∀b o,X.s₀.heap.get? b=some o->b ∉ X.ex->b ∉ ch:=λb o e hx hb=>by
  rcases(hch b hb).1 with z | z
  ·exact hx z
  ·exact absurd (AX (AR e) z) (BQ _)
 have cellK:∀x c,X.env.cells.lookup x=some c->∀v,s.heap.IsCell c v->h'.IsCell c v:=λx c e v ⟨o,ho,hd⟩=>by
  have rO:c ∉ ch:=λz=>(hch c z).2.2.1 x c e rfl
  by_cases hc:c∈X.fs
  ·obtain⟨sl,q⟩:=slot c o (I.xM x c e) hc rO ho (I.iN x c e)
   exact⟨_,q,hd⟩
  ·exact⟨o,keep c o (I.xM x c e) hc rO ho (I.iN x c e),hd⟩
 refine⟨I.ok,I.os,hg,⟨λb o e n hb hx=>?_,λb o e n hb hx=>?_,λb o e n hx=>?_,λb o e hx=>?_,λb xs e=>tups b xs (I.base.tups b xs e),λb o xs e=>mZ b o xs (I.base.mZ b o xs e),λb ps e=>?_⟩,?_,λx c e=>?_,?_,λx c e=>?_,λp hp=>?_,hok,I.len⟩
 ·exact keep b o (neL b o e) hb (To b o e hx) (I.base.keep b o e n hb hx) (I.base.free b o e n hx)
 ·obtain⟨sl,e1⟩:=I.base.slot b o e n hb hx
  obtain⟨sl',e2⟩:=slot b _ (neL b o e) hb (To b o e hx) e1 (I.base.free b o e n hx)
  exact⟨sl',e2⟩
 ·obtain⟨o',e1⟩:=I.base.there b o e hx
  exact free b o' (To b o e hx) e1 (I.base.free b o e n hx)
 ·obtain⟨o',e1⟩:=I.base.there b o e hx
  exact there b o' (To b o e hx) e1
 ·obtain⟨m1,e1⟩:=I.base.m_ b ps e
  obtain⟨m2,e2⟩:=m_ b _ e1
  exact⟨m1++m2,by rw[e2,Array.append_assoc]⟩
 ·obtain⟨m,hn,hl⟩:=I.loc
  refine⟨m,ns m hn,λi x v e1 e2 e3=>?_⟩
  obtain⟨u,r,l⟩:=hl i x v e1 e2 e3
  refine⟨u,r,?_⟩
  rcases l with l | ⟨k,c,e,z⟩
  ·exact .inl l
  ·exact .inr ⟨k,c,e,cellK x c e _ z⟩
 ·obtain⟨v,z⟩:=I.cell x c e
  exact⟨v,cellK x c e v z⟩
 ·obtain⟨m,⟨o,_,_,ho,_⟩,_⟩:=I.loc
  exact free _ o (λz=>(hch _ z).2.1 rfl) ho I.free
 ·obtain⟨v,o,ho,hd⟩:=I.cell x c e
  exact free c o (λz=>(hch c z).2.2.1 x c e rfl) ho (I.iN x c e)
 ·obtain⟨e,n,ne,nf,d⟩:=I.pin p hp
  have rO:p.1 ∉ ch:=λz=>(hch p.1 z).2.2.2 p hp rfl
  exact⟨keep p.1 p.2 ne nf rO e n,free p.1 p.2 rO e n,ne,nf,d⟩
theorem Inv.un{t':Nat}(I:Inv X pins σ H s)(u:Un X.fs [] H H' s.heap h')(hok:dW X.prog X.w H' h'):Inv X pins σ H' {s with heap:=h',toks:=t'}:=by
 obtain⟨m,⟨o,es,ep,ho,r⟩,_⟩:=id I.loc
 obtain⟨sl,hL⟩:=u.any ho I.free (by simp)
 exact I.step (g':=s.gens) (d':=s.drawn) (ch:=[]) (λ_ z=>nomatch z) (λb o _ hb _ e n=>u.keep b o e n hb (by simp)) (λb o _ hb _ e n=>u.slot b o e n hb (by simp)) (λb o _ e n=>u.free b o e n (by simp)) (λb o _ e=>u.there b o e (by simp)) u.tups u.mZ u.m_ (λm' hm=>by
  obtain⟨o',es',ep',ho',r'⟩:=hm
  rw[ho] at ho';cases ho'
  exact⟨_,es',ep',hL,r'⟩) hok I.bare
theorem Inv.call{g':Array Gm}{t':Nat}{d':Drawn}{ch:List Addr}(I:Inv X pins σ H s)(u:Un (frs X.stack) ch H H' s.heap h')(hok:dW X.prog X.w H' h')(hg:FT g')
  (hch:∀b∈ch,(b∈X.ex∨X.s₀.heap.objs.size<=b)/\b≠X.env.locals/\(∀x c,X.env.cells.lookup x=some c->c≠b)/\∀p∈X.pn++pins,p.1≠b):
  Inv X pins σ H' {s with heap:=h',gens:=g',drawn:=d',toks:=t'}:=by
 obtain⟨m,⟨o,es,ep,ho,r⟩,_⟩:=id I.loc
 obtain⟨sl,hL⟩:=u.any ho I.free λz=>(hch _ z).2.1 rfl
 exact I.step (ch:=ch) hch (λb o hL hb hc e n=>u.keep b o e n (λz=>(Ae.mp (I.rN b z)).elim hL hb) hc) (λb o _ _ hc e n=>u.any e n hc) (λb o hc e n=>u.free b o e n hc) (λb o hc e=>u.there b o e hc) u.tups u.mZ u.m_ (λm' hm=>by
  obtain⟨o',es',ep',ho',r'⟩:=hm
  rw[ho] at ho';cases ho'
  exact⟨_,es',ep',hL,r'⟩) hok hg
theorem Inv.turned{t':Nat}{it:Addr}(I:Inv X pins σ H s)(k:∀b o,b≠it->s.heap.get? b=some o->h'.get? b=some o)(hn:H it=none)(hL:it≠X.env.locals)
  (h1:it∈X.ex∨X.s₀.heap.objs.size<=it) (h2:∀x c,X.env.cells.lookup x=some c->c≠it) (h3:∀p∈X.pn++pins,p.1≠it):Inv X pins σ H {s with heap:=h',toks:=t'}:=by
 have nit:∀b u,H b=some u->b≠it:=λb u e z=>by rw[z,hn] at e;cases e
 refine I.step (g':=s.gens) (d':=s.drawn) (ch:=[it]) (λb hb=>?_) (λb o _ _ hc e _=>k b o (λz=>hc (by simp[z])) e) (λb o _ _ hc e _=>⟨o.slots,k b o (λz=>hc (by simp[z])) e⟩) (λ_ _ _ _ n=>n)
  (λb o hc e=>⟨o,k b o (λz=>hc (by simp[z])) e⟩) (λ_ _ e=>e) (λ_ _ _ e=>e) (λb ps e=>⟨#[],by rw[e];simp⟩) (λm hm=>?_) (λb u e=>?_) I.bare
 ·have e:b=it:=by simpa using hb
  subst e
  exact⟨h1,hL,h2,h3⟩
 ·obtain⟨o,es,ep,ho,r⟩:=hm
  exact⟨o,es,ep,k _ o (C1 hL) ho,r⟩
 ·refine(I.hok b u e).stay (λc v hc q=>k c v ?_ q) (λ_ q=>q) λ_ _ q=>q
  rcases hc with z | z
  ·rw[z];exact nit b u e
  ·exact nit c _ z
theorem Inv.tok(I:Inv X pins σ H s)(t:Nat):Inv X pins σ H {s with toks:=t}:=I.un (h':=s.heap) (t':=t) Un.refl I.hok
theorem Inv.kept{t':Nat}(I:Inv X pins σ H s)(k:∀b u,s.heap.get? b=some u->h'.get? b=some u):Inv X pins σ H {s with heap:=h',toks:=t'}:=I.un (Un.kept k) (I.hok.kept k)
theorem Inv.laid{a:Addr}{o:HO}{t':Nat}(I:Inv X pins σ H s)(k:∀b u,s.heap.get? b=some u->h'.get? b=some u)(hp:s.heap.objs.size<=a)(new:bN X.prog X.w (upd H a o) h' a o):
  Inv X pins σ (upd H a o) {s with heap:=h',toks:=t'}:=I.un (Un.laid k hp (I.hok.fresh hp)) (I.hok.laid k hp new)
theorem Inv.write{x e:Addr}{o:HO}{t':Nat}(I:Inv X pins σ H s)(mu:NJ (H x))(he:e=x∨H e=some (.own x))(k:∀b u,b≠e->s.heap.get? b=some u->h'.get? b=some u)(heo:∃u,h'.get? e=some u)
  (new:bN X.prog X.w (upd H x o) h' x o):Inv X pins σ (upd H x o) {s with heap:=h',toks:=t'}:=I.un (Un.write mu he k heo) (I.hok.write mu he k heo new)
theorem Inv.K8{Tp:List (Addr×Obj)}(I:Inv X pins σ H s)(h:∀p∈Tp,s.heap.get? p.1=some p.2/\H p.1=none/\p.1≠X.env.locals/\p.1 ∉ X.fs/\∀v,p.2.data≠.cell v):Inv X Tp σ H s:=
 ⟨I.ok,I.os,I.bare,I.base,I.loc,I.cell,I.free,I.iN,λp hp=>(Ac.mp hp).elim (λz=>I.pin p (Gn _ z)) (h p),I.hok,I.len⟩
theorem zK{N:List Str}(hN:N.Nodup){i j:Nat}{x:Str}(a:N[i]? =some x)(b:N[j]? =some x):i=j:=by
 obtain⟨h1,e1⟩:=AF.mp a
 obtain⟨h2,e2⟩:=AF.mp b
 exact(List.getElem_inj hN).mp (e1.trans e2.symm)
theorem xN{M:Model}{A:BB}{E:Value->AN->Prop}{i:Nat}{x:Str}{v:V}{u:Value}{Q:Unit->AN->Prop}(I:Inv X pins σ H s)(hN:X.N.Nodup)(hi:X.N[i]? =some x)(hx:Loc X.env.scope x)(r:RelV v u)
  (h:∀s',Inv X pins (σ.set i (some v)) H s'->(∃a,C9 a s.heap s'.heap/\(a=X.env.locals∨X.env.cells.lookup x=some a))->Q () s') (hf:X.fn x=true∨X.env.scope.names.lookup x=some .local:=by first | exact .inl rfl | exact .inr rfl | assumption):wpAny M A (storeName X.env x u) Q E s:=by
 obtain⟨m,hn,hl⟩:=id I.loc
 have hcls:(X.env.scope.kind == .class||(X.env.scope.kind == .module&&X.env.locals != X.env.globals))=false:=by rw[I.ok.kind];rfl
 have hiσ:i<σ.length:=by rw[I.len];exact(AF.mp hi).1
 have xM:=I.xM
 have tracked:∀{a:Addr} {h':Heap},(∃o,s.heap.get? a=some o/\H a=none)->C9 a s.heap h'->dW X.prog X.w H h':=λ{a h'} ha hs b ob e=>by
  obtain⟨_,_,hfree⟩:=ha
  refine(I.hok b ob e).stay (λc w' hc q=>(hs.2 c ?_).trans q) (λ_ q=>q) λ_ _ q=>q
  rintro rfl
  rcases hc with rfl | hc
  ·rw[hfree] at e;cases e
  ·rw[hfree] at hc;cases hc
 rcases hx with hk | hk
 ·refine wpAny_storeName_local hk hn (λh' hn' hs=>?_) hcls
  obtain⟨oL,_,_,hoL,_⟩:=id hn
  refine h _ ⟨I.ok,I.os,I.bare,⟨λb o e n hb hx=>?_,λb o e n hb hx=>?_,I.base.free,λb o e hx=>?_,I.base.tups,I.base.mZ,I.base.m_⟩,⟨_,hn',λj y v' e1 e2 e3=>?_⟩,λy c e=>?_,I.free,I.iN,λp hp=>?_,tracked ⟨oL,hoL,I.free⟩ hs,by simpa using I.len⟩ ⟨_,hs,.inl rfl⟩
  ·exact(hs.2 b (Al (AX (AR e) I.ok.above))).trans (I.base.keep b o e n hb hx)
  ·obtain⟨sl,e1⟩:=I.base.slot b o e n hb hx
   exact⟨sl,(hs.2 b (Al (AX (AR e) I.ok.above))).trans e1⟩
  ·obtain⟨o',e1⟩:=I.base.there b o e hx
   exact⟨o',(hs.2 b (Al (AX (AR e) I.ok.above))).trans e1⟩
  ·by_cases hj:j=i
   ·subst hj
    rw[hi] at e1;cases e1
    rw[GB hiσ] at e2
    cases e2
    exact⟨u,r,.inl ⟨hk,by simp⟩⟩
   ·rw[Gp (C1 hj)] at e2
    obtain⟨u',r',q⟩:=hl j y v' e1 e2 e3
    refine⟨u',r',?_⟩
    rcases q with⟨k,e⟩ | ⟨k,c,e,z⟩
    ·refine .inl ⟨k,?_⟩
     have:y≠x:=λe=>hj (zK hN e1 (e▸hi))
     simp[this,e]
    ·exact .inr ⟨k,c,e,z.sameBut hs (xM y c e)⟩
  ·obtain⟨w',z⟩:=I.cell y c e
   exact⟨w',z.sameBut hs (xM y c e)⟩
  ·obtain⟨e,n,ne,nf,d⟩:=I.pin p hp
   exact⟨(hs.2 p.1 ne).trans e,n,ne,nf,d⟩
 ·have hfn:X.fn x=true:=by
   rcases hf with z | z
   ·exact z
   ·rw[z] at hk;cases hk
  obtain⟨c,hc⟩:=I.ok.has x (.inl hk)
  obtain⟨w',z⟩:=I.cell x c hc
  refine wpAny_storeName_cell I.ok.kind hk hc z (λh' hc' hs=>?_)
  obtain⟨oc,hoc,ad4⟩:=id z
  refine h {s with heap:=h'} ⟨I.ok,I.os,I.bare,⟨λb o e n hb hx=>?_,λb o e n hb hx=>?_,I.base.free,λb o e hx=>?_,I.base.tups,I.base.mZ,I.base.m_⟩,⟨m,hn.sameBut hs (C1 (xM x c hc)),λj y v' e1 e2 e3=>?_⟩,λy c' e=>?_,I.free,I.iN,λp hp=>?_,tracked ⟨oc,hoc,I.iN x c hc⟩ hs,by simpa using I.len⟩ ⟨c,hs,.inr hc⟩
  ·exact(hs.2 b (Al (AX (AR e) (I.ok.cab x c hfn hc)))).trans (I.base.keep b o e n hb hx)
  ·obtain⟨sl,e1⟩:=I.base.slot b o e n hb hx
   exact⟨sl,(hs.2 b (Al (AX (AR e) (I.ok.cab x c hfn hc)))).trans e1⟩
  ·obtain⟨o',e1⟩:=I.base.there b o e hx
   exact⟨o',(hs.2 b (Al (AX (AR e) (I.ok.cab x c hfn hc)))).trans e1⟩
  ·by_cases hj:j=i
   ·subst hj
    rw[hi] at e1;cases e1
    rw[GB hiσ] at e2
    cases e2
    exact⟨u,r,.inr ⟨.inl hk,c,hc,hc'⟩⟩
   ·rw[Gp (C1 hj)] at e2
    obtain⟨u',r',q⟩:=hl j y v' e1 e2 e3
    refine⟨u',r',?_⟩
    rcases q with q | ⟨k,c',e,z'⟩
    ·exact .inl q
    ·refine .inr ⟨k,c',e,z'.sameBut hs ?_⟩
     rintro rfl
     exact hj (zK hN e1 (I.ok.inj _ _ _ e hc▸hi))
  ·by_cases hcc:c'=c
   ·subst hcc;exact⟨_,hc'⟩
   ·obtain⟨w2,z2⟩:=I.cell y c' e
    exact⟨w2,z2.sameBut hs hcc⟩
  ·obtain⟨e,n,ne,nf,d⟩:=I.pin p hp
   refine⟨(hs.2 p.1 ?_).trans e,n,ne,nf,d⟩
   intro q
   rw[q,hoc] at e
   have q':oc=p.2:=AS e
   exact d w' (by rw[<-q'];exact ad4)
theorem zL{M:Model}{A:BB}{E:Value->AN->Prop}{i:Nat}{x:Str}{v:V}{u:Value}{Q:Unit->AN->Prop}(I:Inv X pins σ H s)(hN:X.N.Nodup)(hi:X.N[i]? =some x)(hx:Loc X.env.scope x)(r:RelV v u)
  (h:∀s',Inv X pins (σ.set i (some v)) H s'->Q () s') (hf:X.fn x=true∨X.env.scope.names.lookup x=some .local:=by first | exact .inl rfl | exact .inr rfl | assumption):wpAny M A (storeName X.env x u) Q E s:=
 xN I hN hi hx r (λs' I' _=>h s' I') hf
theorem Inv.call'{s':AN}{ch:List Addr}(I:Inv X pins σ H s)(ho:s'.os=s.os)(u:Un (frs X.stack) ch H H' s.heap s'.heap)(hok:dW X.prog X.w H' s'.heap)(hg:FT s'.gens)
  (hch:∀b∈ch,(b∈X.ex∨X.s₀.heap.objs.size<=b)/\b≠X.env.locals/\(∀x c,X.env.cells.lookup x=some c->c≠b)/\∀p∈X.pn++pins,p.1≠b):Inv X pins σ H' s':=by
 obtain⟨h',g',d',t',o'⟩:=s'
 have e:o'=s.os:=ho
 subst e
 exact I.call (g':=g') (t':=t') (d':=d') u hok hg hch
end
abbrev XK:=Value->Option Addr->Hp->Prop
abbrev St:=List (Option V)
abbrev VK:=V->Hp->Prop
abbrev TE:=St->Hp->VK->Prop
abbrev TT:=St->Hp->(Bool->Hp->Prop)->Prop
abbrev TA:=St->Hp->(List V->Hp->Prop)->Prop
structure Ends where
 nx:St->Hp->Prop
 rt:VK
 bk:St->Hp->Prop:=λ_ _=>False
 ct:St->Hp->Prop:=λ_ _=>False
abbrev TS:=Ends->St->Hp->Prop
def EP(X:Cx)(pins:List (Addr×Obj))(σ:St)(Q:VK)(u:Value)(s':AN):Prop:=∃v H',Inv X pins σ H' s'/\RelV v u/\Q v H'
def TP(X:Cx)(pins:List (Addr×Obj))(σ:St)(Q:Bool->Hp->Prop)(b:Bool)(s':AN):Prop:=∃H',Inv X pins σ H' s'/\Q b H'
def AP(X:Cx)(pins:List (Addr×Obj))(σ:St)(Q:List V->Hp->Prop)(us:List Value)(s':AN):Prop:=∃vs H',Inv X pins σ H' s'/\Vals vs us/\Q vs H'
def SP(X:Cx)(pins:List (Addr×Obj))(D:Ends)(f:Flow)(s':AN):Prop:=
 match f with
 | .next=>∃σ' H',Inv X pins σ' H' s'/\D.nx σ' H'
 | .brk=>∃σ' H',Inv X pins σ' H' s'/\D.bk σ' H'
 | .cont=>∃σ' H',Inv X pins σ' H' s'/\D.ct σ' H'
 | .ret u=>∃v σ' H',Inv X pins σ' H' s'/\RelV v u/\D.rt v H'
def PE(X:Cx)(e:Expr)(t:TE):Prop:=
 ∀(pins:List (Addr×Obj)) (s:AN) (σ:St) (H:Hp) (Q:VK),Inv X pins σ H s->t σ H Q->wpAny (model X.prog X.w) X.A (eval e X.env) (EP X pins σ Q) X.xe s
def PT(X:Cx)(e:Expr)(t:TT):Prop:=
 ∀(pins:List (Addr×Obj)) (s:AN) (σ:St) (H:Hp) (Q:Bool->Hp->Prop),Inv X pins σ H s->t σ H Q->wpAny (model X.prog X.w) X.A (isTrue e X.env (eval e X.env)) (TP X pins σ Q) X.xe s
def PW(X:Cx)(e:Expr)(t:TT):Prop:=
 ∀(whole:Sem Value) (pins:List (Addr×Obj)) (s:AN) (σ:St) (H:Hp) (Q:Bool->Hp->Prop),Inv X pins σ H s->t σ H Q->wpAny (model X.prog X.w) X.A (isTrue e X.env whole) (TP X pins σ Q) X.xe s
theorem PW.pt{X:Cx}{e:Expr}{t:TT}(h:PW X e t):PT X e t:=h _
def PA(X:Cx)(es:List Expr)(t:TA):Prop:=
 ∀(pos:Pos) (pins:List (Addr×Obj)) (s:AN) (σ:St) (H:Hp) (Q:List V->Hp->Prop),Inv X pins σ H s->t σ H Q->wpAny (model X.prog X.w) X.A (spliced (D8 pos (BE es X.env))) (AP X pins σ Q) X.xe s
def PS(X:Cx)(st:Stmt)(t:TS):Prop:=
 ∀(pins:List (Addr×Obj)) (s:AN) (σ:St) (H:Hp) (D:Ends),Inv X pins σ H s->t D σ H->wpAny (model X.prog X.w) X.A (exec st X.env) (SP X pins D) X.xe s
def oB(X:Cx)(st:List Stmt)(t:TS):Prop:=
 ∀(pins:List (Addr×Obj)) (s:AN) (σ:St) (H:Hp) (D:Ends),Inv X pins σ H s->t D σ H->wpAny (model X.prog X.w) X.A (execs st X.env) (SP X pins D) X.xe s
theorem aQ{α:Type}{t:Sem α}{Q Q':α->AN->Prop}{M:Model}{A:BB}{E:Value->AN->Prop}{s:AN}(h:wpAny M A t Q E s)(hQ:∀a s,Q a s->Q' a s):wpAny M A t Q' E s:=B0 h hQ λ_ _ x=>x
section
variable{X:Cx}
inductive aaY (i:Nat)(σ:St)(H:Hp)(Q:VK):Prop where
 | mk (v:V) (cD:σ[i]? =some (some v)) (cE:Q v H)
def Md(i:Nat):TE:=λσ H Q=>aaY i σ H Q
def tC(v:V):TE:=λ_ H Q=>Q v H
theorem WH{i:Nat}{x:Str}{pos:Pos}(hN:X.N[i]? =some x)(hv:K7 X.env.scope x)(hd:(x == ("__debug__":Str))=false:=by decide)(hcd:(x == ("__classdict__":Str))=false:=by decide):PE X (.Name x pos) (Md i):=by
 intro pins s σ H Q I h
 obtain⟨v,e,h⟩:=h
 obtain⟨m,hn,hl⟩:=I.loc
 obtain⟨u,r,l⟩:=hl i x v hN e hv
 have fin:EP X pins σ Q u s:=⟨v,H,I,r,h⟩
 rcases l with⟨hk,hm⟩ | ⟨hk,c,hc,hcell⟩
 ·exact E4 (wpAny_loadName_local I.ok.kind hk hn hm fin) hd
 ·rcases hk with hk | hk
  ·exact E4 (wpAny_loadName_cell I.ok.kind hk hc hcell fin) hd
  ·exact E4 (wpAny_loadName_free I.ok.kind hk hc hcell fin hcd) hd
theorem ai{i j pos}:PE X (.Constant (.int i) j pos) (tC (.int i)):=λ_ _ _ H _ I h=>wpAny_Constant_int ⟨.int i,H,I.tok _,⟨_,rfl⟩,h⟩
theorem Me{b j pos}:PE X (.Constant (.bool b) j pos) (tC (.bl b)):=λ_ _ _ H _ I h=>Constant_bool ⟨.bl b,H,I,rfl,h⟩
theorem pK{j pos}:PE X (.Constant .none j pos) (tC .non):=λ_ _ _ H _ I h=>Constant_none ⟨.non,H,I,rfl,h⟩
theorem aX{x j pos}:PE X (.Constant (.str x) j pos) (tC (.str x)):=λ_ _ _ H _ I h=>Calls.Constant_str ⟨.str x,H,I.tok _,⟨_,rfl⟩,h⟩
def Gl(X:Cx)(x:Str):Prop:=X.env.kindOf x=some .globalImplicit
theorem wK{E:Value->AN->Prop}{pins:List (Addr×Obj)}{s:AN}{σ:St}{H:Hp}{x:Str}{u:Value}{pos:Pos}{Q:Value->AN->Prop}(I:Inv X pins σ H s)(hg:Gl X x)(hm:X.mg x=some u)(h:Q u s)
  (hd:(x == ("__debug__":Str))=false:=by decide):wpAny (model X.prog X.w) X.A (eval (.Name x pos) X.env) Q E s:=
 E5 I.ok.kind hg (Calls.loadGlobal_global (by rw[I.ok.glob];exact I.mod.glob.keeps I.bk) hm h) hd
theorem i9{E:Value->AN->Prop}{pins:List (Addr×Obj)}{s:AN}{σ:St}{H:Hp}{x:Str}{u:Value}{pos:Pos}{Q:Value->AN->Prop}(I:Inv X pins σ H s)(hg:Gl X x)(hm:X.mg x=none)(hv:BN x=some u)(h:Q u s)
  (hn:x≠"__name__":=by decide) (hd:(x == ("__debug__":Str))=false:=by decide):wpAny (model X.prog X.w) X.A (eval (.Name x pos) X.env) Q E s:=by
 obtain⟨mb,h1,h2⟩:=I.mod.blt
 exact E5 I.ok.kind hg (Calls.loadGlobal_builtin (by rw[I.ok.glob];exact I.mod.glob.keeps I.bk) hm (by rw[I.ok.blt];exact h1.keeps I.bk) ((h2 x hn).trans hv) h) hd
theorem wL{x:Str}{v:V}{u:Value}{pos:Pos}(hg:Gl X x)(hm:X.mg x=none)(hv:BN x=some u)(r:RelV v u)(hn:x≠"__name__":=by decide)(hd:(x == ("__debug__":Str))=false:=by decide):PE X (.Name x pos) (tC v):=
 λ_ _ _ H _ I h=>i9 I hg hm hv ⟨v,H,I,r,h⟩ hn hd
variable{a b:Expr}{ta tb:TE}{pos:Pos}
def PC(X:Cx)(op:CmpOp)(a b:Expr)(t:TE):Prop:=
 ∀(pins:List (Addr×Obj)) (s:AN) (σ:St) (H:Hp) (Q:VK),Inv X pins σ H s->t σ H Q->
  wpAny (model X.prog X.w) X.A (eval a X.env) (λv s₁=>wpAny (model X.prog X.w) X.A (eval b X.env) (λu s₂=>wpAny (model X.prog X.w) X.A (Bu op v u) (EP X pins σ Q) X.xe s₂) X.xe s₁) X.xe s
def tB(t:TE):TT:=λσ H Q=>t σ H λx H1=>∃c,x=.bl c/\Q c H1
theorem WI{op:CmpOp}{t:TE}(h:PC X op a b t)(h1:behindInMarks op b=false:=by first | exact ad5 _ (by decide) (by decide) | rfl):PT X (.Compare a [op] [b] pos) (tB t):=by
 intro pins s σ H Q I hw
 refine wpAny_isTrue_Compare1 (aQ (h pins s σ H _ I hw) λv s1 h1=>aQ h1 λu s2 h2=>aQ h2 λc s3 ⟨x,H1,I1,r1,q1⟩=>?_) h1
 obtain⟨d,rfl,q⟩:=q1
 cases r1
 exact DM ⟨H1,I1,q⟩
variable{tA Tq:TT}{rest:List Expr}
def ad6(t u:TT):TT:=λσ H Q=>t σ H λc H1=>if c=true then u σ H1 Q else Q false H1
def tOr(t u:TT):TT:=λσ H Q=>t σ H λc H1=>if c=true then Q true H1 else u σ H1 Q
def ad7(t:TT):TT:=λσ H Q=>t σ H λc H1=>Q (!c) H1
theorem Vp(ha:PT X a tA):PW X (.BoolOp .And [a] pos) tA:=by
 intro wh pins s σ H Q I h
 refine isTrue_and (aQ (ha pins s σ H Q I h) λc s1 e=>?_)
 cases c with
 | true=>exact isTrue_and_nil e
 | false=>exact e
theorem zM(ha:PT X a tA):PW X (.BoolOp .Or [a] pos) tA:=by
 intro wh pins s σ H Q I h
 refine isTrue_or (aQ (ha pins s σ H Q I h) λc s1 e=>?_)
 cases c with
 | false=>exact isTrue_or_nil e
 | true=>exact e
theorem WJ(ha:PT X a tA)(hb:PW X (.BoolOp .And (b::rest) pos) Tq):PW X (.BoolOp .And (a::b::rest) pos) (ad6 tA Tq):=by
 intro wh pins s σ H Q I h
 refine isTrue_and (aQ (ha pins s σ H _ I h) ?_)
 rintro c s1 ⟨H1,I1,q1⟩
 cases c with
 | true=>exact hb wh pins s1 σ H1 Q I1 q1
 | false=>exact⟨H1,I1,q1⟩
theorem Mf(ha:PT X a tA)(hb:PW X (.BoolOp .Or (b::rest) pos) Tq):PW X (.BoolOp .Or (a::b::rest) pos) (tOr tA Tq):=by
 intro wh pins s σ H Q I h
 refine isTrue_or (aQ (ha pins s σ H _ I h) ?_)
 rintro c s1 ⟨H1,I1,q1⟩
 cases c with
 | true=>exact⟨H1,I1,q1⟩
 | false=>exact hb wh pins s1 σ H1 Q I1 q1
theorem WK(ha:PT X a tA):PT X (.UnaryOp .Not a pos) (ad7 tA):=by
 intro pins s σ H Q I h
 exact isTrue_not (ha pins s σ H (λc H1=>Q (!c) H1) I h)
end
def bM(K:AB)(H:Hp)(a:Addr)(xs:List V):Prop:=
 Rd H a (.lst xs)∨
  ∃(o:Obj) (its:Array Value) (n:Nat),K.lookup a=some o/\o.cls=.type "list"/\o.dict=none/\o.data=.seq its n/\its.size<=sizeLine/\Vals xs its.toList
def bF(K:AB)(H:Hp)(a:Addr)(xs:List V):Prop:=
 Rd H a (.tup xs)∨
  ∃(o:Obj) (its:Array Value) (n:Nat),K.lookup a=some o/\o.cls=.type "tuple"/\o.data=.seq its n/\its.size<=sizeLine/\Vals xs its.toList
def ad8:Value->Option V
 | .none=>some .non
 | .bool b=>some (.bl b)
 | .int i _=>some (.int i)
 | .str x _=>some (.str x)
 | .bytes b _=>some (.mY b)
 | .float b _=>some (.flt b)
 | .ref a=>some (.ref a)
 | .type n=>some (.ty n)
 | _=>none
theorem RelV.abs{x:V}{u:Value}(r:RelV x u):ad8 u=some x:=by
 cases x with
 | non=>cases r;rfl
 | bl _=>cases r;rfl
 | int _=>obtain⟨t,rfl⟩:=r;rfl
 | str _=>obtain⟨t,rfl⟩:=r;rfl
 | mY _=>obtain⟨t,rfl⟩:=r;rfl
 | flt _=>obtain⟨t,rfl⟩:=r;rfl
 | ref _=>cases r;rfl
 | ty _=>cases r;rfl
theorem RelV.inj{x y:V}{u:Value}(r:RelV x u)(q:RelV y u):x=y:=AS (r.abs.symm.trans q.abs)
theorem Vals.inj:∀{xs ys:List V} {us:List Value},Vals xs us->Vals ys us->xs=ys
 | _,_,_,.nil,.nil=>rfl
 | _,_,_,.cons r t,.cons r' t'=>by rw[r.inj r',Vals.inj t t']
section
variable{X:Cx}{pins:List (Addr×Obj)}{σ:St}{H:Hp}{s:AN}{a:Addr}{xs ys:List V}
theorem bM.of{K:AB}(h:H a=some (.lst xs)):bM K H a xs:=.inl (.inl h)
theorem bF.of{K:AB}(h:H a=some (.tup xs)):bF K H a xs:=.inl (.inl h)
theorem Inv.list(I:Inv X pins σ H s)(h:bM X.K H a xs):∃its:List Value,Vals xs its/\PlainL s.heap a its.toArray/\xs.length<=sizeLine:=by
 rcases h with h | ⟨o,its,n,hk,hc,hd,hs,hz,r⟩
 ·obtain⟨z,its,n,r,e⟩:=h.ok I.hok
  exact⟨its,r,⟨_,n,e,rfl,rfl,rfl⟩,z⟩
 ·refine⟨its.toList,r,⟨o,n,I.i8 a o hk,hc,hd,by simpa using hs⟩,?_⟩
  have e:=r.length
  simp only[A_] at e
  omega
theorem Inv.tuple(I:Inv X pins σ H s)(h:bF X.K H a xs):∃its:List Value,Vals xs its/\IsTup s.heap a its.toArray/\xs.length<=sizeLine:=by
 rcases h with h | ⟨o,its,n,hk,hc,hs,hz,r⟩
 ·obtain⟨z,its,r,p⟩:=h.ok I.hok
  exact⟨its,r,p,z.1⟩
 ·refine⟨its.toList,r,⟨o,I.i8 a o hk,hc,n,by simpa using hs⟩,?_⟩
  have e:=r.length
  simp only[A_] at e
  omega
theorem Inv.ki(I:Inv X pins σ H s)(h:bM X.K H a xs)(h':bM X.K H a ys):xs=ys:=by
 obtain⟨its,r,⟨o,n,e,_,_,d⟩,_⟩:=I.list h
 obtain⟨its',r',⟨o',n',e',_,_,d'⟩,_⟩:=I.list h'
 rw[e] at e';cases e'
 rw[d] at d'
 injection d' with d1 _
 have:its=its':=by simpa using congrArg HX d1
 subst this
 exact r.inj r'
theorem Inv.rP(I:Inv X pins σ H s)(h:bF X.K H a xs)(h':bF X.K H a ys):xs=ys:=by
 obtain⟨its,r,⟨o,e,_,n,d⟩,_⟩:=I.tuple h
 obtain⟨its',r',⟨o',e',_,n',d'⟩,_⟩:=I.tuple h'
 rw[e] at e';cases e'
 rw[d] at d'
 injection d' with d1 _
 have:its=its':=by simpa using congrArg HX d1
 subst this
 exact r.inj r'
end
abbrev Cx.wish (X:Cx)(E:Value->AN->Prop):Cx:={X with xe:=E}
abbrev Cx.ub (X:Cx):Cx:=X.wish λ_ _=>False
theorem Cx.Ok.wish{X:Cx}(ok:X.Ok)(E:Value->AN->Prop):(X.wish E).Ok:=
 ⟨ok.mod,ok.kind,ok.glob,ok.blt,ok.above,ok.inj,ok.has,ok.cab,ok.hd,ok.frames,ok.stk,ok.WE,ok.bs,ok.ua,ok.zH,ok.zI,ok.kh,ok.zJ⟩
theorem Cx.Ok.jP{X:Cx}{E:Value->AN->Prop}(ok:(X.wish E).Ok):X.Ok:=
 ⟨ok.mod,ok.kind,ok.glob,ok.blt,ok.above,ok.inj,ok.has,ok.cab,ok.hd,ok.frames,ok.stk,ok.WE,ok.bs,ok.ua,ok.zH,ok.zI,ok.kh,ok.zJ⟩
section
variable{X:Cx}{pins:List (Addr×Obj)}{σ:St}{H:Hp}{s:AN}{E:Value->AN->Prop}
theorem Inv.wish(I:Inv X pins σ H s)(E:Value->AN->Prop):Inv (X.wish E) pins σ H s:=⟨I.ok.wish E,I.os,I.bare,I.base,I.loc,I.cell,I.free,I.iN,I.pin,I.hok,I.len⟩
theorem Inv.jP(I:Inv (X.wish E) pins σ H s):Inv X pins σ H s:=⟨I.ok.jP,I.os,I.bare,I.base,I.loc,I.cell,I.free,I.iN,I.pin,I.hok,I.len⟩
theorem SP.jP{D:Ends}{f:Flow}{s':AN}(h:SP (X.wish E) pins D f s'):SP X pins D f s':=by
 cases f with
 | next=>obtain⟨σ',H',I,q⟩:=h;exact⟨σ',H',I.jP,q⟩
 | brk=>obtain⟨σ',H',I,q⟩:=h;exact⟨σ',H',I.jP,q⟩
 | cont=>obtain⟨σ',H',I,q⟩:=h;exact⟨σ',H',I.jP,q⟩
 | ret u=>obtain⟨v,σ',H',I,r,q⟩:=h;exact⟨v,σ',H',I.jP,r,q⟩
theorem oB.ub{st:List Stmt}{t:TS}(h:oB X.ub st t):oB X st t:=λpins s σ H D I hw=>
 B0 (h pins s σ H D (I.wish _) hw) (λ_ _ q=>q.jP) λ_ _ z=>Bb z
end
section
variable{X:Cx}{st:Stmt}{rest:List Stmt}{t u:TS}{e:Expr}{te:TE}{pos:Pos}
def tN:TS:=λD σ H=>D.nx σ H
def qh(t u:TS):TS:=λD σ H=>t {D with nx:=u D} σ H
theorem bG:oB X [] tN:=λ_ _ σ H _ I h=>Ej ⟨σ,H,I,h⟩
theorem aj(h1:PS X st t)(h2:oB X rest u):oB X (st::rest) (qh t u):=by
 intro pins s σ H D I h
 refine EU (aQ (h1 pins s σ H {D with nx:=u D} I h) λf s1 q=>?_)
 cases f with
 | next=>
  obtain⟨σ',H',I',q⟩:=q
  exact h2 pins s1 σ' H' D I' q
 | ret v=>exact q
 | brk=>exact q
 | cont=>exact q
theorem av(h1:PS X st t):oB X [st] t:=by
 intro pins s σ H D I h
 refine EU (aQ (h1 pins s σ H D I h) λf s1 q=>?_)
 cases f with
 | next=>exact Ej q
 | ret v=>exact q
 | brk=>exact q
 | cont=>exact q
theorem Inv.quiet{pins:List (Addr×Obj)}{σ:St}{H:Hp}{s:AN}(I:Inv X pins σ H s):interactive X.env=false:=by simp[interactive,I.ok.kind]
def Tr(te:TE):TS:=λD σ H=>te σ H λ_ H1=>D.nx σ H1
theorem dX(he:PE X e te)(hs:G5 e none pos.line X.env=pure false:=by rfl):PS X (.Expr e pos) (Tr te):=by
 intro pins s σ H D I h
 exact wpAny_Expr_any (aQ (he pins s σ H _ I h) λv s1 ⟨x,H1,I1,r1,q1⟩=>⟨σ,H1,I1,q1⟩) I.quiet hs
def QW(te:TE):TS:=λD σ H=>te σ H D.rt
theorem aL(he:PE X e te):PS X (.Return (some e) pos) (QW te):=by
 intro pins s σ H D I h
 refine wpAny_Return_some (aQ (he pins s σ H _ I h) ?_)
 rintro v s1 ⟨x,H1,I1,r1,q1⟩
 exact⟨x,σ,H1,I1,r1,q1⟩
def zN(c:TT)(t u:TS):TS:=λD σ H=>c σ H λb H1=>if b=true then t D σ H1 else u D σ H1
theorem cq{c:Expr}{a b:List Stmt}{tc:TT}(hc:PT X c tc)(ha:oB X a t)(hb:oB X b u):PS X (.If c a b pos) (zN tc t u):=by
 intro pins s σ H D I h
 refine wpAny_If (aQ (hc pins s σ H _ I h) ?_)
 rintro d s1 ⟨H1,I1,q1⟩
 cases d with
 | true=>exact ha pins s1 σ H1 D I1 q1
 | false=>exact hb pins s1 σ H1 D I1 q1
end
abbrev TG:=V->St->Hp->(St->Hp->Prop)->Prop
abbrev xO:=List V->St->Hp->(St->Hp->Prop)->Prop
def PG(X:Cx)(target:Expr)(t:TG):Prop:=
 ∀(pins:List (Addr×Obj)) (s:AN) (σ:St) (H:Hp) (v:V) (u:Value) (Q:St->Hp->Prop),Inv X pins σ H s->RelV v u->t v σ H Q->
  wpAny (model X.prog X.w) X.A (assign target X.env u) (λ_ s'=>∃σ' H',Inv X pins σ' H' s'/\Q σ' H') X.xe s
def NK(X:Cx)(ts:List Expr)(t:xO):Prop:=
 ∀(pins:List (Addr×Obj)) (s:AN) (σ:St) (H:Hp) (vs:List V) (us:List Value) (Q:St->Hp->Prop),Inv X pins σ H s->Vals vs us->t vs σ H Q->
  wpAny (model X.prog X.w) X.A (assignInOrder ((Dz ts X.env).map (·.2)) us) (λ_ s'=>∃σ' H',Inv X pins σ' H' s'/\Q σ' H') X.xe s
section
variable{X:Cx}{pos:Pos}
def aD(i:Nat):TG:=λv σ H Q=>Q (σ.set i (some v)) H
theorem aF{i:Nat}{x:Str}(hN:X.N.Nodup)(hi:X.N[i]? =some x)(hx:Loc X.env.scope x)(hf:X.fn x=true∨X.env.scope.names.lookup x=some .local:=by first | exact .inl rfl | exact .inr rfl | assumption):PG X (.Name x pos) (aD i):=by
 intro pins s σ H v u Q I r h
 exact wpAny_assign_Name (zL I hN hi hx r (λs' I'=>⟨_,H,I',h⟩) hf)
def ad9:xO:=λvs σ H Q=>vs=[]/\Q σ H
def aaZ(t:TG)(u:xO):xO:=λvs σ H Q=>∃v r,vs=v::r/\t v σ H λσ' H'=>u r σ' H' Q
theorem ib:NK X [] ad9:=by
 intro pins s σ H vs us Q I r h
 obtain⟨e,h⟩:=h
 subst e
 cases r
 exact assignInOrder_nil ⟨σ,H,I,h⟩
theorem bX{e:Expr}{es:List Expr}{t:TG}{u:xO}(h1:PG X e t)(h2:NK X es u)
  (hs:(Dz (e::es) X.env).map (·.2)=assign e X.env::(Dz es X.env).map (·.2):=by rfl):NK X (e::es) (aaZ t u):=by
 intro pins s σ H vs us Q I r h
 obtain⟨v,vr,e1,h⟩:=h
 subst e1
 cases r with
 | cons r rr=>
  rw[hs]
  refine assignInOrder_cons (aQ (h1 pins s σ H _ _ _ I r h) ?_)
  rintro _ s1 ⟨σ1,H1,I1,q1⟩
  exact h2 pins s1 σ1 H1 _ _ Q I1 rr q1
def WL(K:AB)(n:Nat)(t:xO):TG:=λv σ H Q=>∃a xs,v=.ref a/\bF K H a xs/\xs.length=n/\t xs σ H Q
theorem vo{es:List Expr}{k:Nat}{t:xO}{n:Nat}(hc:X.calm=true)(h:NK X es t)
  (hn:(Dz es X.env).length=n:=by rfl) (hst:(Dz es X.env).findIdx? (·.1)=none:=by rfl):PG X (.Tuple es k pos) (WL X.K n t):=by
 intro pins s σ H v u Q I r hw
 obtain⟨a,xs,e1,hq,hl,hw⟩:=hw
 subst e1
 cases r
 obtain⟨its,rv,ht,hz⟩:=I.tuple hq
 refine assign_Tuple_tuple (I.ok.hd hc) ht (by simp[hn,<-hl,rv.length]) hst λh' hx=>?_
 have I1:Inv X pins σ H {s with heap:=h'}:=I.kept (t':=s.toks) λb o e=>hx b o (Al (AR e)) e
 exact h pins _ σ H xs _ Q I1 (by simpa using rv) hw
def rQ(te:TE)(g:TG):TS:=λD σ H=>te σ H λx H1=>g x σ H1 D.nx
theorem WM{tg e:Expr}{te:TE}{g:TG}(he:PE X e te)(hg:PG X tg g)(hs:swapsWithSole [tg] e pos.line X.env=pure false:=by rfl)(hw:swappedStores [tg] e X.env=pure none:=by rfl)
  (h1:(Dz [tg] X.env).map (·.2)=[assign tg X.env]:=by rfl):PS X (.Assign [tg] e pos) (rQ te g):=by
 intro pins s σ H D I h
 refine wpAny_Assign_stores (aQ (he pins s σ H _ I h) ?_) hs hw
 rintro v s1 ⟨x,H1,I1,r1,q1⟩
 rw[h1]
 exact aQ (hg pins s1 σ H1 x v _ I1 r1 q1) λ_ s2 q=>q
theorem aw{i:Nat}{x:Str}{e:Expr}{te:TE}{pos':Pos}(hN:X.N.Nodup)(hi:X.N[i]? =some x)(hx:Loc X.env.scope x)(he:PE X e te)(hs:G5 e (some (.Name x pos')) pos.line X.env=pure false:=by rfl)(hf:X.fn x=true∨X.env.scope.names.lookup x=some .local:=by first | exact .inl rfl | exact .inr rfl | assumption):
  PS X (.Assign [.Name x pos'] e pos) (rQ te (aD i)):=by
 intro pins s σ H D I h
 refine wpAny_Assign_Name (aQ (he pins s σ H _ I h) ?_) hs
 rintro v s1 ⟨y,H1,I1,r1,q1⟩
 exact zL I1 hN hi hx r1 (λs2 I2=>⟨_,H1,I2,q1⟩) hf
def pL(c:TT)(tb:TS):TS:=λD σ H=>∃W:Nat->St->Hp->Prop,(∃m,W m σ H)/\∀m σ H,W m σ H->
 c σ H λb H1=>if b=true then ∃N:St->Hp->Prop,(∀σ' H',N σ' H'->∃m',m'<m/\W m' σ' H')/\tb {D with nx:=N,ct:=N,bk:=D.nx} σ H1 else D.nx σ H1
theorem iw{c:Expr}{body:List Stmt}{tc:TT}{tb:TS}(hp:PassesOwn (model X.prog X.w) X.A X.env X.xe)(hc:PT X c tc)(hb:oB X body tb):PS X (.While c body [] pos) (pL tc tb):=by
 intro pins s σ H D I h
 obtain⟨W,⟨m0,w0⟩,turn⟩:=h
 refine wpAny_While (codeAny_whileLoop (λn s'=>∃σ' H',Inv X pins σ' H' s'/\W n σ' H') ?_ m0 ⟨σ,H,I,w0⟩)
 rintro n s1 ⟨σ1,H1,I1,w1⟩
 refine Cn hp (aQ (hc pins s1 σ1 H1 _ I1 (turn n σ1 H1 w1)) ?_)
 rintro b s2 ⟨H2,I2,q2⟩
 cases b with
 | true=>
  obtain⟨N,hN,q2⟩:=q2
  rw[if_pos rfl]
  refine Cn hp (aQ (hb pins s2 σ1 H2 _ I2 q2) λf s3 q3=>?_)
  cases f with
  | next=>
   obtain⟨σ3,H3,I3,n3⟩:=q3
   obtain⟨m',hm,w3⟩:=hN σ3 H3 n3
   exact⟨m',hm,σ3,H3,I3,w3⟩
  | cont=>
   obtain⟨σ3,H3,I3,n3⟩:=q3
   obtain⟨m',hm,w3⟩:=hN σ3 H3 n3
   exact⟨m',hm,σ3,H3,I3,w3⟩
  | brk=>exact q3
  | ret v=>exact q3
 | false=>
  rw[if_neg An]
  exact Ej ⟨σ1,H2,I2,q2⟩
end
structure It where
 go:Nat->Hp->Prop
 uc:Nat->Hp->V->Hp->Prop
 stop:Nat->Hp->Prop
def i6(X:Cx)(pins:List (Addr×Obj))(H:Hp)(b:Addr):Prop:=
 H b=none/\b≠X.env.locals/\b ∉ X.fs/\(b∈X.ex∨X.s₀.heap.objs.size<=b)/\(∀x c,X.env.cells.lookup x=some c->c≠b)/\∀p∈X.pn++pins,p.1≠b
theorem Inv.m7{X:Cx}{pins:List (Addr×Obj)}{σ:St}{H H':Hp}{s:AN}{b:Addr}(I:Inv X pins σ H s)(hb:s.heap.objs.size<=b)(hn:H' b=none):i6 X pins H' b:=by
 refine⟨hn,CH (AX I.lt hb),I.ad3 hb,.inr (A5 I.sz hb),λx c e z=>?_,λp hp z=>?_⟩
 ·obtain⟨v,q⟩:=I.cell x c e
  exact absurd (AX q.lt (by rw[z];exact hb)) (BQ _)
 ·exact absurd (AX (AR (I.pin p hp).1) (by rw[z];exact hb)) (BQ _)
structure Turn (P:Ah)(w:World)(K:AB)(tg:Expr)(J:It)(fp:List Addr)(it:Addr)(tn:Nat->Heap->Prop):Prop where
 mem:it∈fp
 obj:∀i h,tn i h->∀b∈fp,∃o,h.get? b=some o/\∀v,o.data≠.cell v
 keep:∀i h h',tn i h->(∀b∈fp,∀o,h.get? b=some o->h'.get? b=some o)->tn i h'
 item:∀(X:Cx),X.prog=P->X.w=w->X.K=K->X.calm=true->∀(i:Nat) (pins:List (Addr×Obj)) (s:AN) (σ:St) (H:Hp) (E:Value->AN->Prop),Inv X pins σ H s->(∀b∈fp,i6 X pins H b)->tn i s.heap->J.go i H->
  wpAny (model P w) X.A (DH (.ref it)) (λr s1=>∃u,r=some u/\
   wpAny (model P w) X.A (Ek tg (.ref it) u) (λ_ s2=>∃x H',Inv X pins σ H' s2/\RelV x u/\J.uc i H x H'/\tn (i+1) s2.heap/\∀b∈fp,H' b=none) E s1) E s
 done:∀(X:Cx),X.prog=P->X.w=w->X.K=K->X.calm=true->∀(i:Nat) (pins:List (Addr×Obj)) (s:AN) (σ:St) (H:Hp) (E:Value->AN->Prop),Inv X pins σ H s->(∀b∈fp,i6 X pins H b)->tn i s.heap->J.stop i H->
  wpAny (model P w) X.A (DH (.ref it)) (λr s1=>r=none/\Inv X pins σ H s1) E s
 self:∀(A:BB) (i:Nat) (s:AN) (Q:Value->AN->Prop) (E:Value->AN->Prop),tn i s.heap->Q (.ref it) s->wpAny (model P w) A (pyIter (.ref it)) Q E s
abbrev TI:=St->Hp->(It->Hp->Prop)->Prop
def PIE(X:Cx)(pins:List (Addr×Obj))(σ:St)(tg:Expr)(R:It->Hp->Prop)(itv:Value)(s2:AN):Prop:=
 ∃(it:Addr) (fp:List Addr) (tn:Nat->Heap->Prop) (J:It) (H':Hp),itv=.ref it/\Inv X pins σ H' s2/\Turn X.prog X.w X.K tg J fp it tn/\tn 0 s2.heap/\(∀b∈fp,i6 X pins H' b)/\R J H'
def PI(X:Cx)(tg iter:Expr)(wi:TI):Prop:=
 ∀(pins:List (Addr×Obj)) (s:AN) (σ:St) (H:Hp) (R:It->Hp->Prop),Inv X pins σ H s->wi σ H R->
  wpAny (model X.prog X.w) X.A (eval iter X.env) (λv s1=>wpAny (model X.prog X.w) X.A (pyIter v) (PIE X pins σ tg R) X.xe s1) X.xe s
theorem vp{M:Model}{A:BB}{E:Value->AN->Prop}{s:AN}{tg:Expr}{it:Addr}{u:Value}{o:Obj}{n:String}{vs:Array Value}{Q:Unit->AN->Prop}(ho:s.heap.get? it=some o)(hc:o.cls=.type n)(hd:o.data=.fields vs)
  (hn:["enumerate","zip","dict_itemiterator","dict_reverseitemiterator","odict_iterator","itertools.zip_longest","itertools.pairwise"].contains n=false) (hQ:Q () s):wpAny M A (Ek tg (.ref it) u) Q E s:=by
 unfold Ek
 cases tg<;>first
  | exact AO hQ
  | (cases u<;>first
    | exact AO hQ
    | (refine AD (wpAny_load ho ?_)
       rw[hc,hd]
       show wpAny M A (if(["enumerate","zip","dict_itemiterator","dict_reverseitemiterator","odict_iterator","itertools.zip_longest","itertools.pairwise"].contains n&&vs[0]? == some (A3 _))=true then _ else _) Q E s
       rw[if_neg (by intro h;rw[hn,Bool.false_and] at h;cases h)]
       exact AO hQ))
def zO(K:AB)(a:Addr):It:=
 ⟨λi H=>∃xs x,bM K H a xs/\xs[i]? =some x,λi H x H'=>H'=H/\∀xs,bM K H a xs->xs[i]? =some x,λi H=>∃xs,bM K H a xs/\xs.length<=i⟩
def zP(K:AB)(a:Addr):It:=
 ⟨λi H=>∃xs x,bF K H a xs/\xs[i]? =some x,λi H x H'=>H'=H/\∀xs,bF K H a xs->xs[i]? =some x,λi H=>∃xs,bF K H a xs/\xs.length<=i⟩
def vq(lo:Int)(n:Nat):It:=⟨λi _=>i<n,λi H x H'=>H'=H/\x=.int (lo+i),λi _=>n<=i⟩
theorem NL{P:Ah}{w:World}{K:AB}{tg:Expr}(a it:Addr):Turn P w K tg (zO K a) [it] it (λi h=>h.IsListIter it a i) where
 mem:=by simp
 obj:=λi h st b hb=>by
  have e:b=it:=by simpa using hb
  subst e
  obtain⟨o,e,c,d⟩:=st
  exact⟨o,e,λv z=>by rw[d] at z;cases z⟩
 keep:=λi h h' st k=>st.at λo e=>k it (by simp) o e
 item:=by
  intro X hP hw hK hc i pins s σ H E I hf st hg
  subst hP hw hK
  obtain⟨xs,x,hq,hx⟩:=hg
  obtain⟨its,rv,p,hz⟩:=I.list hq
  obtain⟨u,hu,ru⟩:=rv.get hx
  obtain⟨f0,f1,f2,f3,f4,f5⟩:=hf it (by simp)
  refine wpAny_pyNext_list_item st p.isList (x:=u) (by simpa using hu) λh' st' sb=>?_
  have I1:Inv X pins σ H {s with heap:=h'}:=I.turned (t':=s.toks) (λb o hb e=>(sb.2 b hb).trans e) f0 f1 f3 f4 f5
  obtain⟨o,e,c,d⟩:=id st'
  exact⟨u,rfl,vp (s:={s with heap:=h'}) e c d (by decide) ⟨x,H,I1,ru,⟨rfl,λys hy=>by rw[I.ki hy hq];exact hx⟩,st',λb hb=>(hf b hb).1⟩⟩
 done:=by
  intro X hP hw hK hc i pins s σ H E I hf st hg
  subst hP hw hK
  obtain⟨xs,hq,hx⟩:=hg
  obtain⟨its,rv,p,hz⟩:=I.list hq
  obtain⟨f0,f1,f2,f3,f4,f5⟩:=hf it (by simp)
  have hl:=rv.length
  exact wpAny_pyNext_list_end (I.ok.hd hc) st p.isList (by simp;omega) λh' eb=>⟨rfl,I.turned (t':=s.toks) (λb o hb e=>eb b o hb e) f0 f1 f3 f4 f5⟩
 self:=λ_ _ _ _ _ st h=>wpAny_pyIter_listiter st h
theorem Mg{P:Ah}{w:World}{K:AB}{tg:Expr}(a it:Addr):Turn P w K tg (zP K a) [it] it (λi h=>h.IsTupleIter it a i) where
 mem:=by simp
 obj:=λi h st b hb=>by
  have e:b=it:=by simpa using hb
  subst e
  obtain⟨o,e,c,d⟩:=st
  exact⟨o,e,λv z=>by rw[d] at z;cases z⟩
 keep:=λi h h' st k=>st.at λo e=>k it (by simp) o e
 item:=by
  intro X hP hw hK hc i pins s σ H E I hf st hg
  subst hP hw hK
  obtain⟨xs,x,hq,hx⟩:=hg
  obtain⟨its,rv,p,hz⟩:=I.tuple hq
  obtain⟨u,hu,ru⟩:=rv.get hx
  obtain⟨f0,f1,f2,f3,f4,f5⟩:=hf it (by simp)
  refine wpAny_pyNext_tuple_item st (show s.heap.IsTuple a its.toArray from p) (x:=u) (by simpa using hu) λh' st' sb=>?_
  have I1:Inv X pins σ H {s with heap:=h'}:=I.turned (t':=s.toks) (λb o hb e=>(sb.2 b hb).trans e) f0 f1 f3 f4 f5
  obtain⟨o,e,c,d⟩:=id st'
  exact⟨u,rfl,vp (s:={s with heap:=h'}) e c d (by decide) ⟨x,H,I1,ru,⟨rfl,λys hy=>by rw[I.rP hy hq];exact hx⟩,st',λb hb=>(hf b hb).1⟩⟩
 done:=by
  intro X hP hw hK hc i pins s σ H E I hf st hg
  subst hP hw hK
  obtain⟨xs,hq,hx⟩:=hg
  obtain⟨its,rv,p,hz⟩:=I.tuple hq
  obtain⟨f0,f1,f2,f3,f4,f5⟩:=hf it (by simp)
  have hl:=rv.length
  exact wpAny_pyNext_tuple_end (I.ok.hd hc) st (show s.heap.IsTuple a its.toArray from p) (by simp;omega) λh' eb=>⟨rfl,I.turned (t':=s.toks) (λb o hb e=>eb b o hb e) f0 f1 f3 f4 f5⟩
 self:=λ_ _ _ _ _ st h=>wpAny_pyIter_tupleiter st h
theorem Mh{P:Ah}{w:World}{K:AB}{tg:Expr}(it:Addr)(lo:Int)(n:Nat):Turn P w K tg (vq lo n) [it] it (λi h=>IsRangeIter h it (lo+(i:Nat)*1) ((n:Int)-(i:Nat)) 1) where
 mem:=by simp
 obj:=λi h st b hb=>by
  have e:b=it:=by simpa using hb
  subst e
  exact⟨_,st,λv z=>by
   have z':Data.fields _=Data.cell v:=z
   cases z'⟩
 keep:=λi h h' st k=>k it (by simp) _ st
 item:=by
  intro X hP hw hK hc i pins s σ H E I hf st hg
  subst hP hw hK
  obtain⟨f0,f1,f2,f3,f4,f5⟩:=hf it (by simp)
  have W:=Walks.range (prog:=X.prog) (w:=X.w) (I.ok.hd hc) it lo 1 n
  refine W.item i s _ _ hg st λv h' tk hv st' kk=>?_
  obtain⟨t,rfl⟩:=hv
  have I1:Inv X pins σ H {s with heap:=h',toks:=tk}:=I.turned (λb o hb e=>kk b o (by simpa using hb) e) f0 f1 f3 f4 f5
  refine⟨_,rfl,vp (s:={s with heap:=h',toks:=tk}) (n:="range_iterator") st' rfl rfl (by decide) ⟨.int (lo+i),H,I1,⟨t,?_⟩,⟨rfl,rfl⟩,st',λb hb=>(hf b hb).1⟩⟩
  rw[Gq]
 done:=by
  intro X hP hw hK hc i pins s σ H E I hf st hg
  subst hP hw hK
  obtain⟨f0,f1,f2,f3,f4,f5⟩:=hf it (by simp)
  exact wpAny_pyNext_range_end (I.ok.hd hc) st (by have:n<=i:=hg;omega) λh' eb=>⟨rfl,I.turned (t':=s.toks) (λb o hb e=>eb b o hb e) f0 f1 f3 f4 f5⟩
 self:=λ_ _ _ _ _ st h=>wpAny_pyIter_rangeiter st h
section
variable{X:Cx}{tg:Expr}
def aa_(K:AB)(tl:TE):TI:=λσ H R=>tl σ H λx H1=>∃a,x=.ref a/\(∃xs,bM K H1 a xs)/\R (zO K a) H1
def ad'(K:AB)(tl:TE):TI:=λσ H R=>tl σ H λx H1=>∃a,x=.ref a/\(∃xs,bF K H1 a xs)/\R (zP K a) H1
theorem dH{l:Expr}{tl:TE}(hl:PE X l tl):PI X tg l (aa_ X.K tl):=by
 intro pins s σ H R I h
 refine aQ (hl pins s σ H _ I h) ?_
 rintro v s1 ⟨x,H1,I1,r1,q1⟩
 obtain⟨a,e,⟨xs,hq⟩,q⟩:=q1
 subst e
 cases r1
 obtain⟨its,rv,p,hz⟩:=I1.list hq
 refine D9 p.isList ?_
 refine⟨s1.heap.objs.size,[s1.heap.objs.size],_,_,H1,rfl,I1.kept (t':=s1.toks) λb o e=>AE _ e,NL a _,⟨_,AV _ rfl,rfl,rfl⟩,λb hb=>?_,q⟩
 have e:b=s1.heap.objs.size:=by simpa using hb
 subst e
 exact I1.m7 (AM _) (I1.hok.fresh (AM _))
theorem dF{l:Expr}{tl:TE}(hl:PE X l tl):PI X tg l (ad' X.K tl):=by
 intro pins s σ H R I h
 refine aQ (hl pins s σ H _ I h) ?_
 rintro v s1 ⟨x,H1,I1,r1,q1⟩
 obtain⟨a,e,⟨xs,hq⟩,q⟩:=q1
 subst e
 cases r1
 obtain⟨its,rv,p,hz⟩:=I1.tuple hq
 refine E6 (show s1.heap.IsTuple a its.toArray from p) ?_
 refine⟨s1.heap.objs.size,[s1.heap.objs.size],_,_,H1,rfl,I1.kept (t':=s1.toks) λb o e=>AE _ e,Mg a _,⟨_,AV _ rfl,rfl,rfl⟩,λb hb=>?_,q⟩
 have e:b=s1.heap.objs.size:=by simpa using hb
 subst e
 exact I1.m7 (AM _) (I1.hok.fresh (AM _))
theorem zQ{pins:List (Addr×Obj)}{σ:St}{H:Hp}{s:AN}{R:It->Hp->Prop}{E:Value->AN->Prop}{lo hi:Int}{t u v:Tok}{tk:Nat}(I:Inv X pins σ H s)(h1: -(2 ^ 62)<=lo)(h2:lo<2 ^ 62)(h3: -(2 ^ 62)<=hi)(h4:hi<2 ^ 62)
  (q:R (vq lo (hi-lo).toNat) H):wpAny (model X.prog X.w) X.A (pyIter (.ref s.heap.objs.size)) (PIE X pins σ tg R) E {s with heap:=s.heap.push {cls:=.type "range",data:=.fields #[.int lo t,.int hi u,.int 1 v]},toks:=tk}:=by
 refine wpAny_pyIter_range (IsRange.new ..) (small_one h1 h2 h3 h4) ?_
 have I1:Inv X pins σ H {s with heap:=s.heap.push {cls:=.type "range",data:=.fields #[.int lo t,.int hi u,.int 1 v]},toks:=tk}:=I.kept λb o e=>AE _ e
 refine⟨(s.heap.push {cls:=.type "range",data:=.fields #[.int lo t,.int hi u,.int 1 v]}).objs.size,[(s.heap.push {cls:=.type "range",data:=.fields #[.int lo t,.int hi u,.int 1 v]}).objs.size],_,_,H,rfl,
  I1.kept (t':=tk) λb o e=>AE _ e,Mh _ lo (hi-lo).toNat,?_,λb hb=>?_,q⟩
 ·have e1:lo+((0:Nat):Int)*1=lo:=by simp
  have e2:(((hi-lo).toNat:Nat):Int)-((0:Nat):Int)=Builtin.Range.rangeSize lo hi 1:=by rw[rangeSize_one];split<;>omega
  show IsRangeIter _ _ (lo+((0:Nat):Int)*1) ((((hi-lo).toNat:Nat):Int)-((0:Nat):Int)) 1
  rw[e1,e2]
  exact AV _ rfl
 ·have e:b=(s.heap.push {cls:=.type "range",data:=.fields #[.int lo t,.int hi u,.int 1 v]}).objs.size:=by simpa using hb
  subst e
  exact I1.m7 (AM _) (I1.hok.fresh (AM _))
def aa0(ta:TA):TI:=λσ H R=>ta σ H λvs H1=>∃j:Int,vs=[.int j]/\ -(2 ^ 62)<=j/\j<2 ^ 62/\R (vq 0 j.toNat) H1
def aa1(ta:TA):TI:=λσ H R=>ta σ H λvs H1=>∃i j:Int,vs=[.int i,.int j]/\(-(2 ^ 62)<=i/\i<2 ^ 62/\ -(2 ^ 62)<=j/\j<2 ^ 62)/\R (vq i (j-i).toNat) H1
theorem dm{a:Expr}{ta:TA}{p pos:Pos}(hg:Gl X "range")(hm:X.mg "range"=none)(ha:PA X [a] ta)(hs:BE [a] X.env=[(false,eval a X.env)]:=by rfl):PI X tg (.Call (.Name "range" p) [a] [] pos) (aa0 ta):=by
 intro pins s σ H R I h
 refine Call_ (i9 I hg hm boot_range (BP (aQ (ha pos pins s σ H _ I h) ?_) hs rfl))
 rintro us s1 ⟨vs,H1,I1,r1,q1⟩
 obtain⟨j,e,q1,q2,q⟩:=q1
 subst e
 cases r1 with
 | cons r rr=>
  cases rr
  obtain⟨t,rfl⟩:=r
  exact call_range_1 (zQ I1 (by omega) (by omega) q1 q2 (by simpa using q))
theorem NM{a b:Expr}{ta:TA}{p pos:Pos}(hg:Gl X "range")(hm:X.mg "range"=none)(ha:PA X [a,b] ta)(hs:BE [a,b] X.env=[(false,eval a X.env),(false,eval b X.env)]:=by rfl)(hs2:BE [b] X.env=[(false,eval b X.env)]:=by rfl):
  PI X tg (.Call (.Name "range" p) [a,b] [] pos) (aa1 ta):=by
 intro pins s σ H R I h
 refine Call_ (i9 I hg hm boot_range (BP (aQ (ha pos pins s σ H _ I h) ?_) (by rw[hs,hs2]) (by rw[hs2];rfl)))
 rintro us s1 ⟨vs,H1,I1,r1,q1⟩
 obtain⟨i,j,e,⟨q1,q2,q3,q4⟩,q⟩:=q1
 subst e
 cases r1 with
 | cons r rr=>
  cases rr with
  | cons r' rr=>
   cases rr
   obtain⟨t,rfl⟩:=r
   obtain⟨t',rfl⟩:=r'
   exact call_range_2 (zQ I1 q1 q2 q3 q4 q)
def aea(wi:TI)(g:TG)(tb:TS):TS:=λD σ H=>wi σ H λJ H1=>∃W:Nat->Nat->St->Hp->Prop,(∃m,W 0 m σ H1)/\∀i m σ H,W i m σ H->
 (J.stop i H/\D.nx σ H)∨(J.go i H/\∃N:St->Hp->Prop,(∀σ' H',N σ' H'->∃m',m'<m/\W (i+1) m' σ' H')/\∀x H',J.uc i H x H'->g x σ H' λσ2 H2=>tb {D with nx:=N,ct:=N,bk:=D.nx} σ2 H2)
def rR(fp:List Addr)(h:Heap):List (Addr×Obj):=fp.filterMap λb=>(h.get? b).map λo=>(b,o)
theorem mP{fp:List Addr}{h:Heap}{b:Addr}{o:Obj}(hb:b∈fp)(e:h.get? b=some o):(b,o)∈rR fp h:=List.mem_filterMap.mpr ⟨b,hb,by rw[e];rfl⟩
theorem NN{fp:List Addr}{h:Heap}{p:Addr×Obj}(hp:p∈rR fp h):p.1∈fp/\h.get? p.1=some p.2:=by
 obtain⟨b,hb,e⟩:=List.mem_filterMap.mp hp
 cases q:h.get? b with
 | none=>rw[q] at e;cases e
 | some o=>
  rw[q] at e
  have e':(b,o)=p:=AS e
  subst e'
  exact⟨hb,q⟩
theorem Inv.pinned{pins:List (Addr×Obj)}{σ:St}{H:Hp}{s:AN}{fp:List Addr}(I:Inv X pins σ H s)(hf:∀b∈fp,i6 X pins H b)(ho:∀b∈fp,∃o,s.heap.get? b=some o/\∀v,o.data≠.cell v):Inv X (pins++rR fp s.heap) σ H s:=
 I.K8 λp hp=>(Ac.mp hp).elim (λz=>I.pin p (BV _ z)) λz=>by
  obtain⟨hb,e⟩:=NN z
  obtain⟨f0,f1,f2,_⟩:=hf p.1 hb
  obtain⟨o,e',d⟩:=ho p.1 hb
  rw[e] at e';cases e'
  exact⟨e,f0,f1,f2,d⟩
theorem Inv.qi{pins pl:List (Addr×Obj)}{σ:St}{H:Hp}{s:AN}(I:Inv X (pins++pl) σ H s):Inv X pins σ H s:=I.K8 λp hp=>I.pin p (BV _ (Gn _ hp))
theorem cK{iter:Expr}{body:List Stmt}{wi:TI}{g:TG}{tb:TS}{pos:Pos}(hp:PassesOwn (model X.prog X.w) X.A X.env X.xe)(hc:X.calm=true)(hi:PI X tg iter wi)(hg:PG X tg g)(hb:oB X body tb)
  (hs:∀x,FU iter X.env x=pure x:=by intro _;rfl):PS X (.For tg iter body [] pos) (aea wi g tb):=by
 intro pins s σ H D I h
 refine wpAny_For (aQ (hi pins s σ H _ I h) λv s1 h1=>aQ h1 λitv s2 h2=>?_) hs
 obtain⟨it,fp,tn,J,H2,e,I2,T,st2,f2,W,⟨m0,w0⟩,turn⟩:=h2
 subst e
 have stat:∀{H':Hp},(∀b∈fp,H' b=none)->∀b∈fp,i6 X pins H' b:=λhn b hb=>⟨hn b hb,(f2 b hb).2⟩
 refine codeAny_forLoop_any (λn s'=>∃i σ' H',Inv X pins σ' H' s'/\tn i s'.heap/\(∀b∈fp,H' b=none)/\W i n σ' H') ?_ m0 ⟨0,σ,H2,I2,st2,λb hb=>(f2 b hb).1,w0⟩
 rintro n s3 ⟨i,σ3,H3,I3,st3,fr3,w3⟩
 rcases turn i n σ3 H3 w3 with⟨stop,qn⟩ | ⟨go,N,hN,step⟩
 ·refine Cn hp (aQ (T.done X rfl rfl rfl hc i pins s3 σ3 H3 X.xe I3 (stat fr3) st3 stop) ?_)
  rintro r s4 ⟨hr,I4⟩
  subst hr
  exact Ej ⟨σ3,H3,I4,qn⟩
 ·refine Cn hp (aQ (T.item X rfl rfl rfl hc i pins s3 σ3 H3 X.xe I3 (stat fr3) st3 go) ?_)
  rintro r s4 ⟨u,hr,h4⟩
  subst hr
  refine Cn hp (aQ h4 ?_)
  rintro _ s5 ⟨x,H5,I5,r5,y5,K9,Ts⟩
  have I5':=I5.pinned (stat Ts) (T.obj _ _ K9)
  refine Cn hp (aQ (hg _ s5 σ3 H5 x u _ I5' r5 (step x H5 y5)) ?_)
  rintro _ s6 ⟨σ6,H6,I6,q6⟩
  refine Cn hp (aQ (hb _ s6 σ6 H6 _ I6 q6) λf s7 q7=>?_)
  have again:∀{σ7:St} {H7:Hp},Inv X (pins++rR fp s5.heap) σ7 H7 s7->N σ7 H7->∃m,m<n/\∃i σ' H',Inv X pins σ' H' s7/\tn i s7.heap/\(∀b∈fp,H' b=none)/\W i m σ' H':=λ{σ7 H7} I7 n7=>by
   obtain⟨m',hm,w7⟩:=hN σ7 H7 n7
   refine⟨m',hm,i+1,σ7,H7,I7.qi,T.keep _ _ _ K9 λb hb o e=>(I7.pin (b,o) (BV _ (BV _ (mP hb e)))).1,λb hb=>?_,w7⟩
   obtain⟨o,e,d⟩:=T.obj _ _ K9 b hb
   exact(I7.pin (b,o) (BV _ (BV _ (mP hb e)))).2.1
  cases f with
  | next=>obtain⟨σ7,H7,I7,n7⟩:=q7;exact again I7 n7
  | cont=>obtain⟨σ7,H7,I7,n7⟩:=q7;exact again I7 n7
  | brk=>obtain⟨σ7,H7,I7,q7⟩:=q7;exact⟨σ7,H7,I7.qi,q7⟩
  | ret v=>obtain⟨x7,σ7,H7,I7,r7,q7⟩:=q7;exact⟨x7,σ7,H7,I7.qi,r7,q7⟩
end
theorem jv{K:AB}{a:Addr}{xs:List V}{g:TG}{tb:TS}{D:Ends}{σ:St}{H:Hp}(Pv:Nat->St->Hp->Prop)(h0:Pv 0 σ H)(hl:∀i σ H,i<=xs.length->Pv i σ H->bM K H a xs)
  (hs:∀i x σ H,xs[i]? =some x->Pv i σ H->g x σ H λσ2 H2=>tb {D with nx:=Pv (i+1),ct:=Pv (i+1),bk:=D.nx} σ2 H2) (hd:∀σ H,Pv xs.length σ H->D.nx σ H):
  ∃W:Nat->Nat->St->Hp->Prop,(∃m,W 0 m σ H)/\∀i m σ H,W i m σ H->
   ((zO K a).stop i H/\D.nx σ H)∨((zO K a).go i H/\∃N:St->Hp->Prop,(∀σ' H',N σ' H'->∃m',m'<m/\W (i+1) m' σ' H')/\∀x H',(zO K a).uc i H x H'->g x σ H' λσ2 H2=>tb {D with nx:=N,ct:=N,bk:=D.nx} σ2 H2):=by
 refine⟨λi m σ H=>m=xs.length-i/\i<=xs.length/\Pv i σ H,⟨xs.length,by simp,A6 _,h0⟩,?_⟩
 rintro i m σ H ⟨rfl,hi,p⟩
 have q:=hl i σ H hi p
 by_cases hlt:i<xs.length
 ·refine .inr ⟨⟨xs,xs[i],q,by simp[hlt]⟩,Pv (i+1),λσ' H' p'=>⟨xs.length-(i+1),by omega,rfl,hlt,p'⟩,λx H' y=>?_⟩
  obtain⟨e,y⟩:=y
  subst e
  exact hs i x σ _ (y xs q) p
 ·have e:i=xs.length:=by omega
  subst e
  exact .inl ⟨⟨xs,q,AM _⟩,hd σ H p⟩
theorem K'{K:AB}{a:Addr}{xs:List V}{g:TG}{tb:TS}{D:Ends}{σ:St}{H:Hp}(Pv:Nat->St->Hp->Prop)(h0:Pv 0 σ H)(hl:∀i σ H,i<=xs.length->Pv i σ H->bF K H a xs)
  (hs:∀i x σ H,xs[i]? =some x->Pv i σ H->g x σ H λσ2 H2=>tb {D with nx:=Pv (i+1),ct:=Pv (i+1),bk:=D.nx} σ2 H2) (hd:∀σ H,Pv xs.length σ H->D.nx σ H):
  ∃W:Nat->Nat->St->Hp->Prop,(∃m,W 0 m σ H)/\∀i m σ H,W i m σ H->
   ((zP K a).stop i H/\D.nx σ H)∨((zP K a).go i H/\∃N:St->Hp->Prop,(∀σ' H',N σ' H'->∃m',m'<m/\W (i+1) m' σ' H')/\∀x H',(zP K a).uc i H x H'->g x σ H' λσ2 H2=>tb {D with nx:=N,ct:=N,bk:=D.nx} σ2 H2):=by
 refine⟨λi m σ H=>m=xs.length-i/\i<=xs.length/\Pv i σ H,⟨xs.length,by simp,A6 _,h0⟩,?_⟩
 rintro i m σ H ⟨rfl,hi,p⟩
 have q:=hl i σ H hi p
 by_cases hlt:i<xs.length
 ·refine .inr ⟨⟨xs,xs[i],q,by simp[hlt]⟩,Pv (i+1),λσ' H' p'=>⟨xs.length-(i+1),by omega,rfl,hlt,p'⟩,λx H' y=>?_⟩
  obtain⟨e,y⟩:=y
  subst e
  exact hs i x σ _ (y xs q) p
 ·have e:i=xs.length:=by omega
  subst e
  exact .inl ⟨⟨xs,q,AM _⟩,hd σ H p⟩
theorem lA{lo:Int}{n:Nat}{g:TG}{tb:TS}{D:Ends}{σ:St}{H:Hp}(Pv:Nat->St->Hp->Prop)(h0:Pv 0 σ H)
  (hs:∀i σ H,i<n->Pv i σ H->g (.int (lo+i)) σ H λσ2 H2=>tb {D with nx:=Pv (i+1),ct:=Pv (i+1),bk:=D.nx} σ2 H2) (hd:∀σ H,Pv n σ H->D.nx σ H):
  ∃W:Nat->Nat->St->Hp->Prop,(∃m,W 0 m σ H)/\∀i m σ H,W i m σ H->
   ((vq lo n).stop i H/\D.nx σ H)∨((vq lo n).go i H/\∃N:St->Hp->Prop,(∀σ' H',N σ' H'->∃m',m'<m/\W (i+1) m' σ' H')/\∀x H',(vq lo n).uc i H x H'->g x σ H' λσ2 H2=>tb {D with nx:=N,ct:=N,bk:=D.nx} σ2 H2):=by
 refine⟨λi m σ H=>m=n-i/\i<=n/\Pv i σ H,⟨n,by simp,A6 _,h0⟩,?_⟩
 rintro i m σ H ⟨rfl,hi,p⟩
 by_cases hlt:i<n
 ·refine .inr ⟨hlt,Pv (i+1),λσ' H' p'=>⟨n-(i+1),by omega,rfl,hlt,p'⟩,λx H' y=>?_⟩
  obtain⟨e,y⟩:=y
  subst e y
  exact hs i σ _ hlt p
 ·have e:i=n:=by omega
  subst e
  exact .inl ⟨AM _,hd σ H p⟩
theorem QX{c:TT}{tb:TS}{D:Ends}{σ:St}{H:Hp}(Pv:St->Hp->Prop)(μ:St->Hp->Nat)(h0:Pv σ H)
  (hs:∀σ H,Pv σ H->c σ H λb H1=>if b=true then tb {D with nx:=λσ' H'=>Pv σ' H'/\μ σ' H'<μ σ H,ct:=λσ' H'=>Pv σ' H'/\μ σ' H'<μ σ H,bk:=D.nx} σ H1 else D.nx σ H1)
  (mono:∀σ H Q Q',(∀b H1,Q b H1->Q' b H1)->c σ H Q->c σ H Q'):pL c tb D σ H:=by
 refine⟨λm σ H=>m=μ σ H/\Pv σ H,⟨_,rfl,h0⟩,?_⟩
 rintro m σ H ⟨rfl,p⟩
 refine mono σ H _ _ (λb H1 q=>?_) (hs σ H p)
 cases b with
 | true=>exact⟨_,λσ' H' ⟨p',l⟩=>⟨_,l,rfl,p'⟩,q⟩
 | false=>exact q
abbrev R2:=V->V->Hp->VK->Prop
def dY(X:Cx)(f:Value->Value->Sem Value)(r:R2):Prop:=
 ∀(pins:List (Addr×Obj)) (s:AN) (σ:St) (H:Hp) (x y:V) (v u:Value) (Q:VK),Inv X pins σ H s->RelV x v->RelV y u->r x y H Q->
  wpAny (model X.prog X.w) X.A (f v u) (EP X pins σ Q) X.xe s
def WN(X:Cx)(f:Value->Sem Value)(r:V->Hp->VK->Prop):Prop:=
 ∀(pins:List (Addr×Obj)) (s:AN) (σ:St) (H:Hp) (x:V) (v:Value) (Q:VK),Inv X pins σ H s->RelV x v->r x H Q->
  wpAny (model X.prog X.w) X.A (f v) (EP X pins σ Q) X.xe s
def cY(X:Cx)(f:Value)(r:List V->Hp->VK->Prop):Prop:=
 ∀(pins:List (Addr×Obj)) (s:AN) (σ:St) (H:Hp) (xs:List V) (us:List Value) (Q:VK),Inv X pins σ H s->Vals xs us->r xs H Q->
  wpAny (model X.prog X.w) X.A (call f us) (EP X pins σ Q) X.xe s
def aeb(X:Cx)(r:V->Hp->(Bool->Hp->Prop)->Prop):Prop:=
 ∀(pins:List (Addr×Obj)) (s:AN) (σ:St) (H:Hp) (x:V) (v:Value) (Q:Bool->Hp->Prop),Inv X pins σ H s->RelV x v->r x H Q->
  wpAny (model X.prog X.w) X.A (truthy v) (TP X pins σ Q) X.xe s
def Tt(r:R2)(ta tb:TE):TE:=λσ H Q=>ta σ H λx H1=>tb σ H1 λy H2=>r x y H2 Q
def tUn(r:V->Hp->VK->Prop)(ta:TE):TE:=λσ H Q=>ta σ H λx H1=>r x H1 Q
def rI(C:Int->Int->Prop)(g:Int->Int->V):R2:=λx y H Q=>∃i j,x=.int i/\y=.int j/\C i j/\Q (g i j) H
def xP(g:Int->Int->V):R2:=λx y H Q=>∃i j,x=.int i/\y=.int j/\Q (g i j) H
def rU(g:Int->V):V->Hp->VK->Prop:=λx H Q=>∃i,x=.int i/\Q (g i) H
section
variable{X:Cx}{a b c:Expr}{ta tb tc:TE}{pos:Pos}
theorem QY(ha:PE X a ta)(hb:PE X b tb){pins:List (Addr×Obj)}{s:AN}{σ:St}{H:Hp}{R:V->V->Hp->Prop}(I:Inv X pins σ H s)
  (h:ta σ H λx H1=>tb σ H1 λy H2=>R x y H2) {Q:Value->AN->Prop} {f:Value->Value->Sem Value}
  (hf:∀v u s2 x y H2,Inv X pins σ H2 s2->RelV x v->RelV y u->R x y H2->wpAny (model X.prog X.w) X.A (f v u) Q X.xe s2):
  wpAny (model X.prog X.w) X.A (eval a X.env) (λv s₁=>wpAny (model X.prog X.w) X.A (eval b X.env) (λu s₂=>wpAny (model X.prog X.w) X.A (f v u) Q X.xe s₂) X.xe s₁) X.xe s:=by
 refine aQ (ha pins s σ H _ I h) ?_
 rintro v s1 ⟨x,H1,I1,r1,q1⟩
 refine aQ (hb pins s1 σ H1 _ I1 q1) ?_
 rintro u s2 ⟨y,H2,I2,r2,q2⟩
 exact hf v u s2 x y H2 I2 r1 r2 q2
theorem aI{op:Operator}{r:R2}(ho:dY X (CM op) r)(ha:PE X a ta)(hb:PE X b tb):PE X (.BinOp a op b pos) (Tt r ta tb):=by
 intro pins s σ H Q I h
 exact wpAny_BinOp (QY ha hb I h λv u s2 x y H2 I2 rx ry q=>ho pins s2 σ H2 x y v u Q I2 rx ry q)
theorem zx{op:UnaryOp}{r:V->Hp->VK->Prop}(ho:WN X (unaryOp op) r)(ha:PE X a ta):PE X (.UnaryOp op a pos) (tUn r ta):=by
 intro pins s σ H Q I h
 refine UnaryOp_ (aQ (ha pins s σ H _ I h) ?_)
 rintro v s1 ⟨x,H1,I1,r1,q1⟩
 exact ho pins s1 σ H1 x v Q I1 r1 q1
theorem NP{f:Value->Value->Sem Value}{C:Int->Int->Prop}{g:Int->Int->Int}
  (rule:∀(i j:Int) (t u:Tok) (s:AN) (Q:Value->AN->Prop) (E:Value->AN->Prop),C i j->Q (.int (g i j) s.toks) {s with toks:=s.toks+1}->wpAny (model X.prog X.w) X.A (f (.int i t) (.int j u)) Q E s):
  dY X f (rI C λi j=>.int (g i j)):=by
 intro pins s σ H x y v u Q I rx ry h
 obtain⟨i,j,rfl,rfl,hc,q⟩:=h
 obtain⟨t,rfl⟩:=rx
 obtain⟨t',rfl⟩:=ry
 exact rule i j t t' s _ _ hc ⟨.int (g i j),H,I.tok _,⟨_,rfl⟩,q⟩
theorem WO{f:Value->Value->Sem Value}{g:Int->Int->Int}
  (rule:∀(i j:Int) (t u:Tok) (s:AN) (Q:Value->AN->Prop) (E:Value->AN->Prop),Q (.int (g i j) s.toks) {s with toks:=s.toks+1}->wpAny (model X.prog X.w) X.A (f (.int i t) (.int j u)) Q E s):
  dY X f (xP λi j=>.int (g i j)):=by
 intro pins s σ H x y v u Q I rx ry h
 obtain⟨i,j,rfl,rfl,q⟩:=h
 obtain⟨t,rfl⟩:=rx
 obtain⟨t',rfl⟩:=ry
 exact rule i j t t' s _ _ ⟨.int (g i j),H,I.tok _,⟨_,rfl⟩,q⟩
theorem Mi{f:Value->Value->Sem Value}{g:Int->Int->Bool}
  (rule:∀(i j:Int) (t u:Tok) (s:AN) (Q:Value->AN->Prop) (E:Value->AN->Prop),Q (.bool (g i j)) s->wpAny (model X.prog X.w) X.A (f (.int i t) (.int j u)) Q E s):
  dY X f (xP λi j=>.bl (g i j)):=by
 intro pins s σ H x y v u Q I rx ry h
 obtain⟨i,j,rfl,rfl,q⟩:=h
 obtain⟨t,rfl⟩:=rx
 obtain⟨t',rfl⟩:=ry
 exact rule i j t t' s _ _ ⟨.bl (g i j),H,I,rfl,q⟩
def aec(i j:Int):Prop:=0<=j/\j<=1000000/\i.natAbs<2 ^ 64
def QZ(i j:Int):Prop:=(-(2 ^ 64)<i/\i<2 ^ 64)∨(-(2 ^ 64)<j/\j<2 ^ 64)
theorem QZ.ok{i j:Int}(h:QZ i j):IntMulOk i j:=by
 rcases h with⟨h1,h2⟩ | ⟨h1,h2⟩
 ·exact .of_left (intBits_le_64 h1 h2)
 ·exact .of_right (intBits_le_64 h1 h2)
theorem de:dY X (CM .Add) (xP λi j=>.int (i+j)):=WO λ_ _ _ _ _ _ _ q=>add_int q
theorem ix:dY X (CM .Sub) (xP λi j=>.int (i-j)):=WO λ_ _ _ _ _ _ _ q=>sub_int q
theorem fZ:dY X (CM .Mult) (rI QZ λi j=>.int (i*j)):=NP λ_ _ _ _ _ _ _ hc q=>mul_int q hc.ok
theorem WQ:dY X (CM .Mod) (rI (λ_ j=>0<j) λi j=>.int (i % j)):=NP λi j _ _ _ _ _ hc q=>by
 have h1:(0:Int)<j:=hc
 exact mod_int' (by omega) (by rw[Int.fmod_eq_emod_of_nonneg i (by omega)];exact q)
theorem zR:dY X (CM .Pow) (rI aec λi j=>.int (i ^ j.toNat)):=NP λ_ _ _ _ _ _ _ hc q=>pow_int_small hc.1 hc.2.1 hc.2.2 q
theorem unI{f:Value->Sem Value}{g:Int->Int}
  (rule:∀(i:Int) (t:Tok) (s:AN) (Q:Value->AN->Prop) (E:Value->AN->Prop),Q (.int (g i) s.toks) {s with toks:=s.toks+1}->wpAny (model X.prog X.w) X.A (f (.int i t)) Q E s):
  WN X f (rU λi=>.int (g i)):=by
 intro pins s σ H x v Q I rx h
 obtain⟨i,rfl,q⟩:=h
 obtain⟨t,rfl⟩:=rx
 exact rule i t s _ _ ⟨.int (g i),H,I.tok _,⟨_,rfl⟩,q⟩
theorem vt:WN X (unaryOp .USub) (rU λi=>.int (-i)):=unI λ_ _ _ _ _ q=>neg_int q
end
def WR:V->V->Bool
 | .non,.non=>true | .non,.int _=>true | .int _,.non=>true | .non,.bl _=>true | .bl _,.non=>true | .non,.str _=>true | .str _,.non=>true
 | .int _,.int _=>true | .bl _,.bl _=>true | .str _,.str _=>true | .mY _,.mY _=>true
 | .int _,.str _=>true | .str _,.int _=>true | .bl _,.str _=>true | .str _,.bl _=>true
 | _,_=>false
def rEq:R2:=λx y H Q=>WR x y=true/\Q (.bl (decide (x=y))) H
def rNe:R2:=λx y H Q=>WR x y=true/\Q (.bl (!decide (x=y))) H
theorem La{i j:Int}:decide (V.int i=V.int j)=(i == j):=by
 rw[El]
 simp
theorem NQ{i j:Bool}:decide (V.bl i=V.bl j)=(i == j):=by
 rw[El]
 simp
theorem Lb{i j:Str}:decide (V.str i=V.str j)=(i == j):=by
 rw[El]
 simp
theorem Lc{i j:Array UInt8}:decide (V.mY i=V.mY j)=(i.toList == j.toList):=by
 rw[El]
 cases i
 cases j
 simp
section
variable{X:Cx}{a b c:Expr}{ta tb tc:TE}{pos:Pos}
theorem bQ{pins:List (Addr×Obj)}{σ:St}{H:Hp}{s:AN}{Q:VK}{k k':Bool}(I:Inv X pins σ H s)(q:Q (.bl k) H)(e:k=k'):EP X pins σ Q (.bool k') s:=by
 subst e
 exact⟨.bl k,H,I,rfl,q⟩
theorem dQ:dY X (Bu .Eq) rEq:=by
 intro pins s σ H x y v u Q I rx ry h
 obtain⟨hs,q⟩:=h
 cases x with
 | non=>
  cases rx
  cases y with
  | non=>cases ry;exact PySem.EqNone.eq_none_none (bQ I q (by simp))
  | bl j=>cases ry;exact PySem.EqNone.eq_none_bool (bQ I q (by simp))
  | int j=>obtain⟨t',rfl⟩:=ry;exact PySem.EqNone.eq_none_int (bQ I q (by simp))
  | str j=>obtain⟨t',rfl⟩:=ry;exact PySem.EqNone.eq_none_str (bQ I q (by simp))
  | _=>exact absurd (show false=true from hs) An
 | bl i=>
  cases rx
  cases y with
  | non=>cases ry;exact PySem.EqNone.eq_bool_none (bQ I q (by simp))
  | bl j=>cases ry;exact eq_bool (bQ I q NQ)
  | str j=>obtain⟨t',rfl⟩:=ry;exact PySem.EqMixed.eq_bool_str (bQ I q (by simp))
  | _=>exact absurd (show false=true from hs) An
 | int i=>
  obtain⟨t,rfl⟩:=rx
  cases y with
  | non=>cases ry;exact PySem.EqNone.eq_int_none (bQ I q (by simp))
  | int j=>obtain⟨t',rfl⟩:=ry;exact eq_int (bQ I q La)
  | str j=>obtain⟨t',rfl⟩:=ry;exact PySem.EqMixed.eq_int_str (bQ I q (by simp))
  | _=>exact absurd (show false=true from hs) An
 | str i=>
  obtain⟨t,rfl⟩:=rx
  cases y with
  | non=>cases ry;exact PySem.EqNone.eq_str_none (bQ I q (by simp))
  | bl j=>cases ry;exact PySem.EqMixed.eq_str_bool (bQ I q (by simp))
  | int j=>obtain⟨t',rfl⟩:=ry;exact PySem.EqMixed.eq_str_int (bQ I q (by simp))
  | str j=>obtain⟨t',rfl⟩:=ry;exact eq_str (bQ I q Lb)
  | _=>exact absurd (show false=true from hs) An
 | mY i=>
  obtain⟨t,rfl⟩:=rx
  cases y with
  | mY j=>obtain⟨t',rfl⟩:=ry;exact PySem.W.eq_bytes (bQ I q Lc)
  | _=>exact absurd (show false=true from hs) An
 | _=>cases y<;>exact absurd (show false=true from hs) An
theorem vw:dY X (Bu .NotEq) rNe:=by
 intro pins s σ H x y v u Q I rx ry h
 obtain⟨hs,q⟩:=h
 cases x with
 | non=>
  cases rx
  cases y with
  | non=>cases ry;exact PySem.EqNone.ne_none_none (bQ I q (by simp))
  | bl j=>cases ry;exact PySem.EqNone.ne_none_bool (bQ I q (by simp))
  | int j=>obtain⟨t',rfl⟩:=ry;exact PySem.EqNone.ne_none_int (bQ I q (by simp))
  | str j=>obtain⟨t',rfl⟩:=ry;exact PySem.EqNone.ne_none_str (bQ I q (by simp))
  | _=>exact absurd (show false=true from hs) An
 | bl i=>
  cases rx
  cases y with
  | non=>cases ry;exact PySem.EqNone.ne_bool_none (bQ I q (by simp))
  | bl j=>cases ry;exact ne_bool (bQ I q (congrArg not NQ))
  | str j=>obtain⟨t',rfl⟩:=ry;exact PySem.EqMixed.ne_bool_str (bQ I q (by simp))
  | _=>exact absurd (show false=true from hs) An
 | int i=>
  obtain⟨t,rfl⟩:=rx
  cases y with
  | non=>cases ry;exact PySem.EqNone.ne_int_none (bQ I q (by simp))
  | int j=>obtain⟨t',rfl⟩:=ry;exact ne_int (bQ I q (congrArg not La))
  | str j=>obtain⟨t',rfl⟩:=ry;exact PySem.EqMixed.ne_int_str (bQ I q (by simp))
  | _=>exact absurd (show false=true from hs) An
 | str i=>
  obtain⟨t,rfl⟩:=rx
  cases y with
  | non=>cases ry;exact PySem.EqNone.ne_str_none (bQ I q (by simp))
  | bl j=>cases ry;exact PySem.EqMixed.ne_str_bool (bQ I q (by simp))
  | int j=>obtain⟨t',rfl⟩:=ry;exact PySem.EqMixed.ne_str_int (bQ I q (by simp))
  | str j=>obtain⟨t',rfl⟩:=ry;exact ne_str (bQ I q (congrArg not Lb))
  | _=>exact absurd (show false=true from hs) An
 | mY i=>
  obtain⟨t,rfl⟩:=rx
  cases y with
  | mY j=>obtain⟨t',rfl⟩:=ry;exact PySem.W.ne_bytes (bQ I q (congrArg not Lc))
  | _=>exact absurd (show false=true from hs) An
 | _=>cases y<;>exact absurd (show false=true from hs) An
theorem Mj:dY X (Bu .Lt) (xP λi j=>.bl (decide (i<j))):=Mi λ_ _ _ _ _ _ _ q=>lt_int q
theorem aa2:dY X (Bu .LtE) (xP λi j=>.bl (decide (i<=j))):=Mi λ_ _ _ _ _ _ _ q=>le_int q
theorem oC:dY X (Bu .Gt) (xP λi j=>.bl (decide (j<i))):=Mi λ_ _ _ _ _ _ _ q=>gt_int q
theorem Tv:dY X (Bu .GtE) (xP λi j=>.bl (decide (j<=i))):=Mi λ_ _ _ _ _ _ _ q=>ge_int q
theorem zS:dY X (Bu .Is) (λx y H Q=>y=.non/\Q (.bl (decide (x=.non))) H):=by
 intro pins s σ H x y v u Q I rx ry h
 obtain⟨rfl,q⟩:=h
 cases ry
 refine is_none_gen (bQ I q ?_)
 cases x<;>first
  | (cases rx;rfl)
  | (obtain⟨t,rfl⟩:=rx;rfl)
theorem a_(b:Expr){op:CmpOp}(h:op≠.In:=by decide)(h2:op≠.NotIn:=by decide):behindInMarks op b=false:=by
 have e1:(op == CmpOp.In)=false:=by cases op<;>first | rfl | exact absurd rfl h
 have e2:(op == CmpOp.NotIn)=false:=by cases op<;>first | rfl | exact absurd rfl h2
 cases b<;>simp[behindInMarks,e1,e2]
theorem ic{op:CmpOp}{r:R2}(ho:dY X (Bu op) r)(ha:PE X a ta)(hb:PE X b tb)(hm:behindInMarks op b=false):PE X (.Compare a [op] [b] pos) (Tt r ta tb):=by
 intro pins s σ H Q I h
 exact wpAny_Compare1 (QY ha hb I h λv u s2 x y H2 I2 rx ry q=>ho pins s2 σ H2 x y v u Q I2 rx ry q) hm
inductive WS (x:V)(H:Hp)(Q:Bool->Hp->Prop):Prop where
 | mk (k:Bool) (cD:x=.bl k) (cE:Q k H)
def Tw(t:TE):TT:=λσ H Q=>t σ H λx H'=>WS x H' Q
theorem aV{op:CmpOp}{r:R2}(ho:dY X (Bu op) r)(ha:PE X a ta)(hb:PE X b tb)(hm:behindInMarks op b=false):PT X (.Compare a [op] [b] pos) (Tw (Tt r ta tb)):=by
 intro pins s σ H Q I h
 refine wpAny_isTrue_Compare1 (aQ (ha pins s σ H _ I h) λv s1 ⟨x,H1,I1,r1,q1⟩=>aQ (hb pins s1 σ H1 _ I1 q1) λu s2 ⟨y,H2,I2,r2,q2⟩=>
  aQ (ho pins s2 σ H2 x y v u _ I2 r1 r2 q2) λc s3 ⟨z,H3,I3,r3,k,e,q3⟩=>?_) hm
 subst e
 cases r3
 exact DM ⟨H3,I3,q3⟩
def WT(r r':R2)(ta tb tc:TE):TE:=λσ H Q=>ta σ H λx H1=>tb σ H1 λy H2=>r x y H2 λz H3=>∃k,z=.bl k/\
 (if k=true then tc σ H3 λw' H4=>r' y w' H4 Q else Q (.bl false) H3)
theorem Q_{op op':CmpOp}{r r':R2}(ho:dY X (Bu op) r)(ho':dY X (Bu op') r')(ha:PE X a ta)(hb:PE X b tb)(hc:PE X c tc)
  (hm:lastMarks [op,op'] [b,c]=false:=by with_unfolding_all rfl):PT X (.Compare a [op,op'] [b,c] pos) (Tw (WT r r' ta tb tc)):=by
 intro pins s σ H Q I h
 refine isTrue_chain (aQ (ha pins s σ H _ I h) λv s1 ⟨x,H1,I1,r1,q1⟩=>test_link (aQ (hb pins s1 σ H1 _ I1 q1) λu s2 ⟨y,H2,I2,r2,q2⟩=>
  aQ (ho pins s2 σ H2 x y v u _ I2 r1 r2 q2) λd s3 ⟨z,H3,I3,r3,k,e,q3⟩=>?_)) hm
 subst e
 cases r3
 refine DM ?_
 cases k with
 | false=>
  obtain⟨k',e',q'⟩:=q3
  cases e'
  exact ite_ff ⟨H3,I3,q'⟩
 | true=>
  refine ite_tt (test_last (aQ (hc pins s3 σ H3 _ I3 q3) ?_))
  rintro w' s4 ⟨z',H4,I4,r4,q4⟩
  refine aQ (ho' pins s4 σ H4 y z' u w' _ I4 r2 r4 q4) ?_
  rintro d' s5 ⟨z2,H5,I5,r5,k2,e2,q5⟩
  subst e2
  cases r5
  exact DM ⟨H5,I5,q5⟩
def WU(K:AB)(x:V)(H:Hp)(k:Bool):Prop:=
 match x with
 | .non=>k=false
 | .bl b=>k=b
 | .int i=>k=(i != 0)
 | .str y=>y.length<=sizeLine/\k=((y.length:Int) != 0)
 | .mY y=>y.size<=sizeLine/\k=((y.size:Int) != 0)
 | .ref p=>(∃xs,bM K H p xs/\k= !xs.isEmpty)∨(∃xs,bF K H p xs/\k= !xs.isEmpty)∨∃kvs,H p=some (.dK kvs)/\k= !kvs.isEmpty
 | _=>False
theorem Mk{κ:Type}{kvs:List (κ×V)}{vs:List (κ×Value)}(r:KV kvs vs):(!vs.isEmpty)= !kvs.isEmpty:=by
 cases r<;>rfl
theorem vy{xs:List V}{its:List Value}(r:Vals xs its):(!its.toArray.isEmpty)= !xs.isEmpty:=by
 cases r<;>simp
theorem rS:(sizeLine:Nat)<2 ^ 63:=by rw[FV];decide
theorem WV:aeb X (λx H Q=>∃k,WU X.K x H k/\Q k H):=by
 intro pins s σ H x v Q I rx h
 obtain⟨k,e,q⟩:=h
 have hl:=rS
 have hs:sizeLine=16777216:=FV
 cases x with
 | non=>
  cases rx
  have e':k=false:=e
  subst e'
  exact truthy_none ⟨H,I,q⟩
 | bl b=>
  cases rx
  have e':k=b:=e
  subst e'
  exact DM ⟨H,I,q⟩
 | int i=>
  obtain⟨t,rfl⟩:=rx
  have e':k=(i != 0):=e
  subst e'
  exact PySem.P.truthy_int ⟨H,I,q⟩
 | str y=>
  obtain⟨t,rfl⟩:=rx
  obtain⟨hy,e'⟩:y.length<=sizeLine/\k=((y.length:Int) != 0):=e
  subst e'
  exact PySem.P.truthy_str (by omega) ⟨H,I.tok _,q⟩
 | mY y=>
  obtain⟨t,rfl⟩:=rx
  obtain⟨hy,e'⟩:y.size<=sizeLine/\k=((y.size:Int) != 0):=e
  subst e'
  exact PySem.W.truthy_bytes (by omega) ⟨H,I.tok _,q⟩
 | ref p=>
  cases rx
  have e':(∃xs,bM X.K H p xs/\k= !xs.isEmpty)∨(∃xs,bF X.K H p xs/\k= !xs.isEmpty)∨∃kvs,H p=some (.dK kvs)/\k= !kvs.isEmpty:=e
  rcases e' with⟨xs,hx,e'⟩ | ⟨xs,hx,e'⟩ | ⟨kvs,hx,e'⟩
  ·subst e'
   obtain⟨its,r,pl,hz⟩:=I.list hx
   have hlen:=r.length
   exact wpAny_truthy_list pl.isList (by simp only[Ai];omega) ⟨H,I.tok _,by rw[vy r];exact q⟩
  ·subst e'
   obtain⟨its,r,pl,hz⟩:=I.tuple hx
   have hlen:=r.length
   exact truthy_tuple pl (by simp only[Ai];omega) ⟨H,I.tok _,by rw[vy r];exact q⟩
  ·subst e'
   obtain⟨hz,hS,vs,r,m⟩:kvs.length<=sizeLine/\(p == Ba)=false/\∃vs,KV kvs vs/\s.heap.DictOf (bf X.prog X.w) p vs:=I.hok p _ hx
   have hlen:kvs.length=vs.length:=Ag r
   exact wpAny_truthy_dict hS m (by omega) ⟨H,I.tok _,by rw[Mk r];exact q⟩
 | _=>exact(show False from e).elim
theorem qj(ha:PE X a ta)(he:∀whole,isTrue a X.env whole=(do let v <-whole;standAt a.pos;holding [v] (truthy v))):
  PT X a (λσ H Q=>ta σ H λx H'=>∃k,WU X.K x H' k/\Q k H'):=by
 intro pins s σ H Q I h
 exact isTrue_plain (aQ (ha pins s σ H _ I h) λv s1 ⟨x,H1,I1,r1,q1⟩=>WV pins s1 σ H1 x v Q I1 r1 q1) (he _)
theorem vz:dY X (CM .Add) (λx y H Q=>∃i j,x=.str i/\y=.str j/\i.length+j.length<=sizeLine/\Q (.str (i++j)) H):=by
 intro pins s σ H x y v u Q I rx ry h
 obtain⟨i,j,rfl,rfl,hz,q⟩:=h
 obtain⟨t,rfl⟩:=rx
 obtain⟨t',rfl⟩:=ry
 exact add_str (λt' tk=>⟨.str (i++j),H,I.tok _,⟨_,rfl⟩,q⟩) hz
theorem vals1{x:V}{us:List Value}(r:Vals [x] us):∃u,us=[u]/\RelV x u:=by
 cases r with
 | cons r1 r2=>cases r2;exact⟨_,rfl,r1⟩
theorem vals2{x y:V}{us:List Value}(r:Vals [x,y] us):∃u w',us=[u,w']/\RelV x u/\RelV y w':=by
 cases r with
 | cons r1 r2=>
  cases r2 with
  | cons r3 r4=>cases r4;exact⟨_,_,rfl,r1,r3⟩
theorem zT:cY X (.builtin "abs") (λxs H Q=>∃i,xs=[.int i]/\Q (.int (if i<0 then-i else i)) H):=by
 intro pins s σ H xs us Q I r h
 obtain⟨i,rfl,q⟩:=h
 obtain⟨u,rfl,t,rfl⟩:=vals1 r
 exact call_abs_int λu tk=>⟨.int (if i<0 then-i else i),H,I.tok _,⟨_,rfl⟩,q⟩
theorem xQ(hc:X.calm=true):cY X (.builtin "max") (λxs H Q=>∃i j,xs=[.int i,.int j]/\Q (.int (if j>i then j else i)) H):=by
 intro pins s σ H xs us Q I r h
 obtain⟨i,j,rfl,q⟩:=h
 obtain⟨u,w',rfl,⟨t,rfl⟩,⟨t',rfl⟩⟩:=vals2 r
 refine max_two_ints (I.ok.hd hc) λh' tk k=>⟨_,H,I.kept k,?_,q⟩
 by_cases hj:j>i
 ·rw[if_pos hj,if_pos hj];exact⟨_,rfl⟩
 ·rw[if_neg hj,if_neg hj];exact⟨_,rfl⟩
theorem NR:cY X (.type "int") (λxs H Q=>(∃i,xs=[.int i]/\Q (.int i) H)∨∃k,xs=[.bl k]/\Q (.int (if k then 1 else 0)) H):=by
 intro pins s σ H xs us Q I r h
 rcases h with⟨i,rfl,q⟩ | ⟨k,rfl,q⟩
 ·obtain⟨u,rfl,t,rfl⟩:=vals1 r
  exact call_int_int ⟨.int i,H,I,⟨_,rfl⟩,q⟩
 ·obtain⟨u,rfl,r1⟩:=vals1 r
  cases r1
  exact call_int_bool ⟨.int (if k then 1 else 0),H,I.tok _,⟨_,rfl⟩,q⟩
theorem Ml:cY X (.type "bool") (λxs H Q=>(∃i,xs=[.int i]/\Q (.bl (i != 0)) H)∨∃k,xs=[.bl k]/\Q (.bl k) H):=by
 intro pins s σ H xs us Q I r h
 rcases h with⟨i,rfl,q⟩ | ⟨k,rfl,q⟩
 ·obtain⟨u,rfl,t,rfl⟩:=vals1 r
  exact call_bool_int ⟨.bl (i != 0),H,I,rfl,q⟩
 ·obtain⟨u,rfl,r1⟩:=vals1 r
  cases r1
  exact call_bool_bool ⟨.bl k,H,I,rfl,q⟩
def WW(K:AB)(x:V)(H:Hp)(n:Nat):Prop:=
 match x with
 | .str y=>y.length<=sizeLine/\n=y.length
 | .mY y=>y.size<=sizeLine/\n=y.size
 | .ref p=>(∃xs,bM K H p xs/\n=xs.length)∨∃xs,bF K H p xs/\n=xs.length
 | _=>False
theorem Q0:cY X (.builtin "len") (λxs H Q=>∃x n,xs=[x]/\WW X.K x H n/\Q (.int n) H):=by
 intro pins s σ H xs us Q I r h
 obtain⟨x,n,rfl,e,q⟩:=h
 obtain⟨u,rfl,rx⟩:=vals1 r
 have hl:=rS
 have hs:sizeLine=16777216:=FV
 cases x with
 | str y=>
  obtain⟨t,rfl⟩:=rx
  obtain⟨hy,e'⟩:y.length<=sizeLine/\n=y.length:=e
  subst e'
  exact len_str (by omega) ⟨.int _,H,I.tok _,⟨_,rfl⟩,q⟩
 | mY y=>
  obtain⟨t,rfl⟩:=rx
  obtain⟨hy,e'⟩:y.size<=sizeLine/\n=y.size:=e
  subst e'
  exact PySem.W.len_bytes (by omega) ⟨.int _,H,I.tok _,⟨_,rfl⟩,q⟩
 | ref p=>
  cases rx
  have e':(∃xs,bM X.K H p xs/\n=xs.length)∨∃xs,bF X.K H p xs/\n=xs.length:=e
  rcases e' with⟨xs,hx,e'⟩ | ⟨xs,hx,e'⟩
  ·subst e'
   obtain⟨its,r',pl,hz⟩:=I.list hx
   have hlen:=r'.length
   exact Calls.call_len_list pl.isList (by simp only[Ai];omega) ⟨.int xs.length,H,I.tok _,⟨_,by simp only[Ai];rw[hlen]⟩,q⟩
  ·subst e'
   obtain⟨its,r',pl,hz⟩:=I.tuple hx
   have hlen:=r'.length
   exact len_tuple pl (by simp only[Ai];omega) ⟨.int xs.length,H,I.tok _,⟨_,by simp only[Ai];rw[hlen]⟩,q⟩
 | _=>exact(show False from e).elim
end
structure Q3 (h:Heap)(x dx C:Addr)(mA:Str->Option Value):Prop where
 obj:h.get? x=some (GS C dx)
 ns:h.Ns1 dx mA
 ne:dx≠x
theorem NS{h:Heap}{dx:Addr}{mA:Str->Option Value}(n:h.Ns1 dx mA):∃od,h.get? dx=some od/\∀name,Gr name od=some (mA name):=by
 obtain⟨o,es,ep,ho,hd,hk,_,hm⟩:=n
 refine⟨o,ho,λname=>?_⟩
 have e:=hm name
 unfold nsFind findBy at e
 rw[<-Array.find?_toList] at e
 unfold Gr
 rw[hd]
 dsimp only
 split
 ·rename_i y q
  rw[q] at e
  exact congrArg some e
 ·rename_i q
  rw[q] at e
  have a:es.toList.any (·.refKey)=false:=by
   rw[List.any_eq_false]
   intro y hy
   obtain⟨z,t,hkey⟩:=hk y (Array.mem_toList_iff.mp hy)
   simp[DictEntry.refKey,hkey]
  have a':¬es.toList.any (·.refKey)=true:=by rw[a];exact An
  rw[if_neg a']
  exact congrArg some e
theorem Q3.look{h:Heap}{x dx C:Addr}{mA:Str->Option Value}(I:Q3 h x dx C mA):∃od,PySem.W.InstAt h x (GS C dx) C (some od)/\∀name,Gr name od=some (mA name):=
 let ⟨od,ho,hl⟩:=NS I.ns
 ⟨od,⟨I.obj,rfl,rfl,ho⟩,hl⟩
theorem iu.some_of{v:V}{o:Option Value}(r:iu (some v) o):∃u,o=some u/\RelV v u:=by
 cases o with
 | none=>exact(show False from r).elim
 | some u=>exact⟨u,rfl,r⟩
theorem iu.none_of{o:Option Value}(r:iu none o):o=none:=by
 cases o with
 | none=>rfl
 | some u=>exact(show False from r).elim
section
variable{P:Ah}{w:World}{H H':Hp}{h h':Heap}{a C dx:Addr}{fs fs':List (Str×V)}
theorem Vq(hok:dW P w H h)(e:H a=some (.ins C dx fs)):∃mA,Q3 h a dx C mA/\(∀f,iu (fs.lookup f) (mA f))/\PySem.Within mA (fs.map (·.1))/\fs.length<=1000/\H dx=some (.own a):=by
 obtain⟨d,z,ne,ob,mA,n,r,q⟩:=(show bN P w H h a (.ins C dx fs) from hok a _ e)
 exact⟨mA,⟨ob,n,ne⟩,r,q,z,d⟩
end
structure Cls (K:AB)(C:Addr):Prop where
 pg:Hn K C Str.empty=true
 hd:PySem.W.hasDictIn K C=true
 po:PySem.W.plainOver K C=true
 sa:PySem.W.findIn K (.ref C) "__setattr__"=some (some (.builtin "object.__setattr__"))
theorem Cls.get{K:AB}{C:Addr}(c:Cls K C)(f:Str):Hn K C f=true:=c.pg
section
variable{X:Cx}{pins:List (Addr×Obj)}{σ:St}{H:Hp}{s:AN}{A:BB}{E:Value->AN->Prop}{Q:Value->AN->Prop}{c:Value}{b:Bool}
inductive jQ (K:AB)(H:Hp):V->Value->Prop where
 | non:jQ K H .non (.type "NoneType")
 | bl (x:Bool):jQ K H (.bl x) (.type "bool")
 | int (i:Int):jQ K H (.int i) (.type "int")
 | str (x:Str):jQ K H (.str x) (.type "str")
 | flt (x:UInt64):jQ K H (.flt x) (.type "float")
 | lst {a:Addr} {xs:List V} (e:H a=some (.lst xs)):jQ K H (.ref a) (.type "list")
 | eZ {a:Addr} {o:Obj} {xs:List V} (e:H a=some (.eZ o (.lst xs))):jQ K H (.ref a) (.type "list")
 | tup {a:Addr} {xs:List V} (e:H a=some (.tup xs)):jQ K H (.ref a) (.type "tuple")
 | dK {a:Addr} {kvs:List (Key×V)} (e:H a=some (.dK kvs)):jQ K H (.ref a) (.type "dict")
 | dT {a:Addr} {kvs:List (List Key×V)} (e:H a=some (.dT kvs)):jQ K H (.ref a) (.type "dict")
 | ins {a C dx:Addr} {fs:List (Str×V)} (e:H a=some (.ins C dx fs)) (cl:Cls K C) (ha:PySem.W.findIn K (.ref C) "__class__"=some (some (.builtin "object.__class__")))
   (hn:PySem.W.specialIn K (.builtin "object.__class__") "__get__"=some (some (.builtin "getset_descriptor.__get__"))) (htk:PySem.W.takesIn K (.builtin "object.__class__")=some true)
   (hm:PySem.W.mroIn K C (.type "object")=some true):jQ K H (.ref a) (.ref C)
theorem NT{x:V}{u t:Value}(I:Inv X pins σ H s)(rx:RelV x u)(ty:jQ X.K H x t)(e:CN X.K t c=some b)(h:∀tk,Q (.bool b) {s with toks:=tk}):
  wpAny (model X.prog X.w) A (call (.builtin "isinstance") [u,c]) Q E s:=by
 cases ty with
 | non=>cases(show u=Bz from rx);exact Bo PySem.W.kitx_none I.i8 BU e (λz=>nomatch z) h
 | bl y=>cases(show u=Hv y from rx);exact Bo PySem.W.kitx_bool I.i8 BU e (λz=>nomatch z) h
 | int i=>obtain⟨t,q⟩:=(show ∃t,u=Fm i t from rx);cases q;exact Bo PySem.W.kitx_int I.i8 BU e (λz=>nomatch z) h
 | str y=>obtain⟨t,q⟩:=(show ∃t,u=ES y t from rx);cases q;exact Bo PySem.W.kitx_str I.i8 BU e (λz=>nomatch z) h
 | flt y=>obtain⟨t,q⟩:=(show ∃t,u=Value.float y t from rx);cases q;exact Bo PySem.W.kitx_float I.i8 BU e (λz=>nomatch z) h
 | @lst a xs ea=>
  cases(show u=BF a from rx)
  obtain⟨_,_,n,_,h1⟩:=(show bN X.prog X.w H s.heap a (.lst xs) from I.hok a _ ea)
  exact Bo HY I.i8 ⟨_,h1,rfl⟩ e (λz=>nomatch z) h
 | @eZ a ob xs ea=>
  cases(show u=BF a from rx)
  obtain⟨_,_,_,n,_,h1⟩:=(show bN X.prog X.w H s.heap a (.eZ ob (.lst xs)) from I.hok a _ ea)
  exact Bo HY I.i8 ⟨_,h1,rfl⟩ e (λz=>nomatch z) h
 | @tup a xs ea=>
  cases(show u=BF a from rx)
  obtain⟨_,_,_,p⟩:=(show bN X.prog X.w H s.heap a (.tup xs) from I.hok a _ ea)
  obtain⟨o,h1,h2,_⟩:=p
  exact Bo PySem.W.kitx_tuple I.i8 ⟨o,h1,h2⟩ e (λz=>nomatch z) h
 | @dK a kvs ea=>
  cases(show u=BF a from rx)
  obtain⟨_,_,vs,_,p⟩:=(show bN X.prog X.w H s.heap a (.dK kvs) from I.hok a _ ea)
  obtain⟨o,es,ep,h1,h2,_⟩:=p
  exact Bo HZ I.i8 ⟨o,h1,h2.1⟩ e (λz=>nomatch z) h
 | @dT a kvs ea=>
  cases(show u=BF a from rx)
  obtain⟨_,_,xs,_,o,es,ep,h1,h2,_⟩:=(show bN X.prog X.w H s.heap a (.dT kvs) from I.hok a _ ea)
  exact Bo HZ I.i8 ⟨o,h1,h2.1⟩ e (λz=>nomatch z) h
 | @ins a C dx fs ea cl ha hn htk hm=>
  cases(show u=BF a from rx)
  obtain⟨mA,O,_⟩:=Vq I.hok ea
  obtain⟨od,J,_⟩:=O.look
  exact Bo (PySem.W.kitx_own (cl.get _) cl.hd ha hn htk hm) I.i8 J e (λz=>nomatch z) h
end
structure aK (k:Nat)(A:BB):Prop where
 hd:A.handled=none
 dp:A.depth+3*k+5<recursionLimit
 un:A.units+16*k+200<cLine
 gd:A.guards=some []
theorem aK.mono{j k:Nat}{A:BB}(r:aK k A)(h:j<=k):aK j A:=⟨r.hd,by have:=r.dp;omega,by have:=r.un;omega,r.gd⟩
theorem aK.deeper{k:Nat}{A:BB}(r:aK (k+1) A)(env:Env):aK k (A.deeper env):=
 ⟨r.hd,by have:=r.dp;show A.depth+1+3*k+5<_;omega,by have:=r.un;show A.units+3+16*k+200<_;omega,r.gd⟩
theorem aK.depth{k:Nat}{A:BB}(r:aK k A):A.depth<recursionLimit:=by have:=r.dp;omega
theorem aK.units{k:Nat}{A:BB}(r:aK k A):A.units+64<cLine:=by have:=r.un;omega
def WX:TA:=λ_ H Q=>Q [] H
def Tx(ta:TE)(tr:TA):TA:=λσ H Q=>ta σ H λx H1=>tr σ H1 λxs H2=>Q (x::xs) H2
section
variable{X:Cx}{e:Expr}{es:List Expr}{te:TE}{t:TA}{pos:Pos}
theorem ag:PA X [] WX:=λ_ _ _ _ H Q I h=>D_ ⟨[],H,I,.nil,h⟩
theorem ae(ha:PE X e te)(hr:PA X es t)(hs:BE (e::es) X.env=(false,eval e X.env)::BE es X.env:=by rfl):PA X (e::es) (Tx te t):=by
 intro pos pins s σ H Q I h
 rw[hs]
 show wpAny _ _ (spliced ((false,eval e X.env)::D8 pos (BE es X.env))) _ _ s
 refine Cb (aQ (ha pins s σ H _ I h) ?_)
 rintro u s1 ⟨x,H1,I1,r1,q1⟩
 refine aQ (hr pos pins s1 σ H1 _ I1 q1) ?_
 rintro us s2 ⟨xs,H2,I2,r2,q2⟩
 exact⟨x::xs,H2,I2,.cons r1 r2,q2⟩
def aed(t:TA):TE:=λσ H Q=>t σ H λxs H1=>xs.length<=sizeLine/\∀p,H1 p=none->Q (.ref p) (upd H1 p (.tup xs))
def aee(t:TA):TE:=λσ H Q=>t σ H λxs H1=>xs.length<=sizeLine/\∀p,H1 p=none->Q (.ref p) (upd H1 p (.lst xs))
theorem bq{x1}(h:PA X es t):PE X (.Tuple es x1 pos) (aed t):=by
 intro pins s σ H Q I hq
 refine wpAny_Tuple_spliced (aQ (h pos pins s σ H _ I hq) ?_)
 rintro us s1 ⟨xs,H1,I1,r,z,q⟩
 refine⟨by rw[<-r.length];exact z,?_⟩
 have hf:H1 s1.heap.objs.size=none:=I1.hok.fresh (AM _)
 refine⟨.ref s1.heap.objs.size,upd H1 s1.heap.objs.size (.tup xs),I1.laid (t':=s1.toks) (λb u e=>AE _ e) (AM _) ?_,rfl,q _ hf⟩
 exact⟨⟨z,_,AV _ rfl,rfl⟩,us,r,⟨_,AV _ rfl,rfl,_,rfl⟩⟩
theorem df(h:PA X es t):PE X (.List es pos) (aee t):=by
 intro pins s σ H Q I hq
 refine wpAny_List_spliced (aQ (h pos pins s σ H _ I hq) ?_)
 rintro us s1 ⟨xs,H1,I1,r,z,q⟩
 refine⟨by rw[<-r.length];exact z,?_⟩
 have hf:H1 s1.heap.objs.size=none:=I1.hok.fresh (AM _)
 refine⟨.ref s1.heap.objs.size,upd H1 s1.heap.objs.size (.lst xs),I1.laid (t':=s1.toks) (λb u e=>AE _ e) (AM _) ?_,rfl,q _ hf⟩
 exact⟨z,us,0,r,AV _ rfl⟩
end
abbrev Sp:=List V->Hp->VK->XK->Prop
abbrev rV:=List Env->Hp->AN->XK->Value->AN->Prop
structure wM (P:Ah)(w:World)(K:AB)(mg:Str->Option Value)(base:Heap)(A:BB)(outer:List Env)(s:AN)(H:Hp):Prop where
 frames:A.frames=some outer
 mod:Mod K mg base
 bs:∀b o,base.get? b=some o->s.heap.get? b=some o/\H b=none
 ua:base.objs.size<=s.heap.objs.size
 kh:s.heap.FunFrames base outer
 zJ:∀b∈frs outer,H b=none
 hok:dW P w H s.heap
 bare:FT s.gens
def CE(outer:List Env)(P:Ah)(w:World)(H:Hp)(s:AN)(Q:VK)(u:Value)(s':AN):Prop:=
 ∃v H',s'.os=s.os/\FT s'.gens/\Un (frs outer) [] H H' s.heap s'.heap/\dW P w H' s'.heap/\RelV v u/\Q v H'
def CR(CX:rV)(outer:List Env)(P:Ah)(w:World)(H:Hp)(s:AN)(Q:VK)(E:XK)(r:Result)(s':AN):Prop:=
 match r with
 | .ok (.ret u)=>CE outer P w H s Q u s'
 | .ok _=>False
 | .error e=>CX outer H s E e s'
structure aO (P:Ah)(w:World)(K:AB)(mg:Str->Option Value)(base:Heap)(CX:rV)(k:Nat)(f:Addr)(fd:Av)(ps:List Str)(sp:Sp):Prop where
 len:∀vs H Q E,sp vs H Q E->vs.length=ps.length
 run:∀(A:BB) (outer:List Env) (s:AN) (H:Hp) (args:Args) (us:List Value) (vs:List V) (Q:VK) (E:XK),aK k A->wM P w K mg base A outer s H->Ha s fd args (ps.zip us)->Vals vs us->sp vs H Q E->
  Ea (model P w) A (.call (.ref f) args) (CR CX outer P w H s Q E) s
theorem aO.mono{P:Ah}{w:World}{K:AB}{mg:Str->Option Value}{base:Heap}{CX:rV}{j k:Nat}{f:Addr}{fd:Av}{ps:List Str}{sp:Sp}(F:aO P w K mg base CX j f fd ps sp)(h:j<=k):
  aO P w K mg base CX k f fd ps sp:=⟨F.len,λA outer s H args us vs Q E hr=>F.run A outer s H args us vs Q E (hr.mono h)⟩
section
variable{X:Cx}{pins:List (Addr×Obj)}{σ:St}{H:Hp}{s s':AN}
theorem Inv.env0(I:Inv X pins σ H s):wM X.prog X.w X.K X.mg X.base X.A X.stack s H:=
 ⟨I.ok.frames,I.ok.mod,I.bs,A5 I.ok.ua I.sz,I.stack,I.pJ,I.hok,I.bare⟩
theorem Inv.after{Q:VK}{u:Value}(I:Inv X pins σ H s)(h:CE X.stack X.prog X.w H s Q u s'):EP X pins σ Q u s':=by
 obtain⟨v,H',os,bare,un,hok,r,q⟩:=h
 obtain⟨hh,g,d,t,os'⟩:=s'
 obtain rfl:os'=s.os:=os
 exact⟨v,H',I.call (h':=hh) (g':=g) (d':=d) (t':=t) (ch:=[]) un hok bare (λb z=>absurd z (by simp)),r,q⟩
end
def aa3(sp:Sp)(vA:List V)(E:XK)(t:TA):TE:=λσ H Q=>t σ H λvs H1=>sp (vs++vA) H1 Q E
def Binds(K:AB)(fd:Av)(ps:List Str)(ds:List Value):Prop:=
 ∀(s:AN) (us:List Value),K.In s.heap->(us++ds).length=ps.length->Ha s fd ⟨us,[]⟩ (ps.zip (us++ds))
theorem Binds.all{K:AB}{fd:Av}{ps:List Str}(h:∀us:List Value,us.length=ps.length->Hb fd ⟨us,[]⟩=pure (ps.zip us)):Binds K fd ps []:=λs us _ hl=>by
 rw[A8] at hl ⊢
 exact .of_eq (h us hl)
def Passes(CX:rV)(X:Cx)(E:XK):Prop:=∀(pins:List (Addr×Obj)) (σ:St) (H:Hp) (s:AN) (e:Value) (s':AN),Inv X pins σ H s->CX X.stack H s E e s'->X.xe e s'
section
variable{X:Cx}{CX:rV}{k:Nat}{f C:Addr}{fd:Av}{ps:List Str}{sp:Sp}{vA:List V}{ds:List Value}{E:XK}{x m:Str}{p pos apos:Pos}{e o:Expr}{es:List Expr}{ta:TE}{t:TA}
theorem NU{pins:List (Addr×Obj)}{σ:St}{H:Hp}{s:AN}{Q:VK}{us:List Value}{vs:List V}(F:aO X.prog X.w X.K X.mg X.base CX k f fd ps sp)(hr:aK k X.A)(hb:Binds X.K fd ps ds)(hd:Vals vA ds)(hx:Passes CX X E)
  (I:Inv X pins σ H s) (r:Vals vs us) (h:sp (vs++vA) H Q E):wpAny (model X.prog X.w) X.A (call (.ref f) us) (EP X pins σ Q) X.xe s:=by
 have r2:Vals (vs++vA) (us++ds):=r.append hd
 have hl:(us++ds).length=ps.length:=by rw[<-r2.length];exact F.len _ _ _ _ h
 refine wpAny_call (EA (F.run X.A X.stack s H ⟨us,[]⟩ (us++ds) (vs++vA) Q E hr I.env0 (hb s us I.i8 hl) r2 h) λr s' hq=>?_)
 cases r with
 | error e=>exact hx pins σ H s e s' I hq
 | ok fl=>
  cases fl with
  | ret u=>exact I.after hq
  | next=>exact Bb hq
  | brk=>exact Bb hq
  | cont=>exact Bb hq
theorem aq(F:aO X.prog X.w X.K X.mg X.base CX k f fd ps sp)(hr:aK k X.A)(hg:Gl X x)(hm:X.mg x=some (.ref f))(hk:AH X.K (.ref f)=true)(hb:Binds X.K fd ps ds)(hd:Vals vA ds)(hx:Passes CX X E)
  (ha:PA X (e::es) t) (hdb:(x == ("__debug__":Str))=false:=by decide) (he:BE (e::es) X.env=(false,eval e X.env)::BE es X.env:=by rfl) (hpl:(D8 pos (BE es X.env)).any (·.1)=false:=by rfl):
  PE X (.Call (.Name x p) (e::es) [] pos) (aa3 sp vA E t):=by
 intro pins s σ H Q I h
 refine B2 (wK I hg hm ?_ hdb)
 refine HQ (h₀:=X.base) I.ok.mod.t9 hk (aQ (ha pos pins s σ H _ I h) ?_) he hpl
 rintro us s1 ⟨vs,H1,I1,r,q⟩
 refine⟨I1.i8,?_⟩
 exact NU F hr hb hd hx I1 r q
end
structure aP (N P:List Str)(sc:Scope):Prop where
 kind:sc.kind=.function
 co:sc.isCoroutine=false
 gen:sc.isGenerator=false
 nd:N.Nodup
 pre:N.take P.length=P
 par:∀x∈P,sc.names.lookup x=some .local∨sc.names.lookup x=some .cell
 WY:∀y∈sc.names,y.2≠.free
theorem xR{kindOf:Str->Option DQ}{x:Str}:∀{binds:List (Str×Value)} {m:Str->Option Value},(∀v,(x,v) ∉ binds)->bindL kindOf binds m x=m x
 | [],_,_=>rfl
 | (n,v)::r,m,h=>by
  unfold bindL
  rw[xR λw hw=>h w (AJ _ hw)]
  split
  ·have:x≠n:=by rintro rfl;exact h v AL
   simp[this]
  ·rfl
theorem xS{kindOf:Str->Option DQ}{x:Str}:∀{binds:List (Str×Value)} {m:Str->Option Value},(∀v,(x,v) ∉ binds)->bindC kindOf binds m x=m x
 | [],_,_=>rfl
 | (n,v)::r,m,h=>by
  unfold bindC
  rw[xS λw hw=>h w (AJ _ hw)]
  split
  ·rfl
  ·have:x≠n:=by rintro rfl;exact h v AL
   simp[this]
theorem xT{kindOf:Str->Option DQ}{x:Str}{v:Value}:∀{P:List Str} {vs:List Value} {i:Nat} {m:Str->Option Value},P.Nodup->P[i]? =some x->vs[i]? =some v->kindOf x=some .local->
  bindL kindOf (P.zip vs) m x=some v
 | [],_,_,_,_,h,_,_=>by simp at h
 | _::_,[],_,_,_,_,h,_=>by simp at h
 | p::P,w::vs,0,m,nd,h1,h2,hk=>by
  simp at h1 h2;subst h1;subst h2
  show bindL kindOf ((p,w)::P.zip vs) m p=_
  unfold bindL
  rw[xR λv hv=>(Bj.mp nd).1 (Dv hv).1,if_pos hk]
  simp
 | p::P,w::vs,i+1,m,nd,h1,h2,hk=>by
  show bindL kindOf ((p,w)::P.zip vs) m x=_
  unfold bindL
  exact xT (i:=i) (Bj.mp nd).2 (by simpa using h1) (by simpa using h2) hk
theorem xU{kindOf:Str->Option DQ}{x:Str}{v:Value}:∀{P:List Str} {vs:List Value} {i:Nat} {m:Str->Option Value},P.Nodup->P[i]? =some x->vs[i]? =some v->kindOf x≠some .local->
  bindC kindOf (P.zip vs) m x=some v
 | [],_,_,_,_,h,_,_=>by simp at h
 | _::_,[],_,_,_,_,h,_=>by simp at h
 | p::P,w::vs,0,m,nd,h1,h2,hk=>by
  simp at h1 h2;subst h1;subst h2
  show bindC kindOf ((p,w)::P.zip vs) m p=_
  unfold bindC
  rw[xS λv hv=>(Bj.mp nd).1 (Dv hv).1,if_neg hk]
  simp
 | p::P,w::vs,i+1,m,nd,h1,h2,hk=>by
  show bindC kindOf ((p,w)::P.zip vs) m x=_
  unfold bindC
  exact xU (i:=i) (Bj.mp nd).2 (by simpa using h1) (by simpa using h2) hk
def start(N:List Str)(vs:List V):St:=vs.map some++Bm (N.length-vs.length) none
def jR(CX:rV)(P:Ah)(w:World)(K:AB)(mg:Str->Option Value)(base:Heap)(N:List Str)(qual:Str)(scope:Scope)(f:Addr)(cd:Value)(A:BB)(outer:List Env)(s:AN)(H:Hp)(E:XK):Cx where
 prog:=P
 w:=w
 K:=K
 mg:=mg
 base:=base
 A:=A.deeper (Em qual scope s.heap.objs.size f cd)
 N:=N
 s₀:=s
 H₀:=H
 env:=Em qual scope s.heap.objs.size f cd
 outer:=outer
 stack:=Em qual scope s.heap.objs.size f cd::outer
 ex:=[]
 calm:=true
 fn:=λ_=>true
 pn:=[]
 xe:=λe s'=>wpAny (model P w) (A.deeper (Em qual scope s.heap.objs.size f cd)) (leaving (Em qual scope s.heap.objs.size f cd) e) (λ_ s''=>CX outer H s E e s'') (λe' s''=>CX outer H s E e' s'') s'
theorem cQ{sc:Scope}{n:Nat}{x:Str}(h:sc.names.lookup x=some .cell):∃c,(cellsFrom n sc.names []).lookup x=some c:=by
 have q:=EB sc.names n [] (.inl h)
 exact CI.mp q
theorem xV{CX:rV}{P:Ah}{w:World}{K:AB}{mg:Str->Option Value}{base:Heap}{N ps:List Str}{qual:Str}{scope:Scope}{f:Addr}{cd:Value}{A:BB}{outer:List Env}{s s1:AN}{H:Hp}{E:XK}{us:List Value}{vs:List V}
  (S:aP N ps scope) (hd:A.handled=none) (e0:wM P w K mg base A outer s H) (hl:vs.length=ps.length) (r:Vals vs us)
  (x:InCallC s s.heap.objs.size (bindL (Em qual scope s.heap.objs.size f cd).kindOf (ps.zip us) λ_=>none) (cellsFrom (s.heap.objs.size+1) scope.names []) (bindC (Em qual scope s.heap.objs.size f cd).kindOf (ps.zip us) λ_=>none) s1):
  Inv (jR CX P w K mg base N qual scope f cd A outer s H E) [] (start N vs) H s1:=by
 have hpl:ps.length<=N.length:=by have:=congrArg Ed S.pre;rw[Ao] at this;omega
 obtain⟨h1,tk,rfl,hk⟩:=x.done
 have ud:∀b:Addr,b ∉ (jR CX P w K mg base N qual scope f cd A outer s H E).ex:=λb z=>absurd (show b∈([]:List Addr) from z) (by simp)
 refine⟨⟨e0.mod,S.kind,rfl,rfl,AM _,λy z c h1 h2=>?_,λy hy=>?_,λy c _ h=>?_,λ_=>hd,Gs e0.frames,.inr ⟨rfl,rfl⟩,λb z=>absurd z (ud b),e0.bs,e0.ua,λb _ _=>ud b,λb z=>absurd z (ud b),e0.kh,e0.zJ⟩,
  rfl,e0.bare,Un.kept hk,⟨_,x.toInCall.ns,λi y v h1 h2 h3=>?_⟩,λy c h=>⟨_,x.cell y c h⟩,e0.hok.fresh (AM _),λy c h=>?_,λp hp=>absurd (show p∈([]:List (Addr×Obj)) from hp) (by simp),e0.hok.kept hk,?_⟩
 ·exact name_of_addr x.apart (Br h1) (Br h2)
 ·have hy:scope.names.lookup y=some .cell∨scope.names.lookup y=some .free:=hy
  rcases hy with hy | hy
  ·exact cQ hy
  ·exact absurd rfl (S.WY _ (Br hy))
 ·exact C8 (x.above y c (Br h))
 ·have hi:i<vs.length:=by
   unfold start at h2
   by_cases hi:i<vs.length
   ·exact hi
   ·rw[Aq (by simpa using hi)] at h2
    rw[Fn] at h2
    split at h2<;>cases h2
  have ha:vs[i]? =some v:=by
   unfold start at h2
   rw[Ax (by simpa using hi),AU] at h2
   cases e:vs[i]? with
   | none=>rw[e] at h2;cases h2
   | some a=>rw[e] at h2;cases h2;rfl
  obtain⟨u,hu,rv⟩:=r.get ha
  have hp:ps[i]? =some y:=by
   rw[<-S.pre,FZ (by omega)];exact h1
  have Tz:ps.Nodup:=by rw[<-S.pre];exact S.nd.sublist (List.take_sublist _ _)
  refine⟨u,rv,?_⟩
  rcases S.par y (AG hp) with k | k
  ·exact .inl ⟨k,xT Tz hp hu k⟩
  ·obtain⟨c,e⟩:=cQ (n:=s.heap.objs.size+1) k
   refine .inr ⟨.inl k,c,e,?_⟩
   have q:=x.cell y c e
   rw[xU Tz hp hu (by show scope.names.lookup y≠_;rw[k];decide)] at q
   exact q
 ·exact e0.hok.fresh (C8 (x.above y c (Br h)))
 ·unfold start
  show _=N.length
  rw[AK,AA,Cg]
  omega
theorem TC{CX:rV}{P:Ah}{w:World}{K:AB}{mg:Str->Option Value}{base:Heap}{k:Nat}{f:Addr}{name qual:Str}{params:EV}{body:List Stmt}{scope:Scope}{dV kV doc pm cdv ct oc:Value}{an od:Option Addr}
  {osl:Array (Option Value)} {N ps:List Str} {sp:Sp} (lk:K.lookup f=some ⟨oc,od,.func (Ad name qual params body scope dV kV doc pm an cdv ct),osl⟩) (hcd:Af K cdv qual=true) (S:aP N ps scope)
  (len:∀vs H Q E,sp vs H Q E->vs.length=ps.length)
  (hbody:∀(A:BB) (outer:List Env) (s:AN) (H:Hp) (vs:List V) (Q:VK) (E:XK),aK k (A.deeper (Em qual scope s.heap.objs.size f cdv))->sp vs H Q E->
   ∃t,oB (jR CX P w K mg base N qual scope f cdv A outer s H E) body t/\t {nx:=λ_ H'=>Q .non H',rt:=Q} (start N vs) H):
  aO P w K mg base CX (k+1) f (Ad name qual params body scope dV kV doc pm an cdv ct) ps sp:=by
 refine⟨len,λA outer s H args us vs Q E hr e0 hb r hsp=>?_⟩
 have hl:=len _ _ _ _ hsp
 have KX:K.In s.heap:=e0.mod.t9.keeps λb o e=>(e0.bs b o e).1
 have lim:s.heap.NoLimit:=e0.mod.nolimit.keeps λb o e=>(e0.bs b o e).1
 have hkind:∀y∈ps.zip us,scope.names.lookup y.1=some .local∨(scope.names.lookup y.1=some .cell/\((cellsFrom (s.heap.objs.size+1) scope.names []).lookup y.1).isSome=true):=λ⟨n,v⟩ hy=>by
  rcases S.par n (Dv hy).1 with q | q
  ·exact .inl q
  ·exact .inr ⟨q,EB _ _ _ (.inl q)⟩
 refine codeAny_call_function hr.depth (KX _ _ lk) rfl S.co S.gen rfl (HR KX hcd) (hb _ _ _ _ ?_)
 refine E7 S.kind hkind λenv he s1 x=>?_
 subst he
 refine⟨lim.keeps x.toInCall.keep,codeAny_func ?_⟩
 obtain⟨t,ht,hq⟩:=hbody A outer s H vs Q E (hr.deeper _) hsp
 have I:Inv (jR CX P w K mg base N qual scope f cdv A outer s H E) [] (start N vs) H s1:=xV S hr.hd e0 hl r x
 refine B0 (ht [] s1 (start N vs) H _ I hq) (λfl s' hs=>?_) λe s' hs=>hs
 have fin:∀{σ':St} {H':Hp} {v:V} {u:Value},Inv (jR CX P w K mg base N qual scope f cdv A outer s H E) [] σ' H' s'->RelV v u->Q v H'->CE outer P w H s Q u s':=
  λ{σ' H' v u} J rv q=>⟨v,H',J.os,J.bare,J.base,J.hok,rv,q⟩
 cases fl with
 | ret u=>
  obtain⟨v,σ',H',J,rv,q⟩:=hs
  exact fin J rv q
 | next=>
  obtain⟨σ',H',J,q⟩:=hs
  exact fin (v:=V.non) (u:=Bz) J rfl q
 | brk=>
  obtain⟨_,_,_,q⟩:=hs
  exact Bb q
 | cont=>
  obtain⟨_,_,_,q⟩:=hs
  exact Bb q
section
variable{X:Cx}{x:Str}{p pos:Pos}{e:Expr}{es:List Expr}{t:TA}{id T:String}{r:List V->Hp->VK->Prop}
def tCB(r:List V->Hp->VK->Prop)(t:TA):TE:=λσ H Q=>t σ H λvs H1=>r vs H1 Q
theorem bo(hc:cY X (.builtin id) r)(hg:Gl X x)(hm:X.mg x=none)(hv:BN x=some (.builtin id))(ha:PA X (e::es) t)(hn:x≠"__name__":=by decide)(hdb:(x == ("__debug__":Str))=false:=by decide)
  (he:BE (e::es) X.env=(false,eval e X.env)::BE es X.env:=by rfl) (hpl:(D8 pos (BE es X.env)).any (·.1)=false:=by rfl):PE X (.Call (.Name x p) (e::es) [] pos) (tCB r t):=by
 intro pins s σ H Q I h
 refine B2 (i9 I hg hm hv ?_ hn hdb)
 exact PyProof.Rows.callWith_builtin1 (aQ (ha pos pins s σ H _ I h) λus s1 ⟨vs,H1,I1,r1,q1⟩=>hc pins s1 σ H1 vs us Q I1 r1 q1) he hpl
theorem bw(hc:cY X (.type T) r)(hg:Gl X x)(hm:X.mg x=none)(hv:BN x=some (.type T))(ha:PA X (e::es) t)(hn:x≠"__name__":=by decide)(hdb:(x == ("__debug__":Str))=false:=by decide)
  (he:BE (e::es) X.env=(false,eval e X.env)::BE es X.env:=by rfl) (hpl:(D8 pos (BE es X.env)).any (·.1)=false:=by rfl):PE X (.Call (.Name x p) (e::es) [] pos) (tCB r t):=by
 intro pins s σ H Q I h
 refine B2 (i9 I hg hm hv ?_ hn hdb)
 exact BP (aQ (ha pos pins s σ H _ I h) λus s1 ⟨vs,H1,I1,r1,q1⟩=>hc pins s1 σ H1 vs us Q I1 r1 q1) he hpl
end
end L2
namespace HT
open PySem PyProof.Rows
section
variable{prog:Ah}{w:World}{A:BB}{E:Value->AN->Prop}{s:AN}
theorem Vr{t b:Addr}{vs ws:List Value}{Q:Value->AN->Prop}(ht:IsTup s.heap t vs.toArray)(hb:IsTup s.heap b ws.toArray)(hv:vs≠[])
  (h1:ws=[]->Q (.ref t) s) (h2:ws≠[]->Q (.ref s.heap.objs.size) {s with heap:=s.heap.push {cls:=.type "tuple",data:=.seq (vs++ws).toArray}})
  (hsz:vs.length+ws.length<=sizeLine):wpAny (model prog w) A (CM .Add (.ref t) (.ref b)) Q E s:=by
 obtain⟨⟨cls,dd,data,sl⟩,ho,hc,n,hd⟩:=id ht
 obtain⟨⟨cls2,dd2,data2,sl2⟩,ho2,hc2,n2,hd2⟩:=id hb
 simp only at hc hd hc2 hd2
 subst hc hd hc2 hd2
 have e:vs.toArray++ws.toArray=(vs++ws).toArray:=by simp
 by_cases hw:ws=[]
 ·exact concat_meets ⟨_,ho,rfl⟩ ⟨_,ho2,rfl⟩ Fp HH EC D5 (Dk _ _)
   (tuple_addW1 t b vs.toArray ws.toArray n n2 dd dd2 sl sl2 (by simpa using hv) (by simp[hw])) ⟨ho,ho2,h1 hw⟩
 ·refine concat_meets ⟨_,ho,rfl⟩ ⟨_,ho2,rfl⟩ Fp HH EC D5 (Dk _ _)
   (tuple_addW2 t b vs.toArray ws.toArray n n2 dd dd2 sl sl2 (by simpa using hv) (by simpa using hw) (by rw[Ai,Ai];exact hsz)) ⟨ho,ho2,?_⟩
  rw[e]
  exact h2 hw
def bx(n d:Nat):Option Int->Nat
 | none=>d
 | some v=>if v<0 then(v+(n:Int)).toNat else min v.toNat n
theorem zU(n d:Nat):bx n d none=d:=rfl
theorem wN(n d k:Nat):bx n d (some (k:Int))=min k n:=by
 show(if(k:Int)<0 then((k:Int)+(n:Int)).toNat else min (k:Int).toNat n)=min k n
 rw[if_neg (by omega),Au]
theorem WZ(n d:Nat)(hd:d<=n)(o:Option Int):bx n d o<=n:=by
 cases o with
 | none=>exact hd
 | some v=>
  show(if v<0 then(v+(n:Int)).toNat else min v.toNat n)<=n
  by_cases hv:v<0
  ·rw[if_pos hv];omega
  ·rw[if_neg hv];exact Nat.min_le_right _ _
theorem Ld(v:Int)(n d:Nat):(if v<0 then max (v+(n:Int)) 0 else min v (n:Int))=((bx n d (some v):Nat):Int):=by
 show(if v<0 then max (v+(n:Int)) 0 else min v (n:Int))=(((if v<0 then(v+(n:Int)).toNat else min v.toNat n):Nat):Int)
 by_cases hv:v<0
 ·simp only[if_pos hv];omega
 ·simp only[if_neg hv];omega
theorem Mm(lo hi:Option Int)(n:Nat):Dd lo hi 1 (n:Int)=(((bx n 0 lo:Nat):Int),((bx n n hi:Nat):Int)):=by
 have h1:¬((1:Int)<0):=by omega
 unfold Dd
 simp only[h1,if_false]
 refine Prod.ext ?_ ?_
 ·cases lo with
  | none=>rfl
  | some v=>exact Ld v n 0
 ·cases hi with
  | none=>rfl
  | some v=>exact Ld v n n
theorem Mn(i j:Nat):Ck (i:Int) (j:Int) 1=j-i:=by
 unfold Ck
 have h1:(1:Int)>0:=by omega
 simp only[h1,if_true,Int.ediv_one]
 split<;>omega
theorem vB{v:Value}{o:Option Int}{Q:Option Int->AN->Prop}(p:Fb v o)(h:Q o s):wpAny (model prog w) A (Builtin.Slice.slicePartIndex v) Q E s:=by
 cases p with
 | none=>exact slicePart_none h
 | int i t=>exact slicePart_int h
theorem m8{sl:Addr}{vl vu:Value}{lo hi:Option Int}{n:Nat}{Q:Int×Int×Nat->AN->Prop}(hs:s.heap.IsSliceOf sl vl vu .none)(pl:Fb vl lo)(pu:Fb vu hi)
  (h:Q (((bx n 0 lo:Nat):Int),1,bx n n hi-bx n 0 lo) s):wpAny (model prog w) A (E8 (.ref sl) (pure (n:Int))) Q E s:=by
 obtain⟨os,hos,hcs,hds⟩:=id hs
 unfold E8 Builtin.Slice.sliceFields
 refine AD (AD (Bt hos hds (x:=vl) rfl (AD (Bt hos hds (x:=vu) rfl (AD (Bt hos hds (x:=.none) rfl (AO ?_)))))))
 refine AD (slicePart_none ?_)
 show wpAny _ _ (if((1:Int) == 0)=true then _ else _) _ _ s
 rw[if_neg (by decide)]
 refine AD (vB pl (AD (vB pu (AD (AO ?_)))))
 show wpAny _ _ (match Dd lo hi 1 (n:Int) with | (lo,hi)=>pure (lo,(1:Int),Ck lo hi 1)) _ _ s
 rw[Mm lo hi n]
 show wpAny _ _ (pure (((bx n 0 lo:Nat):Int),(1:Int),Ck ((bx n 0 lo:Nat):Int) ((bx n n hi:Nat):Int) 1)) _ _ s
 rw[Mn]
 exact AO h
theorem Q4(xs:Array Value)(i k:Nat):((A9 k).filterMap λ(m:Nat)=>xs[((i:Int)+(m:Int)*1).toNat]?).toArray=((xs.toList.drop i).take k).toArray:=by
 have e:(λ(m:Nat)=>xs[((i:Int)+(m:Int)*1).toNat]?)=λm=>xs[i+m]? :=by
  funext m
  have:((i:Int)+(m:Int)*1).toNat=i+m:=by omega
  rw[this]
 rw[e]
 have:=pick_run xs i k
 rw[List.filterMap_map] at this
 have e2:((λx=>xs[x]?)∘λx=>i+x)=λm=>xs[i+m]? :=rfl
 rw[e2] at this
 rw[this]
theorem t_{t sl:Addr}{items:Array Value}{vl vu:Value}{lo hi:Option Int}{Q:Value->AN->Prop}(ht:IsTup s.heap t items)(hs:s.heap.IsSliceOf sl vl vu .none)(pl:Fb vl lo)(pu:Fb vu hi)
  (hw:¬(bx items.size 0 lo=0/\bx items.size items.size hi=items.size))
  (h:Q (.ref s.heap.objs.size) {s with heap:=s.heap.push {cls:=.type "tuple",data:=.seq ((items.toList.drop (bx items.size 0 lo)).take (bx items.size items.size hi-bx items.size 0 lo)).toArray}})
  (hsz:items.size<=sizeLine):wpAny (model prog w) A (Eb (.ref t) (.ref sl)) Q E s:=by
 have zy:sizeOk (.seq ((items.toList.drop (bx items.size 0 lo)).take (bx items.size items.size hi-bx items.size 0 lo)).toArray):=by
  show((items.toList.drop (bx items.size 0 lo)).take (bx items.size items.size hi-bx items.size 0 lo)).toArray.size<=sizeLine
  rw[Ai,Ao,EW,A_]
  omega
 have hj:bx items.size items.size hi<=items.size:=WZ _ _ (AM _) hi
 obtain⟨os,hos,hcs,hds⟩:=id hs
 have hTs:s.TypeIs (.ref sl) "slice":=⟨os,hos,hcs⟩
 unfold Eb
 try with_reducible refine Bp ?_
 first | refine AD (AO ?_) | skip
 refine AD (wpAny_sequenceKey ht.typeIs (by decide) ?_)
 refine AD (BO (name:=CJ "__getitem__") ht.typeIs BY
  (BS BY ht.typeIs entry_tuple_getitem ?_ (args_tuple_getitem _ _)))
 show wpAny _ _ (E9 (.ref t) >>= _) _ _ s
 refine AD (tupleItemsOf_ ht ?_)
 refine AD (Cr hTs ?_)
 rw[if_pos (by decide)]
 refine AD (m8 hs pl pu ?_)
 have hno:¬((((bx items.size 0 lo:Nat):Int) == 0&&(1:Int) == 1&&(bx items.size items.size hi-bx items.size 0 lo) == items.size)=true):=by
  intro q
  rw[Bc,Bc] at q
  have q1:((bx items.size 0 lo:Nat):Int)=0:=eq_of_beq q.1.1
  have q2:bx items.size items.size hi-bx items.size 0 lo=items.size:=eq_of_beq q.2
  exact hw ⟨by omega,by omega⟩
 show wpAny _ _ (if(((bx items.size 0 lo:Nat):Int) == 0&&(1:Int) == 1&&(bx items.size items.size hi-bx items.size 0 lo) == items.size)=true then _ else _) _ _ s
 rw[if_neg hno,Q4]
 first
  | exact AD (m:=Cy _) (BX (AO ⟨_,rfl,AO h⟩) zy)
  | exact AD (m:=Cy _) (BX (AD (AO (AO ⟨_,rfl,AO h⟩))) zy)
  | exact AD (AD (m:=Cy _) (BX (AO (AO ⟨_,rfl,AO h⟩)) zy))
  | exact AD (AD (m:=Cy _) (BX (AO ⟨_,rfl,AO h⟩) zy))
end
end HT
namespace L2
open PySem PySem.Spec PyProof.Rows
abbrev TO:=St->Hp->(Option Int->Hp->Prop)->Prop
def PO(X:Cx)(e:Option Expr)(t:TO):Prop:=
 ∀(pins:List (Addr×Obj)) (s:AN) (σ:St) (H:Hp) (Q:Option Int->Hp->Prop),Inv X pins σ H s->t σ H Q->
  wpAny (model X.prog X.w) X.A (evalPart e X.env) (λu s'=>∃o H',Inv X pins σ H' s'/\Fb u o/\Q o H') X.xe s
def mV:TO:=λ_ H Q=>Q none H
def vC(t:TE):TO:=λσ H Q=>t σ H λx H1=>∃i,x=.int i/\Q (some i) H1
theorem intsAre_of{ns:List Int}:∀{us:List Value},Vals (ns.map V.int) us->GC us ns:=by
 induction ns with
 | nil=>intro us r;rw[CW] at r;cases r;exact .nil
 | cons n ns ih=>
  intro us r
  rw[Aj] at r
  cases r with
  | cons r1 r2=>
   obtain⟨t,e⟩:=r1
   subst e
   exact .cons n t (ih r2)
section
variable{X:Cx}{e:Expr}{te:TE}{lo hi:Option Expr}{tl th:TO}{pos p2:Pos}
theorem fu:PO X none mV:=by
 intro pins s σ H Q I h
 rw[evalPart_none]
 exact AO ⟨none,H,I,.none,h⟩
theorem ie(h:PE X e te):PO X (some e) (vC te):=by
 intro pins s σ H Q I hw
 rw[evalPart_some]
 refine aQ (h pins s σ H _ I hw) ?_
 rintro u s1 ⟨x,H1,I1,r1,q1⟩
 obtain⟨i,rfl,q⟩:=q1
 obtain⟨t,rfl⟩:=r1
 exact⟨some i,H1,I1,.int i t,q⟩
def Le(X:Cx)(r:V->Option Int->Option Int->Hp->VK->Prop):Prop:=
 ∀(pins:List (Addr×Obj)) (s:AN) (σ:St) (H:Hp) (x:V) (v vl vu:Value) (lo hi:Option Int) (sl:Addr) (Q:VK),Inv X pins σ H s->RelV x v->s.heap.IsSliceOf sl vl vu .none->Fb vl lo->Fb vu hi->r x lo hi H Q->
  ∃T id,E_ (.type T) "__getitem__"=pure (some (.builtin id))/\s.TypeIs v T/\wpAny (model X.prog X.w) X.A (Eb v (.ref sl)) (EP X pins σ Q) X.xe s
def tSl(r:V->Option Int->Option Int->Hp->VK->Prop)(te:TE)(tl th:TO):TE:=λσ H Q=>te σ H λx H1=>tl σ H1 λl H2=>th σ H2 λu H3=>r x l u H3 Q
theorem iy{r:V->Option Int->Option Int->Hp->VK->Prop}(hr:Le X r)(he:PE X e te)(hl:PO X lo tl)(hu:PO X hi th):PE X (.Subscript e (.Slice lo hi none p2) pos) (tSl r te tl th):=by
 intro pins s σ H Q I h
 refine GD (aQ (he pins s σ H _ I h) ?_)
 rintro v s1 ⟨x,H1,I1,r1,q1⟩
 refine wpAny_Slice (aQ (hl pins s1 σ H1 _ I1 q1) ?_)
 rintro vl s2 ⟨l,H2,I2,pl,q2⟩
 refine aQ (hu pins s2 σ H2 _ I2 q2) ?_
 rintro vu s3 ⟨u,H3,I3,pu,q3⟩
 rw[evalPart_none]
 refine AO ?_
 have I4:Inv X pins σ H3 {s3 with heap:=s3.heap.push {cls:=.type "slice",data:=.fields #[vl,vu,.none]}}:=I3.kept (t':=s3.toks) λb ob q=>AE _ q
 obtain⟨T,id,hT,ht,hg⟩:=hr pins {s3 with heap:=s3.heap.push {cls:=.type "slice",data:=.fields #[vl,vu,.none]}} σ H3 x v vl vu l u s3.heap.objs.size Q I4 r1 (HS ..) pl pu q3
 show wpAny (model X.prog X.w) X.A (Ec e (.Slice lo hi none p2) v (.ref s3.heap.objs.size)) (EP X pins σ Q) X.xe {s3 with heap:=s3.heap.push {cls:=.type "slice",data:=.fields #[vl,vu,.none]}}
 exact tail_any (ops:=[.ref s3.heap.objs.size,v]) ht hT hg (by with_unfolding_all rfl)
def lM(xs:List V)(lo hi:Option Int):List V:=(xs.drop (HT.bx xs.length 0 lo)).take (HT.bx xs.length xs.length hi-HT.bx xs.length 0 lo)
theorem uf(xs:List V)(lo hi:Option Int):(lM xs lo hi).length<=xs.length:=by
 unfold lM
 rw[Ao,EW]
 omega
def aef(K:AB):V->Option Int->Option Int->Hp->VK->Prop:=λx lo hi H Q=>∃a xs,x=.ref a/\bF K H a xs/\
 ¬(HT.bx xs.length 0 lo=0/\HT.bx xs.length xs.length hi=xs.length)/\∀p,H p=none->Q (.ref p) (upd H p (.tup (lM xs lo hi)))
theorem W_:Le X (aef X.K):=by
 intro pins s σ H x v vl vu lo hi sl Q I rx hs pl pu h
 obtain⟨a,xs,rfl,hx,hw,q⟩:=h
 cases rx
 obtain⟨its,r,ht,hz⟩:=I.tuple hx
 have hlen:its.toArray.size=xs.length:=by rw[Ai];exact r.length.symm
 refine⟨"tuple",_,BY.lookup,ht.typeIs,?_⟩
 refine HT.t_ ht hs pl pu (by rw[hlen];exact hw) ?_ (by rw[hlen];exact hz)
 rw[hlen]
 refine⟨.ref s.heap.objs.size,_,I.laid (t':=s.toks) (o:=.tup (lM xs lo hi)) (λb ob q=>AE _ q) (AM _) ?_,rfl,q _ (I.hok.fresh (AM _))⟩
 exact⟨⟨A5 (uf xs lo hi) hz,_,AV _ rfl,rfl⟩,_,(r.drop (HT.bx xs.length 0 lo)).take (HT.bx xs.length xs.length hi-HT.bx xs.length 0 lo),IsTup.new _ _⟩
def aa4(K:AB):R2:=λx y H Q=>∃a b xs ys,x=.ref a/\y=.ref b/\bF K H a xs/\bF K H b ys/\xs≠[]/\xs.length+ys.length<=sizeLine/\
 (ys=[]->Q (.ref a) H)/\(ys≠[]->∀p,H p=none->Q (.ref p) (upd H p (.tup (xs++ys))))
theorem Vals.wO{xs:List V}{us:List Value}(r:Vals xs us):us=[]↔xs=[]:=by
 cases r with
 | nil=>simp
 | cons _ _=>simp
theorem Lf:dY X (CM .Add) (aa4 X.K):=by
 intro pins s σ H x y v u Q I rx ry h
 obtain⟨a,b,xs,ys,rfl,rfl,ha,hb,hx,hz,q1,q2⟩:=h
 cases rx
 cases ry
 obtain⟨its,r1,p1,_⟩:=I.tuple ha
 obtain⟨its2,r2,p2,_⟩:=I.tuple hb
 refine HT.Vr p1 p2 (λz=>hx (r1.wO.mp z)) (λz=>⟨.ref a,H,I,rfl,q1 (r2.wO.mp z)⟩) (λz=>?_) (by rw[<-r1.length,<-r2.length];exact hz)
 refine⟨.ref s.heap.objs.size,_,I.laid (t':=s.toks) (o:=.tup (xs++ys)) (λb ob q=>AE _ q) (AM _) ?_,rfl,q2 (λw=>z (r2.wO.mpr w)) _ (I.hok.fresh (AM _))⟩
 exact⟨⟨by rw[AK];exact hz,_,AV _ rfl,rfl⟩,_,r1.append r2,IsTup.new _ _⟩
end
def xW(n:Nat)(i:Int):Option Nat:=if 0<=i then(if i<n then some i.toNat else none) else if-(n:Int)<=i then some (i+n).toNat else none
def mK{α:Type}(xs:List α)(i:Int):Option α:=(xW xs.length i).bind λj=>xs[j]?
theorem Vs{n:Nat}{i:Int}{j:Nat}(h:xW n i=some j):seqIndex? i n=some j/\j<n/\ -(n:Int)<=i/\i<n:=by
 unfold xW at h
 by_cases h0:0<=i
 ·rw[if_pos h0] at h
  by_cases h1:i<n
  ·rw[if_pos h1] at h
   have e:i.toNat=j:=AS h
   exact⟨by rw[seqIndex_of h0 h1,e],by omega,by omega,h1⟩
  ·rw[if_neg h1] at h;cases h
 ·rw[if_neg h0] at h
  by_cases h1: -(n:Int)<=i
  ·rw[if_pos h1] at h
   have e:(i+n).toNat=j:=AS h
   exact⟨by rw[seqIndex_neg (by omega) h1,e],by omega,h1,by omega⟩
  ·rw[if_neg h1] at h;cases h
theorem wQ{α:Type}{xs:List α}{i:Int}{v:α}(h:mK xs i=some v):∃j,seqIndex? i xs.length=some j/\xs[j]? =some v/\j<xs.length/\ -(xs.length:Int)<=i/\i<xs.length:=by
 unfold mK at h
 cases e:xW xs.length i with
 | none=>rw[e] at h;cases h
 | some j=>
  rw[e] at h
  obtain⟨h1,h2,h3,h4⟩:=Vs e
  exact⟨j,h1,h,h2,h3,h4⟩
theorem ak{α:Type}{xs:List α}{j:Nat}{v:α}(h:xs[j]? =some v):mK xs (j:Int)=some v:=by
 have hj:j<xs.length:=(AF.mp h).1
 have e:xW xs.length (j:Int)=some j:=by
  unfold xW
  rw[if_pos (by omega),if_pos (by omega)];simp
 unfold mK;rw[e];exact h
theorem Q5{α:Type}(xs:List α)(v:α):mK (xs++[v]) (-1)=some v:=by
 have hl:(xs++[v]).length=xs.length+1:=by simp
 have e:xW (xs++[v]).length (-1)=some xs.length:=by
  unfold xW
  rw[hl,if_neg (by decide),if_pos (by omega)]
  congr 1
  omega
 unfold mK
 rw[e]
 show(xs++[v])[xs.length]? =some v
 simp
def Vt(b:Expr):Prop:=∀o i,Gu b false o i=operate [o,i] (Eb o i)
def Lg(X:Cx)(r:R2):Prop:=
 ∀(value slice:Expr) (pins:List (Addr×Obj)) (s:AN) (σ:St) (H:Hp) (x y:V) (v u:Value) (Q:VK),Inv X pins σ H s->RelV x v->RelV y u->r x y H Q->
  Gu slice false v u=operate [v,u] (Eb v u)->wpAny (model X.prog X.w) X.A (Ec value slice v u) (EP X pins σ Q) X.xe s
def W0(X:Cx)(id:String)(r:V->List V->Hp->VK->Prop):Prop:=
 ∀(pins:List (Addr×Obj)) (s:AN) (σ:St) (H:Hp) (x:V) (xs:List V) (v:Value) (us:List Value) (Q:VK),Inv X pins σ H s->RelV x v->Vals xs us->r x xs H Q->
  wpAny (model X.prog X.w) X.A (call (.builtin id) (v::us)) (EP X pins σ Q) X.xe s
section
variable{X:Cx}{a b:Expr}{ta tb:TE}{pos:Pos}
theorem au{r:R2}(hr:Lg X r)(ha:PE X a ta)(hb:PE X b tb)(hs:Vt b):PE X (.Subscript a b pos) (Tt r ta tb):=by
 intro pins s σ H Q I h
 exact GD (QY ha hb I h λv u s2 x y H2 I2 rx ry q=>hr a b pins s2 σ H2 x y v u Q I2 rx ry q (hs _ _))
def W2(K:AB):R2:=λx y H Q=>∃p xs i v,x=.ref p/\y=.int i/\bM K H p xs/\mK xs i=some v/\Q v H
def W3(K:AB):R2:=λx y H Q=>∃p xs i v,x=.ref p/\y=.int i/\bF K H p xs/\mK xs i=some v/\Q v H
def aeg:R2:=λx y H Q=>∃z i c,x=.str z/\y=.int i/\z.length<=sizeLine/\mK z.cps.toList i=some c/\Q (.str ⟨#[c]⟩) H
theorem Vu:Lg X (W2 X.K):=by
 intro value slice pins s σ H x y v u Q I rx ry h hs
 obtain⟨p,xs,i,z,rfl,rfl,hq,he,q⟩:=h
 cases rx
 obtain⟨t,rfl⟩:=ry
 obtain⟨its,r,pl,hz⟩:=I.list hq
 obtain⟨j,h1,h2,h3,h4,h5⟩:=wQ he
 obtain⟨w,ew,jS⟩:=r.get h2
 have hl:=r.length
 have hn:=rS
 have fin:EP X pins σ Q w s:=⟨z,H,I,jS,q⟩
 by_cases h0:0<=i
 ·have hj:i.toNat=j:=by
   rw[seqIndex_of h0 h5] at h1
   exact AS h1
  exact item_listR pl.isList h0 (by omega) (by rw[hj];simpa using ew) fin hs
 ·have hj:(i+(its.toArray.size:Int)).toNat=j:=by
   rw[seqIndex_neg (by omega) h4] at h1
   rw[Ai,<-hl]
   exact AS h1
  exact subscriptTail_builtinR (x:=w) pl.isList.typeIs slot_list_getitem.lookup
   (wpAny_getItem_list_neg (Q:=λr s'=>r=w/\EP X pins σ Q r s') pl.isList (by omega) (by rw[Ai]<;>omega) (by omega) (by rw[hj];simpa using ew) ⟨rfl,fin⟩) hs
theorem W4:Lg X (W3 X.K):=by
 intro value slice pins s σ H x y v u Q I rx ry h hs
 obtain⟨p,xs,i,z,rfl,rfl,hq,he,q⟩:=h
 cases rx
 obtain⟨t,rfl⟩:=ry
 obtain⟨its,r,pl,hz⟩:=I.tuple hq
 obtain⟨j,h1,h2,h3,h4,h5⟩:=wQ he
 obtain⟨w,ew,jS⟩:=r.get h2
 have hl:=r.length
 have hn:=rS
 have fin:EP X pins σ Q w s:=⟨z,H,I,jS,q⟩
 exact subscriptTail_builtinR (x:=w) pl.typeIs slot_tuple_getitem.lookup
  (getItem_tuple (j:=j) (Q:=λr s'=>r=w/\EP X pins σ Q r s') pl (by omega) (by omega) (by rw[Ai,<-hl];exact h1) (by simpa using ew) ⟨rfl,fin⟩) hs
theorem NV:Lg X aeg:=by
 intro value slice pins s σ H x y v u Q I rx ry h hs
 obtain⟨z,i,c,rfl,rfl,hz,he,q⟩:=h
 obtain⟨t,rfl⟩:=rx
 obtain⟨t',rfl⟩:=ry
 obtain⟨j,h1,h2,h3,h4,h5⟩:=wQ he
 have hl:z.cps.toList.length=z.length:=by simp[Str.length]
 rw[hl] at h1 h4 h5
 have hn:=rS
 exact tail_any (FA s z t) slot_str_getitem.lookup (getItem_str (c:=c) (by
  have e1:decide (i< -(2 ^ 63:Int))=false:=decide_eq_false (by omega)
  have e2:decide (i ≥ 2 ^ 63)=false:=decide_eq_false (by omega)
  rw[e1,e2,Bool.or_false]) (by rw[h1];simpa using h2) ⟨.str ⟨#[c]⟩,H,I.tok _,⟨_,rfl⟩,q⟩) hs
theorem zV(lo hi:Option Int)(n:Nat):(D6 lo hi none n).1=((HT.bx n 0 lo:Nat):Int)/\(D6 lo hi none n).2.1=((HT.bx n n hi:Nat):Int)/\(D6 lo hi none n).2.2=1:=by
 refine⟨?_,?_,rfl⟩
 ·cases lo with
  | none=>simp[D6,HT.bx]
  | some i=>
   simp only[D6,HT.bx,Option.getD_none,show(1:Int)>0 by decide,if_true]
   by_cases h:i<0
   ·simp only[h,if_true]<;>omega
   ·simp only[h,if_false]<;>omega
 ·cases hi with
  | none=>simp[D6,HT.bx]
  | some i=>
   simp only[D6,HT.bx,Option.getD_none,show(1:Int)>0 by decide,if_true]
   by_cases h:i<0
   ·simp only[h,if_true]<;>omega
   ·simp only[h,if_false]<;>omega
theorem yW(its:List Value)(lo hi:Option Int):slicePick its.toArray lo hi none=((its.drop (HT.bx its.length 0 lo)).take (HT.bx its.length its.length hi-HT.bx its.length 0 lo)).toArray:=by
 obtain⟨h1,h2,h3⟩:=zV lo hi its.toArray.size
 unfold slicePick
 rw[h1,h2,h3]
 simp only[sliceRange_one,pick_run,Ai]<;>rfl
def W5(K:AB):V->Option Int->Option Int->Hp->VK->Prop:=λx lo hi H Q=>∃a xs,x=.ref a/\bM K H a xs/\∀p,H p=none->Q (.ref p) (upd H p (.lst (lM xs lo hi)))
theorem Vv:Le X (W5 X.K):=by
 intro pins s σ H x v vl vu lo hi sl Q I rx hs pl pu h
 obtain⟨a,xs,rfl,hx,q⟩:=h
 cases rx
 obtain⟨its,r,ht,hz⟩:=I.list hx
 have hlen:=r.length
 refine⟨"list",_,slot_list_getitem.lookup,ht.isList.typeIs,?_⟩
 refine Fc ht.isList hs pl pu .none (by simp) ?_ (by rw[Ai]<;>omega)
 rw[yW,<-hlen]
 refine⟨.ref s.heap.objs.size,_,I.laid (t':=s.toks) (o:=.lst (lM xs lo hi)) (λb ob q=>AE _ q) (AM _) ?_,rfl,q _ (I.hok.fresh (AM _))⟩
 exact⟨A5 (uf xs lo hi) hz,_,0,(r.drop (HT.bx xs.length 0 lo)).take (HT.bx xs.length xs.length hi-HT.bx xs.length 0 lo),AV _ rfl⟩
def jT:V->Bool
 | .non=>true
 | .bl _=>true
 | .int _=>true
 | .str _=>true
 | _=>false
def pM:V->V->Bool
 | .non,.non=>true
 | .bl a,.bl b=>a == b
 | .bl a,.int b=>(if a then 1 else 0) == b
 | .int a,.bl b=>a == (if b then 1 else 0)
 | .int a,.int b=>a == b
 | .str a,.str b=>a == b
 | _,_=>false
theorem NW{A:BB}{s:AN}{y x:V}{u v:Value}(ry:RelV y u)(rx:RelV x v)(fy:jT y=true)(fx:jT x=true):Cc A s u v (pM y x):=by
 cases y with
 | non=>
  cases ry
  cases x with
  | non=>cases rx;exact GU _
  | bl b=>cases rx;exact SeqAt.EqAt.none_bool b
  | int b=>obtain⟨t,rfl⟩:=rx;exact G' b t
  | str b=>obtain⟨t,rfl⟩:=rx;exact SeqAt.EqAt.none_str b t
  | _=>exact absurd (show false=true from fx) An
 | bl a=>
  cases ry
  cases x with
  | non=>cases rx;exact SeqAt.EqAt.bool_none a
  | bl b=>cases rx;exact SeqAt.EqAt.bool_bool a b
  | int b=>obtain⟨t,rfl⟩:=rx;exact SeqAt.EqAt.bool_int a b t
  | str b=>obtain⟨t,rfl⟩:=rx;exact SeqAt.EqAt.bool_str a b t
  | _=>exact absurd (show false=true from fx) An
 | int a=>
  obtain⟨t',rfl⟩:=ry
  cases x with
  | non=>cases rx;exact HA a t'
  | bl b=>cases rx;exact SeqAt.EqAt.int_bool a t' b
  | int b=>obtain⟨t,rfl⟩:=rx;exact SeqAt.EqAt.int_int a t' b t
  | str b=>obtain⟨t,rfl⟩:=rx;exact HL a t' b t
  | _=>exact absurd (show false=true from fx) An
 | str a=>
  obtain⟨t',rfl⟩:=ry
  cases x with
  | non=>cases rx;exact SeqAt.EqAt.str_none a t'
  | bl b=>cases rx;exact SeqAt.EqAt.str_bool a t' b
  | int b=>obtain⟨t,rfl⟩:=rx;exact HM a t' b t
  | str b=>obtain⟨t,rfl⟩:=rx;exact SeqAt.EqAt.str_str a t' b t
  | _=>exact absurd (show false=true from fx) An
 | _=>exact absurd (show false=true from fy) An
def vD(x:V)(u:Value):Bool:=match u with
 | .none=>pM .non x
 | .bool b=>pM (.bl b) x
 | .int i _=>pM (.int i) x
 | .str z _=>pM (.str z) x
 | _=>false
theorem NX{x y:V}{u:Value}(r:RelV y u)(f:jT y=true):vD x u=pM y x:=by
 cases y with
 | non=>cases r;rfl
 | bl b=>cases r;rfl
 | int i=>obtain⟨t,rfl⟩:=r;rfl
 | str z=>obtain⟨t,rfl⟩:=r;rfl
 | _=>exact absurd (show false=true from f) An
theorem wR{x:V}:∀{xs:List V} {us:List Value},Vals xs us->xs.all jT=true->us.any (vD x)=xs.any λy=>pM y x
 | _,_,.nil,_=>rfl
 | y::xs,u::us,.cons r t,f=>by
  rw[HI,Bc] at f
  rw[Cz,Cz,NX r f.1,wR t f.2]
theorem uz{A:BB}{s:AN}{x:V}{v:Value}(rx:RelV x v)(fx:jT x=true):∀{xs:List V} {us:List Value},Vals xs us->xs.all jT=true->∀u∈us,Cc A s u v (vD x u)
 | _,_,.nil,_=>λu hu=>by cases hu
 | y::xs,u::us,.cons r t,f=>λu' hu=>by
  rw[HI,Bc] at f
  rcases Ae.mp hu with rfl | hu
  ·rw[NX r f.1];exact NW r rx f.1 fx
  ·exact uz rx fx t f.2 u' hu
def inV(x:V)(xs:List V):Bool:=xs.any λy=>pM y x
def rIn(K:AB)(neg:Bool):R2:=λx y H Q=>∃p xs,y=.ref p/\(bM K H p xs∨bF K H p xs)/\jT x=true/\xs.all jT=true/\Q (.bl (if neg then !inV x xs else inV x xs)) H
theorem NY:dY X (Bu .In) (rIn X.K false):=by
 intro pins s σ H x y v u Q I rx ry h
 obtain⟨p,xs,rfl,hq,fx,fs,q⟩:=h
 cases ry
 rcases hq with hq | hq
 ·obtain⟨its,r,pl,hz⟩:=I.list hq
  refine SeqAt.in_listAt (vD x) pl.isList (λw hw=>uz rx fx r fs w (by simpa using hw)) ⟨.bl _,H,I,rfl,?_⟩
  rw[show its.toArray.any (vD x)=its.any (vD x) by simp,wR r fs]
  exact q
 ·obtain⟨its,r,pl,hz⟩:=I.tuple hq
  refine SeqAt.in_tupleAt (vD x) pl (λw hw=>uz rx fx r fs w (by simpa using hw)) ⟨.bl _,H,I,rfl,?_⟩
  rw[show its.toArray.any (vD x)=its.any (vD x) by simp,wR r fs]
  exact q
theorem zW:cY X (.type "list") (λxs H Q=>∃p ys,xs=[.ref p]/\(bM X.K H p ys∨bF X.K H p ys)/\∀l,H l=none->Q (.ref l) (upd H l (.lst ys))):=by
 intro pins s σ H xs us Q I r h
 obtain⟨p,ys,rfl,hq,q⟩:=h
 obtain⟨u,rfl,rx⟩:=vals1 r
 cases rx
 have fin:∀(its:List Value),Vals ys its->ys.length<=sizeLine->∀(h':Heap) (c':Nat),(∀b o',s.heap.get? b=some o'->h'.get? b=some o')->
   h'.get? s.heap.objs.size=some {cls:=.type "list",dict:=none,data:=.seq its.toArray c',slots:= #[]}->EP X pins σ Q (.ref s.heap.objs.size) {s with heap:=h'}:=λits r' hz h' c' kp e=>
  ⟨.ref s.heap.objs.size,_,I.laid (t':=s.toks) kp (AM _) (show bN X.prog X.w _ h' _ (.lst ys) from⟨hz,its,c',r',e⟩),rfl,q _ (I.hok.fresh (AM _))⟩
 rcases hq with hq | hq
 ·obtain⟨its,r',pl,hz⟩:=I.list hq
  have hlen:=r'.length
  obtain⟨o,ho,hc,n,hd⟩:=pl.isList
  exact call_list_seq p (.inl rfl) ho hc hd (λh' c' kp e=>fin its r' hz h' c' kp e) (by simp only[Ai]<;>omega)
 ·obtain⟨its,r',pl,hz⟩:=I.tuple hq
  have hlen:=r'.length
  obtain⟨o,ho,hc,n,hd⟩:=pl
  exact call_list_seq p (.inr rfl) ho hc hd (λh' c' kp e=>fin its r' hz h' c' kp e) (by simp only[Ai]<;>omega)
theorem yX:cY X (.type "tuple") (λxs H Q=>∃p ys,xs=[.ref p]/\((bM X.K H p ys/\∀l,H l=none->Q (.ref l) (upd H l (.tup ys)))∨(bF X.K H p ys/\Q (.ref p) H))):=by
 intro pins s σ H xs us Q I r h
 obtain⟨p,ys,rfl,h⟩:=h
 obtain⟨u,rfl,rx⟩:=vals1 r
 cases rx
 rcases h with⟨hq,q⟩ | ⟨hq,q⟩
 ·obtain⟨its,r',pl,hz⟩:=I.list hq
  have hlen:=r'.length
  refine call_tuple_list pl.isList (λh' kp=>?_) (by simp only[Ai]<;>omega)
  have I1:Inv X pins σ H {s with heap:=h'}:=I.kept (t':=s.toks) kp
  have I2:Inv X pins σ (upd H h'.objs.size (.tup ys)) {s with heap:=h'.push {cls:=.type "tuple",data:=.seq its.toArray}}:=
   I1.laid (t':=s.toks) (λb o e=>AE _ e) (AM _) (show bN X.prog X.w _ _ _ (.tup ys) from⟨⟨hz,_,AV _ rfl,rfl⟩,its,r',IsTup.new _ _⟩)
  exact⟨.ref h'.objs.size,_,I2,rfl,q _ (I1.hok.fresh (AM _))⟩
 ·obtain⟨its,r',pl,hz⟩:=I.tuple hq
  exact call_tuple_same pl ⟨.ref p,H,I,rfl,q⟩
def W6(K:AB)(T:String)(x:V)(H:Hp):Prop:=match x with
 | .str _=>T="str"
 | .int _=>T="int"
 | .ref p=>(T="list"/\∃xs,bM K H p xs)∨(T="tuple"/\∃o,K.lookup p=some o/\o.cls=.type "tuple"/\o.dict=none)∨
   (T="dict"/\((∃kvs,H p=some (.dK kvs))∨∃kvs,H p=some (.dT kvs)))∨(T="set"/\∃S n,H p=some (.set S n))
 | _=>False
theorem NZ{pins:List (Addr×Obj)}{σ:St}{H:Hp}{s:AN}{T:String}{x:V}{v:Value}(I:Inv X pins σ H s)(r:RelV x v)(ty:W6 X.K T x H):
  s.TypeIs v T/\∀a,v=.ref a->∃ob,s.heap.get? a=some ob/\ob.dict=none:=by
 cases x with
 | str z=>
  obtain⟨t,rfl⟩:=r
  cases(show T="str" from ty)
  exact⟨FA s z t,λ_ e=>nomatch e⟩
 | int i=>
  obtain⟨t,rfl⟩:=r
  cases(show T="int" from ty)
  exact⟨typeIs_int s i t,λ_ e=>nomatch e⟩
 | ref p=>
  cases r
  rcases ty with⟨rfl,xs,hq⟩ | ⟨rfl,o,hk,hc,hd⟩ | ⟨rfl,hk⟩ | ⟨rfl,S,n,hk⟩
  ·obtain⟨its,_,pl,_⟩:=I.list hq
   refine⟨pl.isList.typeIs,λa e=>?_⟩
   cases e
   obtain⟨o,n,e,c,hd,_⟩:=pl
   exact⟨o,e,hd⟩
  ·refine⟨⟨o,I.i8 p o hk,hc⟩,λa e=>?_⟩
   cases e
   exact⟨o,I.i8 _ o hk,hd⟩
  ·have z:∃o,s.heap.get? p=some o/\o.ExactDict:=by
    rcases hk with⟨kvs,hk⟩ | ⟨kvs,hk⟩
    ·obtain⟨_,_,_,_,o,_,_,e,ex,_⟩:=I.hok p _ hk
     exact⟨o,e,ex⟩
    ·obtain⟨_,_,_,_,o,_,_,e,ex,_⟩:=I.hok p _ hk
     exact⟨o,e,ex⟩
   obtain⟨o,e,ex⟩:=z
   refine⟨⟨o,e,ex.1⟩,λa e2=>?_⟩
   cases e2
   exact⟨o,e,ex.2.1⟩
  ·obtain⟨o,_,_,_,e,ex,_⟩:=I.hok p _ hk
   refine⟨⟨o,e,ex.1⟩,λa e2=>?_⟩
   cases e2
   exact⟨o,e,ex.2.1⟩
 | _=>exact Bb ty
def W7(K:AB)(T:String)(r:V->List V->Hp->VK->Prop)(to:TE):TE:=λσ H Q=>to σ H λx H1=>W6 K T x H1/\r x [] H1 Q
def tBM(K:AB)(T:String)(r:V->List V->Hp->VK->Prop)(to:TE)(t:TA):TE:=λσ H Q=>to σ H λx H1=>W6 K T x H1/\t σ H1 λxs H2=>r x xs H2 Q
variable{o e:Expr}{es:List Expr}{to:TE}{t:TA}{name:Str}{apos cpos:Pos}{T id:String}{r:V->List V->Hp->VK->Prop}
theorem zX(pa:PlainAttrs T)(slot:Slot T name id)(hty:typeOf (.builtin id)=pure (.type "method_descriptor"))(hm:W0 X id r)(ho:PE X o to)
  (hbase:Fd o name X.env (eval o X.env)=eval o X.env:=by rfl) (hline:(apos.endLine == cpos.line)=true:=by rfl):PE X (.Call (.Attribute o name apos) [] [] cpos) (W7 X.K T r to):=by
 intro pins s σ H Q I h
 refine wpAny_Call_method0_late hbase hline (aQ (ho pins s σ H _ I h) ?_)
 rintro v s1 ⟨x,H1,I1,r1,ty,q1⟩
 obtain⟨h1,h2⟩:=NZ I1 r1 ty
 exact⟨T,id,pa,slot,hty,h1,h2,C_ rfl (PySem.evalArgs_none (hm pins s1 σ H1 x [] v [] Q I1 r1 .nil q1))⟩
theorem fV(pa:PlainAttrs T)(slot:Slot T name id)(hty:typeOf (.builtin id)=pure (.type "method_descriptor"))(hm:W0 X id r)(ho:PE X o to)(ha:PA X (e::es) t)
  (hbase:Fd o name X.env (eval o X.env)=eval o X.env:=by rfl)
  (hfew:((D8 cpos (BE (e::es) X.env)).all (λx=> !x.1)&&(backToKw cpos (keywordEach [] X.env)).all (λx=>x.1.isSome)
   &&decide ((e::es).length+([]:List Keyword).length+(if([]:List Keyword).isEmpty then 0 else 1)<30))=true:=by rfl)
  (hline:(apos.endLine == cpos.line)=true:=by rfl) (hs:BE (e::es) X.env=(false,eval e X.env)::BE es X.env:=by rfl) (hplain:(D8 cpos (BE es X.env)).any (·.1)=false:=by rfl):
  PE X (.Call (.Attribute o name apos) (e::es) [] cpos) (tBM X.K T r to t):=by
 intro pins s σ H Q I h
 refine wpAny_Call_method_late hbase hfew hline rfl (aQ (ho pins s σ H _ I h) ?_)
 rintro v s1 ⟨x,H1,I1,r1,ty,q1⟩
 obtain⟨h1,h2⟩:=NZ I1 r1 ty
 refine⟨T,id,pa,slot,hty,h1,h2,?_⟩
 have hA:=ha cpos pins s1 σ H1 _ I1 q1
 rw[hs] at hA ⊢
 refine C_ (by show(false||(D8 cpos (BE es X.env)).any (·.1))=false;rw[hplain]<;>rfl) (DS ?_)
 refine aQ hA ?_
 rintro us s2 ⟨vs,H2,I2,r2,q2⟩
 exact hm pins s2 σ H2 x vs v us Q I2 r1 r2 q2
end
def zY(X:Cx)(id:String)(r:V->List V->Hp->VK->Prop):Prop:=
 ∀(pins:List (Addr×Obj)) (s:AN) (σ:St) (H:Hp) (x:V) (xs:List V) (v:Value) (us:List Value) (Q:VK),Inv X pins σ H s->RelV x v->Vals xs us->r x xs H Q->
  wpAny (model X.prog X.w) X.A (call (.builtin id) (v::us)) (EP X pins σ Q) X.xe s
theorem Vals.one:∀{x:V} {us:List Value},Vals [x] us->∃u,us=[u]/\RelV x u
 | _,_,.cons r .nil=>⟨_,rfl,r⟩
theorem Vals.zero:∀{us:List Value},Vals [] us->us=[]
 | _,.nil=>rfl
theorem Vals.dropLast{xs:List V}{us:List Value}(h:Vals xs us):Vals xs.dropLast us.dropLast:=by
 induction h with
 | nil=>exact .nil
 | cons r t ih=>
  cases t with
  | nil=>exact .nil
  | cons q t'=>exact .cons r ih
theorem Mp{α:Type}(l:List α):l.eraseIdx (l.length-1)=l.dropLast:=by
 induction l with
 | nil=>rfl
 | cons a r ih=>
  cases r with
  | nil=>rfl
  | cons b r=>
   have e:(a::b::r).length-1=((b::r).length-1)+1:=by
    have h1:(a::b::r).length=r.length+2:=rfl
    have h2:(b::r).length=r.length+1:=rfl
    omega
   rw[e,List.eraseIdx_cons_succ,ih]
   all_goals rfl
section
variable{X:Cx}{pins:List (Addr×Obj)}{σ:St}{H:Hp}{s:AN}{l b:Addr}{xs ys zs:List V}
theorem Inv.Mq{its its':List Value}{n:Nat}{f:Array Value->Array Value}{t':Nat}(I:Inv X pins σ H s)(hH:H l=some (.lst xs))
  (e:s.heap.get? l=some {cls:=.type "list",data:=.seq its.toArray n}) (hf:f its.toArray=its'.toArray) (hv:Vals ys its') (hz:ys.length<=sizeLine):
  Inv X pins σ (upd H l (.lst ys)) {s with heap:=s.heap.update l (DT f),toks:=t'}:=by
 have q:=PySem.IsL.update e f
 rw[hf] at q
 refine I.write (x:=l) (e:=l) (by rw[hH];exact trivial) (.inl rfl) (λb' u hb hu=>(C' s.heap (DT f) (C1 hb)).trans hu) ⟨_,q⟩ ?_
 exact⟨hz,its',_,hv,q⟩
theorem Inv.W8{its:List Value}{t':Nat}(I:Inv X pins σ H s)(hv:Vals ys its)(hz:ys.length<=sizeLine):
  Inv X pins σ (upd H s.heap.objs.size (.lst ys)) {s with heap:=s.heap.push {cls:=.type "list",data:=.seq its.toArray},toks:=t'}:=
 I.laid (λ_ _ q=>AE _ q) (AM _) ⟨hz,its,0,hv,AV _ rfl⟩
theorem Inv.fresh(I:Inv X pins σ H s):H s.heap.objs.size=none:=I.hok.fresh (AM _)
theorem Inv.uA(I:Inv X pins σ H s)(hH:H l=some (.lst xs)):xs.length<=sizeLine/\∃(its:List Value) (n:Nat),Vals xs its/\xs.length=its.length/\s.heap.get? l=some {cls:=.type "list",data:=.seq its.toArray n}:=by
 obtain⟨z,its,n,r,e⟩:=I.hok l _ hH
 exact⟨z,its,n,r,r.length,e⟩
theorem zZ{n:Nat}(h:n<=sizeLine):CK n=false:=by
 unfold CK
 exact decide_eq_false (by omega)
end
section
variable{X:Cx}
def Vw:V->List V->Hp->VK->Prop:=λx vs H Q=>∃l xs y,x=.ref l/\vs=[y]/\H l=some (.lst xs)/\xs.length<sizeLine/\Q .non (upd H l (.lst (xs++[y])))
theorem dq:zY X "list.append" Vw:=by
 intro pins s σ H x vs v us Q I rx rv h
 obtain⟨l,xs,y,rfl,rfl,hH,hz,q⟩:=h
 cases rx
 obtain⟨u,rfl,ru⟩:=rv.one
 obtain⟨z,its,n,r,hl,e⟩:=I.uA hH
 refine FC F.slot_list_append ⟨_,e,rfl⟩ F.entry_list_append (F.args_list_append_2 _ _) (PySem.list_append l its.toArray n u (by rw[Ai];omega)) ⟨e,?_⟩
 refine⟨.non,_,I.Mq (its':=its++[u]) hH e (by simp) (r.append (.cons ru .nil)) ?_,rfl,q⟩
 rw[AK,List.length_singleton]
 omega
def Vx:V->List V->Hp->VK->Prop:=λx vs H Q=>∃l b xs zs,x=.ref l/\vs=[.ref b]/\H l=some (.lst xs)/\H b=some (.lst zs)/\xs.length+zs.length<=sizeLine/\Q .non (upd H l (.lst (xs++zs)))
theorem xX:zY X "list.extend" Vx:=by
 intro pins s σ H x vs v us Q I rx rv h
 obtain⟨l,b,xs,zs,rfl,rfl,hH,hB,hz,q⟩:=h
 cases rx
 obtain⟨u,rfl,ru⟩:=rv.one
 cases ru
 obtain⟨z,its,n,r,hl,e⟩:=I.uA hH
 obtain⟨z2,its2,n2,r2,hl2,e2⟩:=I.uA hB
 have hsz:its.toArray.size+its2.toArray.size<=sizeLine:=by rw[Ai,Ai];omega
 have Mr:¬(!its.toArray.isEmpty&&CK (its.toArray.size+its2.toArray.size))=true:=by
  rw[zZ hsz,ED]
  exact An
 refine FC F.slot_list_extend ⟨_,e,rfl⟩ F.entry_list_extend (F.args_list_extend_2 _ _)
  (AutoSeq1.list_extend_list_list_0 l its.toArray n b its2.toArray n2 Mr (by rw[Ai];omega) (by omega)) ⟨e,e2,?_⟩
 refine⟨.non,_,I.Mq (its':=its++its2) hH e (by simp) (r.append r2) ?_,rfl,q⟩
 rw[AK]
 omega
def aeh:V->List V->Hp->VK->Prop:=λx vs H Q=>∃l xs y,x=.ref l/\vs=[]/\H l=some (.lst xs)/\xs[xs.length-1]? =some y/\Q y (upd H l (.lst xs.dropLast))
theorem N_:zY X "list.pop" aeh:=by
 intro pins s σ H x vs v us Q I rx rv h
 obtain⟨l,xs,y,rfl,rfl,hH,hy,q⟩:=h
 cases rx
 have hus:=rv.zero
 subst hus
 obtain⟨z,its,n,r,hl,e⟩:=I.uA hH
 obtain⟨u,hu,ru⟩:=r.get hy
 have hy':its.toArray[its.toArray.size-1]? =some u:=by
  show its.toArray[its.length-1]? =some u
  rw[<-BZ,<-hl]
  exact hu
 refine FC F.slot_list_pop ⟨_,e,rfl⟩ F.entry_list_pop (F.args_list_pop_1 _) (MeetsSeq.list_pop_last l its.toArray n u hy' (by rw[Ai];omega)) ⟨e,?_⟩
 refine⟨y,_,I.Mq (its':=its.dropLast) hH e ?_ r.dropLast ?_,ru,q⟩
 ·show its.toArray.eraseIdxIfInBounds (its.toArray.size-1)=its.dropLast.toArray
  rw[Ai,List.eraseIdxIfInBounds_toArray,Mp]
 ·rw[Gv]
  omega
def aei:R2:=λx y H Q=>∃l b xs zs,x=.ref l/\y=.ref b/\H l=some (.lst xs)/\H b=some (.lst zs)/\xs.length+zs.length<=sizeLine/\∀p,H p=none->Q (.ref p) (upd H p (.lst (xs++zs)))
theorem W9:dY X (CM .Add) aei:=by
 intro pins s σ H x y v u Q I rx ry h
 obtain⟨l,b,xs,zs,rfl,rfl,hH,hB,hz,q⟩:=h
 cases rx
 cases ry
 obtain⟨z,its,n,r,hl,e⟩:=I.uA hH
 obtain⟨z2,its2,n2,r2,hl2,e2⟩:=I.uA hB
 refine PySem.P.add_list e e2 ?_ (by rw[Ai,Ai];omega)
 have ea:its.toArray++its2.toArray=(its++its2).toArray:=by simp
 rw[ea]
 exact⟨.ref _,_,I.W8 (t':=s.toks) (r.append r2) (by rw[AK];omega),rfl,q _ I.fresh⟩
end
end L2
namespace Att
open PySem PySem.W PySem.Calls PyProof.Rows
theorem vE{P:Gw}{h:Heap}:∀(ns:List Int) (vs:List Value),WellAll P h vs (ns.map WData.int)->GC vs ns:=by
 intro ns
 induction ns with
 | nil=>
  intro vs w
  rw[CW] at w
  cases w
  exact .nil
 | cons n ns ih=>
  intro vs w
  rw[Aj] at w
  cases w with
  | cons a b=>
   cases a
   exact .cons _ _ (ih _ b)
theorem N0{l:OpenLaw}{n:Nat}(hn:l.most=some n){P:Gw}{h:Heap}{args:List WData}{vals:List Value}
  (hpre:l.row.toRowW.claim.pre args=true) (hwl:WellAll P h vals args):
  ∃a vs ns,vals=[BF a]/\args=[WData.list (ns.map WData.int)]/\h.get? a=some {cls:=.type "list",data:=.seq vs.toArray}/\GC vs ns/\ns.length<=n:=by
 have hsh:WShape.hasAll [] args [.list .int]=true:=(pre_splitW hpre).1
 have hc:l.pre.holds [] {args:=args}=true:=(pre_splitW hpre).2
 obtain⟨d,r,rfl,h1,h2⟩:=hasAllW_cons hsh
 obtain rfl:=hasAllW_nil h2
 obtain⟨xs,rfl,h3⟩:=hasW_list h1
 obtain⟨ns,rfl⟩:=items_int h3
 have hlen:ns.length<=n:=by
  unfold OpenLaw.pre at hc
  have h4:(WTm.not (.lt (.lit (.int (n:Int))) (.len (.arg 0)))).holds [] {args:=[.list (ns.map .int)]}=true:=by
   have h4:=(holds_andW hc).1
   rw[hn] at h4
   exact h4
  have h5:=condW_of h4 (w_not (w_lt w_lit (w_len_list (w_arg rfl))))
  rw[AA] at h5
  refine Nat.le_of_not_lt λq=>?_
  have q':(n:Int)<((ns.length:Nat):Int):=by omega
  first
   | (rw[decide_eq_true q'] at h5;exact absurd h5 (by decide))
   | (simp at h5;omega)
 cases hwl with
 | cons w1 w2=>
  cases w2
  cases w1 with
  | list ho hall=>exact⟨_,_,ns,rfl,rfl,ho,vE ns _ hall,hlen⟩
theorem N1(l:OpenLaw)(args:List WData):l.row.toRowW.claim.post args (.bool true) args=true:=
 postW_of (r:=l.row.toRowW) (X:=(true == true))
  (show WShape.has [] (.bool true) .bool=true by first | rfl | decide | simp[WShape.has,WShape.arms,WShape.armsAll])
  (show(WTm.eq .res (.lit (.bool true))).value [] {args:=args,res:=some (.bool true),after:=args}=some (.bool (true == true)) from w_eq_bool (w_res rfl) w_lit) rfl
theorem KD{l:OpenLaw}{n:Nat}{q:Ah}{loose:List Str}{XP:(Str->Option Value)->Heap->Prop}{YP:World->Heap->Prop}{d:DefRec}
  (hn:l.most=some n) (hdf:d.params.defaults=[])
  (call:∀(w:World) (s₀ s₁:AN) (mg mb:Str->Option Value) (fa:Addr) (o:Obj) (pm cd doc:Value) (a:Addr) (vs:List Value) (ns:List Int),
   Ground q loose [] XP w s₀ mg mb s₁.heap->YP w s₁.heap->
   s₁.heap.get? fa=some o->o.data=.func (docDef d.name d.params d.body d.scope pm cd doc)->s₁.heap.CodeRec cd d.name->mg d.name=some (.ref fa)->
   s₁.heap.get? a=some {cls:=.type "list",data:=.seq vs.toArray}->GC vs ns->ns.length<=n->s₁.gens= #[]->
   Ea (model l.prog w) G6 (.call (.ref fa) ⟨[.ref a],[]⟩) (λr s'=>r=.ok (.ret (.bool true))/\OldK s₁.heap s'.heap/\s'.os=s₁.os/\FT s'.gens) s₁):
  WalkO q loose XP YP l.row.toRowW d [] (λf vs=>Hw f vs):=by
 intro w s₀ s₁ mg mb G Y fa o pm cd doc dV kV ho hd hcd hD hmg hg args vals as hpre hlay hrd hwl hlo
 obtain rfl:dV=.none:=Dflts.none hD hdf
 obtain rfl:kV=.none:=Dflts.noKw hD
 obtain⟨a,vs,ns,rfl,rfl,hobj,hints,hlen⟩:=N0 hn hpre hwl
 refine enter_call (EA (call w s₀ s₁ mg mb fa o pm cd doc a vs ns G Y ho (fd_plain hd) hcd hmg hobj hints hlen hg) λr s' hq=>?_)
 obtain⟨rfl,h2,h3,h4⟩:=hq
 exact⟨.inl ⟨.bool true,.bool true,[],rfl,λ_=>rfl,.bool true,N1 l _,λ_=>⟨List.Pairwise.nil,λ_ hm=>(nomatch hm)⟩⟩,h2,h3,h4⟩
end Att
namespace L2
open PySem PySem.Spec PyProof.Rows
theorem xY:∀{vs:List Value} {ns:List Int},GC vs ns->Vals (ns.map V.int) vs
 | _,_,.nil=>.nil
 | _,_,.cons n t h=>.cons ⟨t,rfl⟩ (xY h)
def aH(s:Stmt):EV:=match s with
 | .FunctionDef _ a _ _ _ _ _ _ _ _=>a
 | _=>{posonlyargs:=[],args:=[],vararg:=none,kwonlyargs:=[],kw_defaults:=[],kwarg:=none,defaults:=[]}
def aG(s:Stmt):List Stmt:=match s with
 | .FunctionDef _ _ b _ _ _ _ _ _ _=>b
 | _=>[]
def ah(s:Stmt):Scope:=match s with
 | .FunctionDef _ _ _ _ _ _ sc _ _ _=>sc
 | _=>{kind:=.function,names:=[],isGenerator:=false,isCoroutine:=false}
abbrev aW:rV:=λ_ _ _ _ _ _=>False
abbrev E0:XK:=λ_ _ _=>False
theorem az{X:Cx}:Passes aW X E0:=λ_ _ _ _ _ _ _ h=>h.elim
structure cP (K:AB)(x qual:Str)(st:Stmt)(f:Addr)(fd:Av):Prop where
 ex:∃(oc:Value) (od:Option Addr) (kV doc pm:Value) (an:Option Addr) (cdv ct:Value) (osl:Array (Option Value)),
  fd=Ad x qual (aH st) (aG st) (ah st) .none kV doc pm an cdv ct/\K.lookup f=some ⟨oc,od,.func fd,osl⟩/\Af K cdv qual=true
 kp:AH K (.ref f)=true
section
variable{P:Ah}{w:World}{K:AB}{mg:Str->Option Value}{base:Heap}
theorem cP.ok{x qual:Str}{st:Stmt}{f:Addr}{fd:Av}{N ps:List Str}{k:Nat}{sp:Sp}(F:cP K x qual st f fd)(S:aP N ps (ah st))(len:∀vs H Q E,sp vs H Q E->vs.length=ps.length)
  (hbody:∀(cdv:Value) (A:BB) (outer:List Env) (s:AN) (H:Hp) (vs:List V) (Q:VK) (E:XK),aK k (A.deeper (Em qual (ah st) s.heap.objs.size f cdv))->sp vs H Q E->
   ∃t,oB (jR aW P w K mg base N qual (ah st) f cdv A outer s H E).ub (aG st) t/\t {nx:=λ_ H'=>Q .non H',rt:=Q} (start N vs) H):aO P w K mg base aW (k+1) f fd ps sp:=by
 obtain⟨oc,od,kV,doc,pm,an,cdv,ct,osl,rfl,lk,hcd⟩:=F.ex
 refine TC lk hcd S len λA outer s H vs Q E hr hsp=>?_
 obtain⟨t,h,q⟩:=hbody cdv A outer s H vs Q E hr hsp
 exact⟨t,h.ub,q⟩
theorem cP.binds{x qual:Str}{st:Stmt}{f:Addr}{fd:Av}{ps:List Str}(F:cP K x qual st f fd)
  (h:∀(kV doc pm:Value) (an:Option Addr) (cdv ct:Value) (us:List Value),us.length=ps.length->Hb (Ad x qual (aH st) (aG st) (ah st) .none kV doc pm an cdv ct) ⟨us,[]⟩=pure (ps.zip us)):Binds K fd ps []:=by
 obtain⟨oc,od,kV,doc,pm,an,cdv,ct,osl,rfl,lk,hcd⟩:=F.ex
 exact .all (h kV doc pm an cdv ct)
theorem br{x qual:Str}{st:Stmt}{f:Addr}{oc:Value}{od an:Option Addr}{osl:Array (Option Value)}{kV doc pm cdv ct:Value}(l:K.lookup f=some ⟨oc,od,.func (Ad x qual (aH st) (aG st) (ah st) .none kV doc pm an cdv ct),osl⟩)
  (c:Af K cdv qual=true) (k:AH K (.ref f)=true):cP K x qual st f (Ad x qual (aH st) (aG st) (ah st) .none kV doc pm an cdv ct):=⟨⟨oc,od,kV,doc,pm,an,cdv,ct,osl,rfl,l,c⟩,k⟩
end
theorem cf{A:BB}{k:Nat}(hr:aK k A):A.units+1<cLine:=Ay (Nat.add_le_add_left (by decide:1<=64) _) hr.units
section
variable{X:Cx}
theorem pv(i:Nat){x:Str}{pos:Pos}(hN:X.N[i]? =some x:=by rfl)(hv:K7 X.env.scope x:=by first | exact Ab rfl | exact CT (Ab rfl) | exact CT (CT rfl))(hd:(x == ("__debug__":Str))=false:=by decide)
  (hcd:(x == ("__classdict__":Str))=false:=by decide):PE X (.Name x pos) (Md i):=WH hN hv hd hcd
end
theorem lN{A B:Prop}(h:B):if false=true then A else B:=by
 rw[if_neg An]
 exact h
theorem z_{A B:Prop}(h:A):if true=true then A else B:=by
 rw[if_pos rfl]
 exact h
theorem bJ{c A B:Prop}[Decidable c](h1:c->A)(h2:¬c->B):if c then A else B:=by
 by_cases h:c
 ·rw[if_pos h]
  exact h1 h
 ·rw[if_neg h]
  exact h2 h
def Same(H H':Hp):Prop:=∀b o,H b=some o->H' b=some o
theorem Same.refl(H:Hp):Same H H:=λ_ _ h=>h
theorem Same.trans{H H1 H2:Hp}(a:Same H H1)(b:Same H1 H2):Same H H2:=λc o h=>b c o (a c o h)
theorem Same.free{H H':Hp}(e:Same H H'){l:Addr}(h:H' l=Gx):H l=Gx:=by
 cases q:H l with
 | none=>rfl
 | some o=>
  rw[e l o q] at h
  cases h
theorem Same.seq{K:AB}{H H':Hp}{a:Addr}{xs:List V}(e:Same H H')(h:bM K H a xs):bM K H' a xs:=by
 rcases h with(h | ⟨o,h⟩) | h
 ·exact .inl (.inl (e _ _ h))
 ·exact .inl (.inr ⟨o,e _ _ h⟩)
 ·exact .inr h
section
variable{κ:Type}[DecidableEq κ]
def aZ(kvs:List (κ×V))(k:κ):Option V:=(kvs.find? λkv=>decide (kv.1=k)).map (·.2)
def putK(kvs:List (κ×V))(k:κ)(v:V):List (κ×V):=
 if(kvs.any λkv=>decide (kv.1=k))=true then kvs.map (λkv=>if kv.1=k then(kv.1,v) else kv) else kvs++[(k,v)]
theorem uB{k:κ}:aZ ([]:List (κ×V)) k=none:=rfl
theorem bY{p:κ×V}{r:List (κ×V)}{k:κ}(e:p.1=k):aZ (p::r) k=some p.2:=by simp[aZ,DC,e]
theorem bR{p:κ×V}{r:List (κ×V)}{k:κ}(e:¬p.1=k):aZ (p::r) k=aZ r k:=by simp[aZ,DC,e]
theorem m9(k:κ):∀kvs:List (κ×V),(kvs.any λkv=>decide (kv.1=k))=(aZ kvs k).isSome
 | []=>rfl
 | p::r=>by
  rw[Cz]
  by_cases e:p.1=k
  ·simp only[bY e,decide_eq_true e,Hc,Option.isSome_some]
  ·rw[bR e,decide_eq_false e,Bool.false_or];exact m9 k r
theorem Hy(k j:κ)(y:V):∀kvs:List (κ×V),aZ (kvs.map λkv=>if kv.1=k then(kv.1,y) else kv) j=(aZ kvs j).map λx=>if j=k then y else x
 | []=>rfl
 | p::r=>by
  have ih:=Hy k j y r
  rw[Aj]
  by_cases h:p.1=k
  ·rw[if_pos h]
   by_cases e:p.1=j
   ·rw[bY (p:=(p.1,y)) e,bY e,En,if_pos (e.symm.trans h)]
   ·rw[bR (p:=(p.1,y)) e,bR e,ih]
  ·rw[if_neg h]
   by_cases e:p.1=j
   ·rw[bY (p:=p) e,bY e,En,if_neg (λz=>h (e.trans z))]
   ·rw[bR (p:=p) e,bR e,ih]
theorem xZ(k j:κ)(y:V):∀kvs:List (κ×V),aZ kvs k=none->aZ (kvs++[(k,y)]) j=if j=k then some y else aZ kvs j
 | [],_=>by
  by_cases e:k=j
  ·rw[if_pos e.symm];exact bY (p:=(k,y)) e
  ·rw[if_neg (λz=>e z.symm)];exact bR (p:=(k,y)) e
 | p::r,hn=>by
  rw[List.cons_append]
  have hk:¬p.1=k:=λz=>by rw[bY z] at hn;cases hn
  rw[bR hk] at hn
  have ih:=xZ k j y r hn
  by_cases e:p.1=j
  ·rw[bY e,bY e,if_neg (λz=>hk (e.trans z))]
  ·rw[bR e,bR e,ih]
theorem uC(kvs:List (κ×V))(k j:κ)(y:V):aZ (putK kvs k y) j=if j=k then some y else aZ kvs j:=by
 unfold putK
 by_cases a:(kvs.any λkv=>decide (kv.1=k))=true
 ·rw[if_pos a,Hy]
  rw[m9] at a
  by_cases e:j=k
  ·obtain⟨x,hx⟩:=CI.mp a
   rw[if_pos e,e,hx,En,if_pos rfl]
  ·rw[if_neg e]
   cases aZ kvs j with
   | none=>rfl
   | some x=>rw[En,if_neg e]
 ·rw[if_neg a]
  refine xZ k j y kvs ?_
  rw[m9] at a
  cases q:aZ kvs k with
  | none=>rfl
  | some x=>rw[q] at a;exact(a rfl).elim
theorem i'(kvs:List (κ×V))(k:κ)(v:V):(putK kvs k v).length<=kvs.length+1:=by
 unfold putK
 split
 ·rw[AA];omega
 ·rw[AK,A2,DD];omega
theorem kj{kvs:List (κ×V)}{k:κ}(v:V)(h:aZ kvs k=none):putK kvs k v=kvs++[(k,v)]:=by
 unfold putK
 rw[m9,h]
 exact if_neg (by decide)
theorem iu.iz{o:Option V}{u:Option Value}(r:iu o u):o.isSome=u.isSome:=by
 cases o with
 | none=>cases u with
  | none=>rfl
  | some _=>exact(show False from r).elim
 | some _=>cases u with
  | none=>exact(show False from r).elim
  | some _=>rfl
theorem iu.getD{o:Option V}{u:Option Value}{d:V}{d':Value}(r:iu o u)(rd:RelV d d'):RelV (o.getD d) (u.getD d'):=by
 cases o with
 | none=>cases u with
  | none=>exact rd
  | some _=>exact(show False from r).elim
 | some _=>cases u with
  | none=>exact(show False from r).elim
  | some _=>exact r
theorem KV.val{kvs:List (κ×V)}{vs:List (κ×Value)}(r:KV kvs vs)(k:κ):iu (aZ kvs k) (GF vs k):=by
 unfold KV at r
 induction r with
 | nil=>exact BU
 | @cons p q ps qs h t ih=>
  obtain⟨h1,h2⟩:=h
  by_cases e:p.1=k
  ·have e':q.1=k:=h1.symm.trans e
   have b:GF (q::qs) k=some q.2:=by simp[GF,DC,e']
   rw[bY e,b];exact h2
  ·have e':¬q.1=k:=λz=>e (h1.trans z)
   have b:GF (q::qs) k=GF qs k:=by simp[GF,DC,e']
   rw[bR e,b];exact ih
theorem KV.any{kvs:List (κ×V)}{vs:List (κ×Value)}(r:KV kvs vs)(k:κ):(kvs.any λkv=>decide (kv.1=k))=vs.any λkv=>decide (kv.1=k):=by
 unfold KV at r
 induction r with
 | nil=>rfl
 | cons h t ih=>rw[Cz,Cz,ih,h.1]
theorem KV.repl{kvs:List (κ×V)}{vs:List (κ×Value)}(r:KV kvs vs)(k:κ){y:V}{u:Value}(ry:RelV y u):
  KV (kvs.map λkv=>if kv.1=k then(kv.1,y) else kv) (vs.map λkv=>if kv.1=k then(kv.1,u) else kv):=by
 unfold KV at r ⊢
 induction r with
 | nil=>exact .nil
 | @cons p q ps qs h t ih=>
  rw[Aj,Aj]
  refine .cons ?_ ih
  obtain⟨h1,h2⟩:=h
  by_cases e:p.1=k
  ·rw[if_pos e,if_pos (h1.symm.trans e)];exact⟨h1,ry⟩
  ·rw[if_neg e,if_neg (λz=>e (h1.trans z))];exact⟨h1,h2⟩
theorem KV.put{kvs:List (κ×V)}{vs:List (κ×Value)}(r:KV kvs vs)(k:κ){y:V}{u:Value}(ry:RelV y u):KV (putK kvs k y) (stored vs k u):=by
 unfold putK stored
 rw[r.any k]
 by_cases e:(vs.any λkv=>decide (kv.1=k))=true
 ·rw[if_pos e,if_pos e];exact r.repl k ry
 ·rw[if_neg e,if_neg e];exact Paired.snoc r ⟨rfl,ry⟩
theorem KV.length{kvs:List (κ×V)}{vs:List (κ×Value)}(r:KV kvs vs):kvs.length=vs.length:=Ag r
end
theorem mQ{P:Ah}{w:World}{k:Key}{u:Value}(r:RelV (kV k) u):(bf P w).is k u=true:=by
 cases k with
 | inl i=>obtain⟨t,e⟩:=(show ∃t,u=Fm i t from r);subst e;exact KA P w i t
 | inr x=>obtain⟨t,e⟩:=(show ∃t,u=ES x t from r);subst e;exact KC P w x t
theorem x4{P:Ah}{w:World}:∀{ks:List Key} {us:List Value},Vals (ks.map kV) us->ItemsAre (bf P w) ks us
 | [],_,r=>by rw[CW] at r;cases r;exact .nil
 | k::ks,_,r=>by
  rw[Aj] at r
  cases r with
  | cons h t=>exact .cons (mQ h) (x4 t)
abbrev KT (H:Hp):List (List Key×V)->List (List Key×Addr×Value)->Prop:=Bl λp q=>p.1=q.1/\H q.2.1=some (.tup (p.1.map kV))/\RelV p.2 q.2.2
theorem KT.val{H:Hp}{kvs:List (List Key×V)}{xs:List (List Key×Addr×Value)}(r:KT H kvs xs)(k:List Key):iu (aZ kvs k) ((atKey xs k).map (·.2)):=by
 induction r with
 | nil=>exact BU
 | @cons p q ps qs h t ih=>
  obtain⟨h1,_,h2⟩:=h
  by_cases e:p.1=k
  ·have e':q.1=k:=h1.symm.trans e
   have b:atKey (q::qs) k=some q.2:=by simp[atKey,DC,e']
   rw[bY e,b];exact h2
  ·have e':¬q.1=k:=λz=>e (h1.trans z)
   have b:atKey (q::qs) k=atKey qs k:=by simp[atKey,DC,e']
   rw[bR e,b];exact ih
theorem KT.repl{H:Hp}{kvs:List (List Key×V)}{xs:List (List Key×Addr×Value)}(r:KT H kvs xs)(k:List Key){y:V}{u:Value}(ry:RelV y u):
  KT H (kvs.map λkv=>if kv.1=k then(kv.1,y) else kv) (xs.map (putAt k u)):=by
 induction r with
 | nil=>exact .nil
 | @cons p q ps qs h t ih=>
  rw[Aj,Aj]
  refine .cons ?_ ih
  obtain⟨h1,h2,h3⟩:=h
  unfold putAt
  by_cases e:p.1=k
  ·rw[if_pos e,if_pos (h1.symm.trans e)];exact⟨h1,h2,ry⟩
  ·rw[if_neg e,if_neg (λz=>e (h1.trans z))];exact⟨h1,h2,h3⟩
theorem KT.put{H:Hp}{kvs:List (List Key×V)}{xs:List (List Key×Addr×Value)}(r:KT H kvs xs)(k:List Key){b:Addr}{y:V}{u:Value}(hb:H b=some (.tup (k.map kV)))(ry:RelV y u):
  KT H (putK kvs k y) (storedH xs k b u):=by
 have e:(kvs.any λkv=>decide (kv.1=k))=(atKey xs k).isSome:=by
  rw[m9,(r.val k).iz,FW]
 unfold putK storedH
 rw[e]
 by_cases q:(atKey xs k).isSome=true
 ·rw[if_pos q,if_pos q];exact r.repl k ry
 ·rw[if_neg q,if_neg q];exact Paired.snoc r ⟨rfl,hb,ry⟩
theorem KT.keeps{H H':Hp}{kvs:List (List Key×V)}{xs:List (List Key×Addr×Value)}(r:KT H kvs xs)(ht:∀b ys,H b=some (.tup ys)->H' b=some (.tup ys)):KT H' kvs xs:=
 Paired.rM r λ_ _ z=>⟨z.1,ht _ _ z.2.1,z.2.2⟩
section
variable{P:Ah}{w:World}{H:Hp}{h:Heap}{a:Addr}
theorem TF{u:HO}(ok:dW P w H h)(e:Rd H a u):bN P w H h a u:=e.ok ok
theorem oE{kvs:List (Key×V)}(ok:dW P w H h)(e:Rd H a (.dK kvs)):kvs.length<=sizeLine/\(a == Ba)=false/\∃vs,KV kvs vs/\h.DictOf (bf P w) a vs:=
 show bN P w H h a (.dK kvs) from TF ok e
theorem zA{kvs:List (Key×V)}(ok:dW P w H h)(e:H a=some (.dK kvs)):kvs.length<=sizeLine/\(a == Ba)=false/\∃vs,KV kvs vs/\h.DictOf (bf P w) a vs:=oE ok (.inl e)
theorem ng{ks:List Key}(ok:dW P w H h)(e:H a=some (.tup (ks.map kV))):(ET (bf P w)).is h ks a:=by
 obtain⟨_,its,r,o,h1,h2,n,h3⟩:=(show bN P w H h a (.tup (ks.map kV)) from ok a _ e)
 exact⟨o,its.toArray,n,h1,h2,h3,by simpa using x4 r⟩
theorem qk{kvs:List (List Key×V)}(ok:dW P w H h)(e:Rd H a (.dT kvs)):kvs.length<=sizeLine/\(a == Ba)=false/\
  ∃xs,KT H kvs xs/\h.DictOfH (ET (bf P w)) a xs:=by
 obtain⟨z,y,xs,r,o,es,ep,h1,h2,h3,h4,h5⟩:=(show bN P w H h a (.dT kvs) from TF ok e)
 refine⟨z,y,xs,r,o,es,ep,h1,h2,h3,h4,λx hx=>?_,h5⟩
 have all:∀{l:List (List Key×V)} {m:List (List Key×Addr×Value)},KT H l m->∀x∈m,(ET (bf P w)).is h x.1 x.2.1:=by
  intro l m q
  induction q with
  | nil=>intro x hx;exact nomatch hx
  | @cons p q ps qs hq t ih=>
   intro x hx
   rcases Ae.mp hx with e | hx
   ·subst e
    exact ng ok (by rw[<-hq.1];exact hq.2.1)
   ·exact ih x hx
 exact all r x hx
theorem TH{kvs:List (List Key×V)}(ok:dW P w H h)(e:H a=some (.dT kvs)):kvs.length<=sizeLine/\(a == Ba)=false/\
  ∃xs,KT H kvs xs/\h.DictOfH (ET (bf P w)) a xs:=qk ok (.inl e)
end
def km(H:Hp)(a:Addr)(y:V)(r:Option V):Prop:=
 (∃kvs k,Rd H a (.dK kvs)/\y=kV k/\r=aZ kvs k)∨∃kvs k b,Rd H a (.dT kvs)/\y=.ref b/\H b=some (.tup (k.map kV))/\r=aZ kvs k
def jU(H:Hp)(a:Addr)(y v:V)(H':Hp):Prop:=
 (∃kvs k,H a=some (.dK kvs)/\y=kV k/\kvs.length<sizeLine/\H'=upd H a (.dK (putK kvs k v)))∨
 ∃kvs k b,H a=some (.dT kvs)/\y=.ref b/\H b=some (.tup (k.map kV))/\kvs.length<sizeLine/\H'=upd H a (.dT (putK kvs k v))
theorem jU.k{H:Hp}{a:Addr}{kvs:List (Key×V)}{k:Key}{v:V}(e:H a=some (.dK kvs))(hl:kvs.length<sizeLine):jU H a (kV k) v (upd H a (.dK (putK kvs k v))):=.inl ⟨kvs,k,e,rfl,hl,rfl⟩
theorem jU.t{H:Hp}{a b:Addr}{kvs:List (List Key×V)}{k:List Key}{v:V}(e:H a=some (.dT kvs))(eb:H b=some (.tup (k.map kV)))(hl:kvs.length<sizeLine):
  jU H a (.ref b) v (upd H a (.dT (putK kvs k v))):=.inr ⟨kvs,k,b,e,rfl,eb,hl,rfl⟩
section
variable{X:Cx}{pins:List (Addr×Obj)}{σ:St}{H:Hp}{s:AN}{a:Addr}{y v:V}{u r:Value}{o:Option V}{A:BB}{E:Value->AN->Prop}
theorem Inv.big(I:Inv X pins σ H s):Ba<s.heap.objs.size:=by
 have h:AY<s.heap.objs.size:=(I.mod.glob.keeps I.bk).lt
 exact CL (by decide) h
theorem yb{Q:Value->AN->Prop}(hu:A.units+1<cLine)(I:Inv X pins σ H s)(g:km H a y (some v))(ry:RelV y u)(h:∀w' s',Inv X pins σ H s'->RelV v w'->Q w' s'):
  wpAny (model X.prog X.w) A (Eb (.ref a) u) Q E s:=by
 rcases g with⟨kvs,k,e,ey,l⟩ | ⟨kvs,k,b,e,ey,eb,l⟩
 ·subst ey
  obtain⟨z,hd,vs,rel,dd⟩:=oE I.hok e
  obtain⟨w',hw,jS⟩:=iu.some_of (v:=v) (o:=GF vs k) (by rw[l];exact rel.val k)
  exact wpAny_getItem_of (mQ ry) dd.mapOf hw (h w' _ (I.tok _) jS)
 ·subst ey
  cases(show u=BF b from ry)
  obtain⟨z,hd,xs,rel,dd⟩:=qk I.hok e
  obtain⟨w',hw,jS⟩:=iu.some_of (v:=v) (o:=(atKey xs k).map (·.2)) (by rw[l];exact rel.val k)
  obtain⟨p,hp,hp2⟩:=Bf.mp hw
  refine wpAny_getItem_heap (DA hu) (ng I.hok eb) dd hp ?_
  rw[hp2]
  exact h w' _ (I.tok _) jS
theorem aej{Q:Value->AN->Prop}(hu:A.units+1<cLine)(I:Inv X pins σ H s)(g:km H a y o)(ry:RelV y u)(h:∀s',Inv X pins σ H s'->Q (.bool o.isSome) s'):
  wpAny (model X.prog X.w) A (Bu .In u (.ref a)) Q E s:=by
 rcases g with⟨kvs,k,e,ey,l⟩ | ⟨kvs,k,b,e,ey,eb,l⟩
 ·subst ey
  obtain⟨z,hd,vs,rel,dd⟩:=oE I.hok e
  refine wpAny_in_of (mQ ry) hd dd.mapOf ?_
  rw[<-(rel.val k).iz,<-l]
  exact h _ (I.tok _)
 ·subst ey
  cases(show u=BF b from ry)
  obtain⟨z,hd,xs,rel,dd⟩:=qk I.hok e
  refine wpAny_in_heap (DA hu) (ng I.hok eb) hd dd ?_
  have q:=(rel.val k).iz
  rw[FW] at q
  rw[<-q,<-l]
  exact h _ (I.tok _)
theorem Vy{Q:Value->AN->Prop}(hu:A.units+1<cLine)(I:Inv X pins σ H s)(g:km H a y o)(ry:RelV y u)(h:∀s',Inv X pins σ H s'->Q (.bool (!o.isSome)) s'):
  wpAny (model X.prog X.w) A (Bu .NotIn u (.ref a)) Q E s:=by
 rcases g with⟨kvs,k,e,ey,l⟩ | ⟨kvs,k,b,e,ey,eb,l⟩
 ·subst ey
  obtain⟨z,hd,vs,rel,dd⟩:=oE I.hok e
  refine wpAny_notIn_of (mQ ry) hd dd.mapOf ?_
  rw[<-(rel.val k).iz,<-l]
  exact h _ (I.tok _)
 ·subst ey
  cases(show u=BF b from ry)
  obtain⟨z,hd,xs,rel,dd⟩:=qk I.hok e
  refine wpAny_notIn_heap (DA hu) (ng I.hok eb) hd dd ?_
  have q:=(rel.val k).iz
  rw[FW] at q
  rw[<-q,<-l]
  exact h _ (I.tok _)
theorem mW{h':Heap}{t':Nat}{ob:HO}(I:Inv X pins σ H s)(mu:NJ (H a))(hs:C9 a s.heap h')(he:∃q,h'.get? a=some q)(new:bN X.prog X.w (upd H a ob) h' a ob):
  Inv X pins σ (upd H a ob) {s with heap:=h',toks:=t'}:=
 I.write (x:=a) (e:=a) mu (.inl rfl) (λb q hb z=>(hs.2 b hb).trans z) he new
theorem N4{P:Ah}{w:World}{H':Hp}{h':Heap}{kvs:List (Key×V)}{vs:List (Key×Value)}(z:kvs.length<=sizeLine)(hd:(a == Ba)=false)(rel:KV kvs vs)(dd:h'.DictOf (bf P w) a vs):
  bN P w H' h' a (.dK kvs):=⟨z,hd,vs,rel,dd⟩
theorem yc{H':Hp}{Q:Unit->AN->Prop}(hu:A.units+1<cLine)(I:Inv X pins σ H s)(g:jU H a y v H')(ry:RelV y u)(rv:RelV v r)(h:∀s',Inv X pins σ H' s'->Q () s'):
  wpAny (model X.prog X.w) A (setItem (.ref a) u r) Q E s:=by
 rcases g with⟨kvs,k,e,ey,l,eH⟩ | ⟨kvs,k,b,e,ey,eb,l,eH⟩
 ·subst ey eH
  obtain⟨z,hd,vs,rel,dd⟩:=zA I.hok e
  have hz:vs.length<=sizeLine:=by rw[<-rel.length];exact z
  have hl:(putK kvs k v).length<=sizeLine:=by have:=i' kvs k v;omega
  refine wpAny_setItem_pairs (hsz:=hz) (mQ ry) dd λh' nh hs=>h _ ?_
  have he:∃q,h'.get? a=some q:=let ⟨q,_,_,hq,_⟩:=nh;⟨q,hq⟩
  exact mW I (by rw[e];exact BU) hs he (N4 hl hd (rel.put k rv) nh)
 ·subst ey eH
  cases(show u=BF b from ry)
  obtain⟨z,hd,xs,rel,dd⟩:=TH I.hok e
  have hz:xs.length<=sizeLine:=by rw[<-Ag rel];exact z
  have hl:(putK kvs k v).length<=sizeLine:=by have:=i' kvs k v;omega
  refine wpAny_setItem_heap (hsz:=hz) (DA hu) (ng I.hok eb) dd λh' nh hs=>h _ ?_
  obtain⟨q,es,ep,hq,h2,h3,h4,_,h5⟩:=nh
  refine mW I (by rw[e];exact BU) hs ⟨q,hq⟩ ⟨hl,hd,_,(rel.put k eb rv).keeps λc ys ec=>?_,q,es,ep,hq,h2,h3,h4,h5⟩
  rw[aB (fE ec e (λz=>nomatch z))]
  exact ec
end
def Q6(i:Expr):Prop:=∀ov iv,Gu i false ov iv=operate [ov,iv] (Eb ov iv)
theorem Lh{prog:Ah}{w:World}{A:BB}{E:Value->AN->Prop}{s:AN}{env:Env}{value slice:Expr}{pos:Pos}{T id:String}{Q:Value->AN->Prop}
  (hl:E_ (.type T) "__getitem__"=pure (some (.builtin id))) (hs:Q6 slice)
  (h:wpAny (model prog w) A (eval value env) (λo s₁=>wpAny (model prog w) A (eval slice env) (λi s₂=>s₂.TypeIs o T/\wpAny (model prog w) A (Eb o i) Q E s₂) E s₁) E s):
  wpAny (model prog w) A (eval (.Subscript value slice pos) env) Q E s:=by
 refine GD (B0 h (λo s₁ h₁=>B0 h₁ (λi s₂ h₂=>?_) λ_ _ x=>x) λ_ _ x=>x)
 obtain⟨hT,h₂⟩:=h₂
 unfold Ec
 refine AD ?_
 rw[getitemInPython_of_ne hT.not_modules]
 refine AD (Eo hT hl ?_)
 have fin:wpAny (model prog w) A (Gu slice false o i) (λr s₃=>wpAny (model prog w) A (letTemporaryGo value o r >>= λ_=>pure r) Q E s₃) E s₂:=by
  rw[hs o i]
  exact wpAny_operating (B0 h₂ (λr s₃ h₃=>AD (wpAny_letTemporaryGo (AO h₃))) λ_ _ x=>x)
 first
  | exact AO (AD fin)
  | exact AD (AO (AD fin))
  | exact AD fin
theorem ug{X:Cx}{pins:List (Addr×Obj)}{σ:St}{H:Hp}{s:AN}{a:Addr}{y:V}{o:Option V}(I:Inv X pins σ H s)(g:km H a y o):s.TypeIs (.ref a) "dict":=by
 rcases g with⟨kvs,k,e,_,_⟩ | ⟨kvs,k,b,e,_,_,_⟩
 ·obtain⟨_,_,vs,_,dd⟩:=oE I.hok e
  exact dd.typeIs
 ·obtain⟨_,_,xs,_,dd⟩:=qk I.hok e
  exact dd.typeIs
def aa5(td ty:TE):TE:=λσ H Q=>td σ H λx H1=>ty σ H1 λy H2=>∃a v,x=.ref a/\km H2 a y (some v)/\Q v H2
def aa6(td ty tv:TE):TS:=λD σ H=>tv σ H λv H1=>td σ H1 λx H2=>ty σ H2 λy H3=>∃a H4,x=.ref a/\jU H3 a y v H4/\D.nx σ H4
section
variable{X:Cx}{o i e value:Expr}{pos pos' tpos:Pos}{td ty tv:TE}
theorem cv(hu:X.A.units+1<cLine)(ho:PE X o td)(hi:PE X i ty)(hs:Q6 i):PE X (.Subscript o i pos) (aa5 td ty):=by
 intro pins s σ H Q I h
 refine Lh FL.lookup hs (aQ (ho pins s σ H _ I h) ?_)
 rintro u s1 ⟨x,H1,I1,rx,q1⟩
 refine aQ (hi pins s1 σ H1 _ I1 q1) ?_
 rintro iv s2 ⟨y,H2,I2,ry,a,v,ex,g,q2⟩
 subst ex
 obtain rfl:u=BF a:=rx
 exact⟨ug I2 g,yb hu I2 g ry λw' s3 I3 jS=>⟨v,H2,I3,jS,q2⟩⟩
theorem pN(hu:X.A.units+1<cLine)(ho:PE X o td)(hi:PE X i ty)(hv:PE X value tv)(hs:G5 value (some (.Subscript o i pos')) pos.line X.env=pure false):
  PS X (.Assign [.Subscript o i pos'] value pos) (aa6 td ty tv):=by
 intro pins s σ H D I h
 refine wpAny_Assign_Subscript (aQ (hv pins s σ H _ I h) ?_) hs
 rintro r s1 ⟨v,H1,I1,rv,q1⟩
 refine aQ (ho pins s1 σ H1 _ I1 q1) ?_
 rintro u s2 ⟨x,H2,I2,rx,q2⟩
 refine aQ (hi pins s2 σ H2 _ I2 q2) ?_
 rintro iv s3 ⟨y,H3,I3,ry,a,H4,ex,g,q3⟩
 subst ex
 obtain rfl:u=BF a:=rx
 exact yc hu I3 g ry rv λs4 I4=>⟨σ,H4,I4,q3⟩
end
theorem Q7{P:Ah}{w:World}{H:Hp}(h:Heap)(hb:Ba<h.objs.size):bN P w H (h.push {cls:=.type "dict",data:=.dict #[]}) h.objs.size (.dK []):=
 ⟨A6 _,beq_eq_false_iff_ne.mpr (C1 (Al hb)),[],.nil,Ep h⟩
theorem Hz{P:Ah}{w:World}{H:Hp}(h:Heap)(hb:Ba<h.objs.size):bN P w H (h.push {cls:=.type "dict",data:=.dict #[]}) h.objs.size (.dT []):=
 ⟨A6 _,beq_eq_false_iff_ne.mpr (C1 (Al hb)),[],.nil,_, #[],0,AV _ rfl,⟨rfl,rfl,rfl⟩,rfl,rfl,Gy⟩
def W':TE:=λ_ H Q=>∀p,H p=none->Q (.ref p) (upd H p (.dT []))
section
variable{X:Cx}{pos:Pos}
theorem Q8:PE X (.Dict [] [] pos) W':=λpins s σ H Q I h=>
 wpAny_Dict_empty ⟨.ref s.heap.objs.size,_,I.laid (a:=s.heap.objs.size) (o:=.dT []) (t':=s.toks) (λ_ _ q=>AE _ q) (AM _) (Hz s.heap I.big),rfl,h _ (I.hok.fresh (AM _))⟩
end
def H_:List (TE×TE)->St->Hp->(List (V×V)->Hp->Prop)->Prop
 | [],_,H,Q=>Q [] H
 | (tk,tv)::r,σ,H,Q=>tk σ H λx H1=>tv σ H1 λy H2=>H_ r σ H2 λps H3=>Q ((x,y)::ps) H3
abbrev VV:List (V×V)->List (Value×Value)->Prop:=Bl λp q=>RelV p.1 q.1/\RelV p.2 q.2
def Li(X:Cx)(pos:Pos)(keys:List (Option Expr))(values:List Expr)(vF:List (TE×TE)):Prop:=
 ∀(pins:List (Addr×Obj)) (s:AN) (σ:St) (H:Hp) (Q:List (V×V)->Hp->Prop),Inv X pins σ H s->H_ vF σ H Q->
  wpAny (model X.prog X.w) X.A (evalPairs (pairTrees keys values X.env pos)) (λvs s'=>∃ps H',Inv X pins σ H' s'/\VV ps vs/\Q ps H') X.xe s
theorem wU{X:Cx}{pos:Pos}:Li X pos [] [] []:=λpins s σ H Q I h=>pairTrees_nil_walk ⟨[],H,I,.nil,h⟩
theorem ni{X:Cx}{pos:Pos}{k v:Expr}{ks:List (Option Expr)}{vs:List Expr}{tk tv:TE}{vF:List (TE×TE)}(hk:PE X k tk)(hv:PE X v tv)(hr:Li X pos ks vs vF):
  Li X pos (some k::ks) (v::vs) ((tk,tv)::vF):=λpins s σ H Q I h=>
 pairTrees_cons_walk (aQ (hk pins s σ H _ I h) λu s1 ⟨x,H1,I1,rx,q1⟩=>aQ (hv pins s1 σ H1 _ I1 q1) λw2 s2 ⟨y,H2,I2,ry,q2⟩=>
  aQ (hr pins s2 σ H2 _ I2 q2) λws s3 ⟨ps,H3,I3,rel,q3⟩=>⟨(x,y)::ps,H3,I3,.cons ⟨rx,ry⟩ rel,q3⟩)
def bL(kvs more:List (Key×V)):List (Key×V):=more.foldl (λacc kv=>putK acc kv.1 kv.2) kvs
theorem KV.merge:∀{more:List (Key×V)} {rs:List (Key×Value)} {kvs:List (Key×V)} {vs:List (Key×Value)},KV more rs->KV kvs vs->KV (bL kvs more) (GG vs rs):=by
 intro more rs kvs vs r
 unfold KV at r
 induction r generalizing kvs vs with
 | nil=>intro q;exact q
 | @cons p q ps qs h t ih=>
  intro r0
  have e:KV (putK kvs p.1 p.2) (stored vs q.1 q.2):=by
   have:=r0.put p.1 h.2
   rw[<-h.1];exact this
  exact ih e
theorem gY:∀(more kvs:List (Key×V)),(bL kvs more).length<=kvs.length+more.length
 | [],kvs=>by show kvs.length<=kvs.length+0;omega
 | p::r,kvs=>by
  have h1:=gY r (putK kvs p.1 p.2)
  have h2:=i' kvs p.1 p.2
  show(bL (putK kvs p.1 p.2) r).length<=_
  rw[A2];omega
theorem vG{P:Ah}{w:World}:∀{kvs:List (Key×V)} {ws:List (Value×Value)},VV (kvs.map λkv=>(kV kv.1,kv.2)) ws->∃rs,Carries (bf P w) ws rs/\KV kvs rs
 | [],_,r=>by rw[CW] at r;cases r;exact⟨[],BU,.nil⟩
 | p::kvs,_,r=>by
  rw[Aj] at r
  cases r with
  | @cons a b as bs h t=>
   obtain⟨rs,c,q⟩:=vG (P:=P) (w:=w) t
   obtain⟨b1,b2⟩:=b
   exact⟨(p.1,b2)::rs,⟨mQ h.1,rfl,c⟩,.cons ⟨rfl,h.2⟩ q⟩
def aa7(vF:List (TE×TE)):TE:=λσ H Q=>∀p,H p=none->H_ vF σ (upd H p (.dK [])) λps H2=>H2 p=some (.dK [])/\∃kvs:List (Key×V),ps=kvs.map (λkv=>(kV kv.1,kv.2))/\kvs.length<=15/\Q (.ref p) (upd H2 p (.dK (bL [] kvs)))
theorem Vz{X:Cx}{pos:Pos}{keys:List (Option Expr)}{values:List Expr}{vF:List (TE×TE)}(h:Li X pos keys values vF)(hall:keys.all (·.isSome)=true)(hl:keys.length=values.length)(h0:keys≠[])
  (h15:keys.length<=15):PE X (.Dict keys values pos) (aa7 vF):=by
 intro pins s σ H Q I q
 have hn:=I.hok.fresh (AM s.heap.objs.size)
 have I1:=I.laid (a:=s.heap.objs.size) (o:=.dK []) (h':=s.heap.push {cls:=.type "dict",data:=.dict #[]}) (t':=s.toks) (λ_ _ q=>AE _ q) (AM _) (Q7 s.heap I.big)
 refine wpAny_Dict_walk (knd:=bf X.prog X.w) hall hl h0 h15 (aQ (h pins _ σ _ _ I1 (q _ hn)) ?_)
 rintro ws s2 ⟨ps,H2,I2,rel,e,kvs,ep,lk,q2⟩
 subst ep
 obtain⟨rs,c,rk⟩:=vG (P:=X.prog) (w:=X.w) rel
 obtain⟨z,hd,vs0,r0,dd⟩:=zA I2.hok e
 cases r0
 refine⟨rs,c,dd,λh' nh hs=>⟨.ref s.heap.objs.size,_,?_,rfl,q2⟩⟩
 have hz:(bL [] kvs).length<=sizeLine:=by
  have h1:=gY kvs []
  rw[DD] at h1
  rw[FV];omega
 have he:∃q,h'.get? s.heap.objs.size=some q:=let ⟨q,_,_,hq,_⟩:=nh;⟨q,hq⟩
 exact mW I2 (by rw[e];exact BU) hs he (N4 hz hd (rk.merge .nil) nh)
structure M2 (X:Cx)(o:Expr)(m:Str)(apos:Pos)(e f:Expr)(cpos:Pos):Prop where
 base:Fd o m X.env (eval o X.env)=eval o X.env
 few:((D8 cpos (BE [e,f] X.env)).all (λx=> !x.1)&&(backToKw cpos (keywordEach [] X.env)).all (λx=>x.1.isSome)
  &&decide (([e,f]:List Expr).length+([]:List Keyword).length+(if([]:List Keyword).isEmpty then 0 else 1)<30))=true
 line:(apos.endLine == cpos.line)=true
 trees:D8 cpos (BE [e,f] X.env)=[(false,eval e X.env),(false,eval f X.env)]
def IsD(H:Hp)(a:Addr):Prop:=(∃kvs,Rd H a (.dK kvs))∨∃kvs,Rd H a (.dT kvs)
theorem Xa{X:Cx}{pins:List (Addr×Obj)}{σ:St}{H:Hp}{s:AN}{a:Addr}(I:Inv X pins σ H s)(d:IsD H a):
  s.TypeIs (.ref a) "dict"/\(∀b,BF a=.ref b->∃ob,s.heap.get? b=some ob/\ob.dict=none)/\(a == Ba)=false:=by
 rcases d with⟨kvs,e⟩ | ⟨kvs,e⟩
 ·obtain⟨_,hd,vs,_,dd⟩:=oE I.hok e
  refine⟨dd.typeIs,λb q=>?_,hd⟩
  cases q
  obtain⟨ob,_,_,h1,h2,_⟩:=dd
  exact⟨ob,h1,h2.2.1⟩
 ·obtain⟨_,hd,xs,_,dd⟩:=qk I.hok e
  refine⟨dd.typeIs,λb q=>?_,hd⟩
  cases q
  obtain⟨ob,_,_,h1,h2,_⟩:=dd
  exact⟨ob,h1,h2.2.1⟩
section
variable{X:Cx}{pins:List (Addr×Obj)}{σ:St}{H:Hp}{s:AN}{a:Addr}{y d:V}{u r:Value}{o:Option V}{A:BB}{E:Value->AN->Prop}
theorem Xb{Q:Value->AN->Prop}(hu:A.units+1<cLine)(I:Inv X pins σ H s)(g:km H a y o)(ry:RelV y u)(rd:RelV d r)(h:∀w' s',Inv X pins σ H s'->RelV (o.getD d) w'->Q w' s'):
  wpAny (model X.prog X.w) A (call (.builtin "dict.get") [.ref a,u,r]) Q E s:=by
 rcases g with⟨kvs,k,e,ey,l⟩ | ⟨kvs,k,b,e,ey,eb,l⟩
 ·subst ey
  obtain⟨z,hd,vs,rel,dd⟩:=oE I.hok e
  refine call_meetsIn Ci dd.typeIs EE (D7 _ _ _) (meets_dict_get_default (bf X.prog X.w) a (mQ ry) hd r) ⟨_,dd.mapOf,h _ _ (I.tok _) ?_⟩
  rw[l]
  exact(rel.val k).getD rd
 ·subst ey
  cases(show u=BF b from ry)
  obtain⟨z,hd,xs,rel,dd⟩:=qk I.hok e
  refine call_meetsIn Ci dd.typeIs EE (D7 _ _ _) (meetsH_dict_get_default (ET (bf X.prog X.w)) a b hd r) ⟨DA hu,k,xs,ng I.hok eb,dd,h _ _ (I.tok _) ?_⟩
  rw[l]
  exact(rel.val k).getD rd
end
def Xc(td ty tx:TE):TE:=λσ H Q=>td σ H λx H1=>∃a,x=.ref a/\IsD H1 a/\ty σ H1 λy H2=>tx σ H2 λz H3=>∃o,km H3 a y o/\Q (o.getD z) H3
section
variable{X:Cx}{o e f:Expr}{apos cpos:Pos}{td ty tx:TE}
theorem uD(hu:X.A.units+1<cLine)(ho:PE X o td)(he:PE X e ty)(hf:PE X f tx)(m:M2 X o "get" apos e f cpos):PE X (.Call (.Attribute o "get" apos) [e,f] [] cpos) (Xc td ty tx):=by
 intro pins s σ H Q I h
 refine wpAny_Call_method m.base m.few m.line Fq Ci GY (aQ (ho pins s σ H _ I h) ?_)
 rintro u s1 ⟨x,H1,I1,rx,a,ex,d,q1⟩
 subst ex
 obtain rfl:u=BF a:=rx
 obtain⟨t1,t2,_⟩:=Xa I1 d
 refine⟨t1,t2,?_⟩
 rw[m.trees]
 refine C_ rfl (DS (Cb (aQ (he pins s1 σ H1 _ I1 q1) λiv s2 ⟨y,H2,I2,ry,q2⟩=>
  Cb (aQ (hf pins s2 σ H2 _ I2 q2) λfv s3 ⟨z,H3,I3,rz,ov,g,q3⟩=>D_ ?_))))
 exact Xb hu I3 g ry rz λw' s4 I4 jS=>⟨_,H3,I4,jS,q3⟩
end
section
variable{X:Cx}{pins:List (Addr×Obj)}{σ:List (Option V)}{H H':Hp}{s:AN}{h':Heap}
theorem Inv.uE{t':Nat}{ch:List Addr}{p:Addr}{o:HO}(I:Inv X pins σ H s)(hf:∀b∈ch,i6 X pins H b)
  (k:∀b u,b ∉ ch->s.heap.get? b=some u->h'.get? b=some u) (hp:s.heap.objs.size<=p) (new:bN X.prog X.w (upd H p o) h' p o):
  Inv X pins σ (upd H p o) {s with heap:=h',toks:=t'}:=by
 have hn:H p=none:=I.hok.fresh hp
 have rO:∀b u,H b=some u->b ∉ ch:=λb u e z=>by have q:=(hf b z).1;rw[e] at q;cases q
 have old:∀b u,s.heap.get? b=some u->b≠p:=λb u e=>Al (AX (AR e) hp)
 have vH:∀b u,H b=some u->upd H p o b=some u:=λb u e=>by rw[aB (aA e hn)];exact e
 refine I.step (g':=s.gens) (d':=s.drawn) (ch:=ch) (λb hb=>?_) (λb o _ _ hc e _=>k b o hc e) (λb o _ _ hc e _=>⟨o.slots,k b o hc e⟩) (λb o _ e n=>by rw[aB (old b o e)];exact n)
  (λb o hc e=>⟨o,k b o hc e⟩) (λb xs e=>vH b _ e) (λb _ _ e=>vH b _ e) (λb ps e=>⟨#[],by rw[vH b _ e];simp⟩) (λm hm=>?_) (λb u e=>?_) I.bare
 ·obtain⟨f0,f1,f2,f3,f4,f5⟩:=hf b hb
  exact⟨f3,f1,f4,f5⟩
 ·obtain⟨ob,es,ep,ho,r⟩:=hm
  exact⟨ob,es,ep,k _ ob (λz=>(hf _ z).2.1 rfl) ho,r⟩
 ·by_cases hb:b=p
  ·subst hb;rw[af] at e;cases e;exact new
  ·rw[aB hb] at e
   refine(I.hok b u e).stay (λc v hc q=>k c v ?_ q) (λc q=>vH c _ q) λc xs q=>vH c _ q
   rcases hc with z | z
   ·rw[z];exact rO b u e
   ·exact rO c _ z
end
def N5(K:AB)(a:Addr):It:=
 ⟨λi H=>∃xs x,bM K H a xs/\xs[i]? =some x,
  λi H x H'=>∃y p,(∀xs,bM K H a xs->xs[i]? =some y)/\H p=none/\x=.ref p/\H'=upd H p (.tup [.int i,y]),
  λi H=>∃xs,bM K H a xs/\xs.length<=i⟩
theorem N6{P:Ah}{w:World}{K:AB}{elts:List Expr}{x1}{tpos:Pos}(a e it:Addr)(hne:e≠it):
  Turn P w K (.Tuple elts x1 tpos) (N5 K a) [e,it] e (λi h=>(∃old,IsEnum h e it i old)/\h.IsListIter it a i) where
 mem:=by simp
 obj:=λi h st b hb=>by
  obtain⟨⟨old,st1⟩,st2⟩:=st
  rcases Ae.mp hb with z | z
  ·subst z;exact⟨_,st1,λv z=>by cases z⟩
  ·have z':b=it:=by simpa using z
   subst z'
   obtain⟨o,e,c,d⟩:=st2
   exact⟨o,e,λv z=>by rw[d] at z;cases z⟩
 keep:=λi h h' st k=>by
  obtain⟨⟨old,st1⟩,st2⟩:=st
  exact⟨⟨old,k e (by simp) _ st1⟩,st2.at λo q=>k it (by simp) o q⟩
 item:=by
  intro X hP hw hK hc i pins s σ H E I hf st hg
  subst hP hw hK
  obtain⟨⟨old,st1⟩,st2⟩:=st
  obtain⟨xs,x,hq,hx⟩:=hg
  obtain⟨its,rv,p,hz⟩:=I.list hq
  obtain⟨u,hu,ru⟩:=rv.get hx
  refine wpAny_pyNext_enum_item st1 st2 p.isList (x:=u) (by simpa using hu) hne λh1 eo it1 ht hsz kk=>?_
  have nn:H s.heap.objs.size=none:=I.hok.fresh (AM _)
  have I1:Inv X pins σ (upd H s.heap.objs.size (.tup [.int i,x])) {s with heap:=h1,toks:=s.toks+1}:=
   I.uE (ch:=[e,it]) hf (λb o hb q=>kk b o (λz=>hb (by simp[z])) (λz=>hb (by simp[z])) q) (AM _)
    ⟨⟨by show 2<=sizeLine;decide,_,ht,rfl⟩,[.int i s.toks,u],.cons ⟨_,rfl⟩ (.cons ru .nil),⟨_,ht,rfl,_,rfl⟩⟩
  have le:e<s.heap.objs.size:=AR st1
  have li:it<s.heap.objs.size:=by obtain⟨o,q,_⟩:=id st2;exact AR q
  refine⟨_,rfl,wpAny_letOwnedTupleGo_enum eo λh2 e2 sb=>?_⟩
  obtain⟨f0,f1,f2,f3,f4,f5⟩:=hf e (by simp)
  have I2:=I1.turned (h':=h2) (t':=s.toks+1) (it:=e) (λb o hb q=>(sb.2 b hb).trans q) (by rw[aB (Al le)];exact f0) f1 f3 f4 f5
  refine⟨.ref s.heap.objs.size,_,I2,rfl,⟨x,s.heap.objs.size,λys hy=>by rw[I.ki hy hq];exact hx,nn,rfl,rfl⟩,⟨⟨u,by simpa using e2⟩,it1.at λo q=>(sb.2 it (C1 hne)).trans q⟩,λb hb=>?_⟩
  rcases Ae.mp hb with z | z
  ·subst z;rw[aB (Al le)];exact f0
  ·have z':b=it:=by simpa using z
   subst z';rw[aB (Al li)];exact(hf b (by simp)).1
 done:=by
  intro X hP hw hK hc i pins s σ H E I hf st hg
  subst hP hw hK
  obtain⟨⟨old,st1⟩,st2⟩:=st
  obtain⟨xs,hq,hx⟩:=hg
  obtain⟨its,rv,p,hz⟩:=I.list hq
  obtain⟨f0,f1,f2,f3,f4,f5⟩:=hf it (by simp)
  have hl:=rv.length
  exact wpAny_pyNext_enum_end (I.ok.hd hc) st1 st2 p.isList (by simp;omega) λh' eb=>⟨rfl,I.turned (t':=s.toks) (λb o hb e=>eb b o hb e) f0 f1 f3 f4 f5⟩
 self:=λ_ _ _ _ _ st h=>by
  obtain⟨⟨old,st1⟩,st2⟩:=st
  exact wpAny_pyIter_enum st1 h
def aa8(K:AB)(ta:TA):TI:=λσ H R=>ta σ H λvs H1=>∃a,vs=[.ref a]/\(∃xs,bM K H1 a xs)/\R (N5 K a) H1
theorem VA{X:Cx}{elts:List Expr}{x1}{tpos:Pos}{a:Expr}{ta:TA}{p pos:Pos}(hg:Gl X "enumerate")(hm:X.mg "enumerate"=none)(ha:PA X [a] ta)(hs:BE [a] X.env=[(false,eval a X.env)]:=by rfl):
  PI X (.Tuple elts x1 tpos) (.Call (.Name "enumerate" p) [a] [] pos) (aa8 X.K ta):=by
 intro pins s σ H R I h
 refine Call_ (i9 I hg hm boot_enumerate (BP (aQ (ha pos pins s σ H _ I h) ?_) hs rfl))
 rintro us s1 ⟨vs,H1,I1,r1,q1⟩
 obtain⟨l,e,⟨xs,hq⟩,q⟩:=q1
 subst e
 cases r1 with
 | cons r rr=>
  cases rr
  cases r
  obtain⟨its,rv,pl,hz⟩:=I1.list hq
  refine call_enumerate_list pl.isList λh' he hit hsz kk=>?_
  have I2:Inv X pins σ H1 {s1 with heap:=h'}:=I1.kept (t':=s1.toks) kk
  refine wpAny_pyIter_enum he ?_
  refine⟨s1.heap.objs.size+1,[s1.heap.objs.size+1,s1.heap.objs.size],_,_,H1,rfl,I2,N6 l _ _ (Nat.succ_ne_self _),⟨⟨_,by simpa using he⟩,hit⟩,λb hb=>?_,q⟩
  rcases Ae.mp hb with z | z
  ·subst z;exact I1.m7 (B' _) (I1.hok.fresh (B' _))
  ·have z':b=s1.heap.objs.size:=by simpa using z
   subst z';exact I1.m7 (AM _) (I1.hok.fresh (AM _))
theorem Q9{K:AB}{a:Addr}{xs:List V}{g:TG}{tb:TS}{D:Ends}{σ:St}{H:Hp}(Pv:Nat->St->Hp->Prop)(h0:Pv 0 σ H)(hl:∀i σ H,i<=xs.length->Pv i σ H->bM K H a xs)
  (hs:∀i x p σ H,xs[i]? =some x->Pv i σ H->H p=none->g (.ref p) σ (upd H p (.tup [.int i,x])) λσ2 H2=>tb {D with nx:=Pv (i+1),ct:=Pv (i+1),bk:=D.nx} σ2 H2) (hd:∀σ H,Pv xs.length σ H->D.nx σ H):
  ∃W:Nat->Nat->St->Hp->Prop,(∃m,W 0 m σ H)/\∀i m σ H,W i m σ H->
   ((N5 K a).stop i H/\D.nx σ H)∨((N5 K a).go i H/\∃N:St->Hp->Prop,(∀σ' H',N σ' H'->∃m',m'<m/\W (i+1) m' σ' H')/\∀x H',(N5 K a).uc i H x H'->g x σ H' λσ2 H2=>tb {D with nx:=N,ct:=N,bk:=D.nx} σ2 H2):=by
 refine⟨λi m σ H=>m=xs.length-i/\i<=xs.length/\Pv i σ H,⟨xs.length,by simp,A6 _,h0⟩,?_⟩
 rintro i m σ H ⟨rfl,hi,p⟩
 have q:=hl i σ H hi p
 by_cases hlt:i<xs.length
 ·refine .inr ⟨⟨xs,xs[i],q,by simp[hlt]⟩,Pv (i+1),λσ' H' p'=>⟨xs.length-(i+1),by omega,rfl,hlt,p'⟩,λx H' y=>?_⟩
  obtain⟨z,pa,hz,hn,e1,e2⟩:=y
  subst e1 e2
  exact hs i z pa σ H (hz xs q) p hn
 ·have e:i=xs.length:=by omega
  subst e
  exact .inl ⟨⟨xs,q,AM _⟩,hd σ H p⟩
def i7(env:Env):List (Str×DQ)->List (Str×Addr)->List (Str×Addr)
 | [],cs=>cs
 | (n,k)::r,cs=>i7 env r (if k == .free then(n,(env.cells.lookup n).getD 0)::cs else cs)
theorem vI{env:Env}:∀(names:List (Str×DQ)) (cs:List (Str×Addr)),(∀y∈names,y.2=.free->∃c,env.cells.lookup y.1=some c)->
  (forIn names cs λ(x:Str×DQ) (r:List (Str×Addr))=>(match x with
   | (name,kind)=>if(kind == BK)=true then(cellOf env name >>= λa=>pure (DE ((name,a)::r)):Sem (ForInStep (List (Str×Addr)))) else pure (DE r)))=pure (i7 env names cs)
 | [],cs,_=>rfl
 | (n,k)::r,cs,h=>by
  have ih:=λcs'=>vI r cs' λy hy=>h y (AJ _ hy)
  rw[Er]
  by_cases hk:k=.free
  ·subst hk
   obtain⟨c,hc⟩:=h (n,.free) AL rfl
   have e:cellOf env n=pure c:=by unfold cellOf;rw[hc]
   simp only[beq_self_eq_true,if_true,e,pure_bind]
   rw[ih]
   show _=pure (i7 env r (if(BK == BK)=true then _ else _))
   rw[hc];rfl
  ·have hb:(k == BK)=false:=by simpa using hk
   simp only[hb,Bool.false_eq_true,if_false,pure_bind]
   rw[ih]
   show _=pure (i7 env r (if(k == BK)=true then _ else _))
   rw[hb];rfl
theorem oF{env:Env}{scope:Scope}(h:∀y∈scope.names,y.2=.free->∃c,env.cells.lookup y.1=some c):HU scope env=pure (i7 env scope.names []):=by
 unfold HU
 have e:=vI (env:=env) scope.names [] h
 show((forIn scope.names [] _:Sem (List (Str×Addr))) >>= λcs=>pure cs)=_
 rw[bind_pure]
 refine Eq.trans ?_ e
 first
  | rfl
  | (congr 1;funext x r;obtain⟨n,k⟩:=x;dsimp only;split<;>simp)
theorem Ia{env:Env}{x:Str}{c:Addr}:∀(names:List (Str×DQ)) (cs:List (Str×Addr)),(x,c)∈i7 env names cs->(x,c)∈cs∨((x,BK)∈names/\c=(env.cells.lookup x).getD 0)
 | [],cs,h=>.inl h
 | (n,k)::r,cs,h=>by
  have h':(x,c)∈i7 env r (if(k == BK)=true then(n,(env.cells.lookup n).getD 0)::cs else cs):=h
  rcases Ia r _ h' with z | ⟨z1,z2⟩
  ·by_cases hk:k=.free
   ·subst hk
    simp only[beq_self_eq_true,if_true,Ae] at z
    rcases z with z | z
    ·cases z;exact .inr ⟨AL,rfl⟩
    ·exact .inl z
   ·have hb:(k == BK)=false:=by simpa using hk
    rw[hb] at z
    exact .inl z
  ·exact .inr ⟨AJ _ z1,z2⟩
theorem yd{env:Env}{p:Str×Addr}:∀(names:List (Str×DQ)) (cs:List (Str×Addr)),p∈cs->p∈i7 env names cs
 | [],cs,h=>h
 | (n,k)::r,cs,h=>by
  show p∈i7 env r (if(k == BK)=true then(n,(env.cells.lookup n).getD 0)::cs else cs)
  refine yd r _ ?_
  split
  ·exact AJ _ h
  ·exact h
theorem Ib{env:Env}{x:Str}:∀(names:List (Str×DQ)) (cs:List (Str×Addr)),(x,BK)∈names->(x,(env.cells.lookup x).getD 0)∈i7 env names cs
 | [],_,h=>by cases h
 | (n,k)::r,cs,h=>by
  show _∈i7 env r (if(k == BK)=true then(n,(env.cells.lookup n).getD 0)::cs else cs)
  rcases Ae.mp h with z | z
  ·cases z
   exact yd r _ (by simp)
  ·exact Ib r _ z
theorem pO{α β:Type}[BEq α][LawfulBEq α]{x:α}{c:β}:∀{l:List (α×β)},l.lookup x=some c->(x,c)∈l
 | [],h=>by simp at h
 | (n,k)::r,h=>by
  rw[C4] at h
  by_cases e:x=n
  ·subst e;simp at h;subst h;exact AL
  ·have:(x == n)=false:=by simpa using e
   rw[this] at h
   exact AJ _ (pO h)
theorem pP{α β:Type}[BEq α][LawfulBEq α]{x:α}{c:β}:∀{l:List (α×β)},(x,c)∈l->∃c',l.lookup x=some c'
 | [],h=>by cases h
 | (n,k)::r,h=>by
  rw[C4]
  by_cases e:x=n
  ·subst e;simp
  ·have q:(x == n)=false:=by simpa using e
   rw[q]
   rcases Ae.mp h with z | z
   ·cases z;exact absurd rfl e
   ·exact pP z
theorem fF{env:Env}{x:Str}{k':DQ}:∀{names:List (Str×DQ)},
  (names.map λ(n,k)=>if(k == BK&&env.scope.kind == .function&&env.kindOf n == some .cell) then(n,NameKind.cell) else(n,k)).lookup x=some k'->
  (x,k')∈names∨(k'=.cell/\(x,BK)∈names)
 | [],h=>by simp at h
 | (n,k)::r,h=>by
  rw[Aj,C4] at h
  dsimp only at h
  by_cases e:x=n
  ·subst e
   by_cases hc:(k == BK&&env.scope.kind == .function&&env.kindOf x == some .cell)=true
   ·rw[if_pos hc] at h
    simp at h
    have hk:k=.free:=by
     simp only[Bc,beq_iff_eq] at hc
     exact hc.1.1
    subst hk
    exact .inr ⟨h.symm,AL⟩
   ·rw[if_neg hc] at h
    simp at h
    subst h
    exact .inl AL
  ·have q:(x == (if(k == BK&&env.scope.kind == .function&&env.kindOf n == some .cell)=true then(n,NameKind.cell) else(n,k)).1)=false:=by
    split<;>simpa using e
   rw[q] at h
   rcases fF h with z | ⟨z1,z2⟩
   ·exact .inl (AJ _ z)
   ·exact .inr ⟨z1,AJ _ z2⟩
structure aN (X:Cx)(scope:Scope)(own aR:List Str)(bS:List Nat):Prop where
 cell:∀y∈scope.names,y.2≠.cell
 kind:scope.kind=.function
 names:∀y∈scope.names,y.2=.local->scope.names.lookup y.1=some .local
 free:∀y∈scope.names,y.2=.free->X.env.scope.names.lookup y.1=some .cell∨X.env.scope.names.lookup y.1=some .free
 frl:bS.length=aR.length
 frN:∀(i j:Nat),bS[i]? =some j->X.N[j]? =aR[i]?
 frF:∀x∈aR,(x,BK)∈scope.names/\scope.names.lookup x=some .free
def iA(X:Cx)(own aR:List Str)(scope:Scope)(C:Addr)(s₃:AN)(H₃:Hp)(fp:List Addr):Cx:=
 {X with N:=own++aR,s₀:=s₃,H₀:=H₃,env:=compEnvC scope (i7 X.env scope.names []) C X.env,outer:=X.stack,stack:=X.stack,ex:=fp,fn:=λ_=>false,pn:=[],xe:=λ_ _=>False}
def Ic(own:List Str)(bS:List Nat)(σ:St):St:=Bm own.length none++bS.map λj=>(σ[j]?).join
section
variable{X:Cx}{pins:List (Addr×Obj)}{σ:List (Option V)}{H:Hp}{s:AN}{scope:Scope}{own aR:List Str}{bS:List Nat}
theorem aN.cells(sc:aN X scope own aR bS)(ok:X.Ok):∀y∈scope.names,y.2=.free->∃c,X.env.cells.lookup y.1=some c:=λy hy hf=>by
 rcases sc.free y hy hf with z | z
 ·exact ok.has y.1 (.inl z)
 ·exact ok.has y.1 (.inr z)
theorem aN.look(sc:aN X scope own aR bS)(ok:X.Ok){x:Str}{c:Addr}(h:(i7 X.env scope.names []).lookup x=some c):X.env.cells.lookup x=some c/\(x,BK)∈scope.names:=by
 rcases Ia _ _ (pO h) with z | ⟨z1,z2⟩
 ·cases z
 ·obtain⟨c',hc⟩:=sc.cells ok (x,.free) z1 rfl
  have hc':X.env.cells.lookup x=some c':=hc
  rw[hc'] at z2
  have z3:c=c':=z2
  subst z3
  exact⟨hc',z1⟩
theorem aN.TJ(sc:aN X scope own aR bS)(ok:X.Ok){x:Str}(h:(x,BK)∈scope.names):∃c,(i7 X.env scope.names []).lookup x=some c/\X.env.cells.lookup x=some c:=by
 obtain⟨c,hc⟩:=pP (Ib (env:=X.env) scope.names [] h)
 exact⟨c,hc,(sc.look ok hc).1⟩
theorem Inv.block{fp:List Addr}{h₄:Heap}{tk:Nat}(I:Inv X pins σ H s)(sc:aN X scope own aR bS)(hfp:∀b∈fp,i6 X pins H b)(hfl:∀b∈fp,b<s.heap.objs.size)
  (k:∀b o,s.heap.get? b=some o->h₄.get? b=some o) (hn:h₄.Ns s.heap.objs.size λ_=>none):
  Inv (iA X own aR scope s.heap.objs.size s H fp) [] (Ic own bS σ) H {s with heap:=h₄,toks:=tk}:=by
 have ok:=I.ok
 refine⟨⟨ok.mod,by show(relabel scope X.env).kind=_;exact sc.kind,ok.glob,ok.blt,AM _,?_,?_,λx c h=>(nomatch h),ok.hd,ok.frames,.inl rfl,?_,λb o e=>I.bs b o e,A5 ok.ua I.sz,?_,?_,I.stack,I.pJ⟩,rfl,I.bare,Un.kept k,?_,?_,I.fresh,?_,λp hp=>(nomatch hp),I.hok.kept k,?_⟩
 ·intro x y c e1 e2
  exact ok.inj x y c (sc.look ok e1).1 (sc.look ok e2).1
 ·intro x h
  have mem:(x,BK)∈scope.names:=by
   rcases h with h | h
   ·rcases fF h with z | ⟨_,z⟩
    ·exact absurd rfl (sc.cell _ z)
    ·exact z
   ·rcases fF h with z | ⟨z,_⟩
    ·exact z
    ·cases z
  obtain⟨c,hc,_⟩:=sc.TJ ok mem
  exact⟨c,hc⟩
 ·intro b hb
  obtain⟨f0,f1,f2,f3,f4,f5⟩:=hfp b hb
  exact⟨Al (hfl b hb),λx c e=>f4 x c (sc.look ok e).1⟩
 ·intro b o e hb
  rcases(hfp b hb).2.2.2.1 with z | z
  ·exact ok.zH b o e z
  ·exact absurd (AX (AR e) (A5 ok.ua z)) (BQ _)
 ·intro b hb hfs
  obtain⟨f0,f1,f2,_⟩:=hfp b hb
  rcases Ae.mp (I.rN b hfs) with z | z
  ·exact f1 z
  ·exact f2 z
 ·refine⟨_,hn,λi x v e1 e2 e3=>?_⟩
  have e1':(own++aR)[i]? =some x:=e1
  have e2':(Bm own.length none++bS.map λj=>(σ[j]?).join)[i]? =some (some v):=e2
  by_cases hi:i<own.length
  ·rw[Ax (by simpa using hi)] at e2'
   rw[Fn] at e2'
   split at e2'<;>cases e2'
  ·rw[Aq (by simp;omega),Cg] at e2'
   rw[Aq (by omega)] at e1'
   rw[AU] at e2'
   cases ej:bS[i-own.length]? with
   | none=>rw[ej] at e2';cases e2'
   | some j=>
    rw[ej] at e2'
    have Ms:(σ[j]?).join=some v:=by simpa using e2'
    have e4:σ[j]? =some (some v):=by
     cases q:σ[j]? with
     | none=>rw[q] at Ms;cases Ms
     | some o=>rw[q] at Ms;simpa using Ms
    have e5:=(sc.frN _ j ej).trans e1'
    obtain⟨hm,hlk⟩:=sc.frF x (AG e1')
    obtain⟨m,hnL,hl⟩:=I.loc
    have hv:K7 X.env.scope x:=by
     rcases sc.free (x,.free) hm rfl with z | z
     ·exact .inr (.inl z)
     ·exact .inr (.inr z)
    obtain⟨u,r,lk⟩:=hl j x v e5 e4 hv
    refine⟨u,r,.inr ?_⟩
    obtain⟨c,hc,hc'⟩:=sc.TJ ok hm
    have Xd:h₄.IsCell c (some u):=by
     rcases lk with⟨z,_⟩ | ⟨_,c',hx,⟨o,ho,hd⟩⟩
     ·exfalso
      have z':X.env.scope.names.lookup x=some .local:=z
      rcases sc.free (x,.free) hm rfl with q | q
      ·rw[show X.env.scope.names.lookup x=some .cell from q] at z';cases z'
      ·rw[show X.env.scope.names.lookup x=some .free from q] at z';cases z'
     ·rw[hc'] at hx;cases hx
      exact⟨o,k _ o ho,hd⟩
    refine⟨?_,c,hc,Xd⟩
    have e3':K7 (relabel scope X.env) x:=e3
    rcases e3' with z | z | z
    ·exfalso
     rcases fF z with q | ⟨q,_⟩
     ·have:=sc.names _ q rfl
      rw[show scope.names.lookup x=some .local from this] at hlk
      cases hlk
     ·cases q
    ·exact .inl z
    ·exact .inr z
 ·intro x c e
  obtain⟨v,o,ho,hd⟩:=I.cell x c (sc.look ok e).1
  exact⟨v,o,k _ o ho,hd⟩
 ·intro x c e
  exact I.iN x c (sc.look ok e).1
 ·show(Bm own.length none++bS.map λj=>(σ[j]?).join).length=(own++aR).length
  simp[sc.frl]
end
theorem ql{prog:Ah}{w:World}{A:BB}{R:Result->AN->Prop}{s:AN}{elt target iter:Expr}{ifs:List Expr}{scope:Scope}{pos:Pos}{it acc:Value}{env:Env}(I:Nat->AN->Prop)
  (turn:∀n s,I n s->wpAny (model prog w) A (DH it) (λr s₁=>match r with
   | none=>R (.ok .next) s₁
   | some v=>wpAny (model prog w) A (Ek target it v) (λ_ s₁'=>wpAny (model prog w) A (assign target env v) (λ_ s₂=>
     wpAny (model prog w) A (forIn ifs true λc r=>if r=true then do let ok <-isTrue c env (eval c env);pure (DE ok) else pure (DE r)) (λok s₃=>
      if ok=true then wpAny (model prog w) A (eval elt env) (λx s₄=>
       wpAny (model prog w) A (call (.builtin "list.append") [acc,x]) (λ_ s₅=>∃m,m<n/\I m s₅) (λ_ _=>False) s₄) (λ_ _=>False) s₃
      else ∃m,m<n/\I m s₃) (λ_ _=>False) s₂) (λ_ _=>False) s₁') (λ_ _=>False) s₁) (λ_ _=>False) s)
  (n:Nat) (h:I n s):
  Ea (model prog w) A (.compLoop (.ListComp elt [⟨target,iter,ifs,0⟩] scope pos) 0 it acc env) R s:=by
 refine codeAny_loop rfl I (λn s hI=>?_) n h
 show wpAny _ A ((compTurn (.ListComp elt [⟨target,iter,ifs,0⟩] scope pos) 0 it acc env).onRaise (λx=>do noteFrame x env;theTreesLotGoes x)) _ _ s
 refine wpAny_noted ?_
 rw[compTurn_list]
 refine AD (HJ (AD (B0 (turn n s hI) (λr s₁ h₁=>?_) λ_ _ h'=>h'.elim)))
 cases r with
 | none=>exact AO h₁
 | some v=>
  refine AD (B0 h₁ (λ_ s₁' h₁'=>?_) λ_ _ h'=>h'.elim)
  refine AD (B0 h₁' (λ_ s₂ h₂=>AD (B0 h₂ (λok s₃ h₃=>?_) λ_ _ h'=>h'.elim)) λ_ _ h'=>h'.elim)
  cases ok with
  | false=>exact AO ⟨rfl,h₃⟩
  | true=>
   exact AD (AD (B0 h₃ (λx s₄ h₄=>AD (B0 h₄ (λ_ s₅ h₅=>AO (AO ⟨rfl,h₅⟩)) λ_ _ h'=>h'.elim)) λ_ _ h'=>h'.elim))
def wV(X:Cx)(ifs:List Expr)(t:TT):Prop:=
 ∀(pins:List (Addr×Obj)) (s:AN) (σ:St) (H:Hp) (Q:Bool->Hp->Prop),Inv X pins σ H s->t σ H Q->
  wpAny (model X.prog X.w) X.A (forIn ifs true λc r=>if r=true then do let ok <-isTrue c X.env (eval c X.env);pure (DE ok) else pure (DE r)) (TP X pins σ Q) X.xe s
def aa9:TT:=λ_ H Q=>Q true H
theorem bz{X:Cx}:wV X [] aa9:=λ_ _ _ H _ I h=>wpAny_tests_nil ⟨H,I,h⟩
theorem qm{X:Cx}{c:Expr}{t:TT}(h:PT X c t):wV X [c] t:=λpins s σ H Q I hq=>wpAny_tests_one (h pins s σ H Q I hq)
def qo(J:It)(g:TG)(tt:TT)(te:TE)(D:Addr)(σ:St)(H:Hp)(R:Hp->Prop):Prop:=
 ∃W:Nat->Nat->St->Hp->Prop,(∃m,W 0 m σ H)/\∀i m σ H,W i m σ H->(J.stop i H/\R H)∨(J.go i H/\∃N:St->Hp->Prop,(∀σ' H',N σ' H'->∃m',m'<m/\W (i+1) m' σ' H')/\
  ∀x H',J.uc i H x H'->g x σ H' λσ2 H2=>tt σ2 H2 λb H3=>if b=true then te σ2 H3 λy H4=>∃ys,H4 D=some (.lst ys)/\ys.length<sizeLine/\N σ2 (upd H4 D (.lst (ys++[y]))) else N σ2 H3)
section
variable{X:Cx}{scope:Scope}{own aR:List Str}{bS:List Nat}{elt tg iter:Expr}{ifs:List Expr}{pos:Pos}{g:TG}{tt:TT}{te:TE}
theorem vJ{pins:List (Addr×Obj)}{σ:St}{H:Hp}{s:AN}{J:It}{fp:List Addr}{it:Addr}{tn:Nat->Heap->Prop}{R:Addr->Hp->Prop}{RR:Value->Addr->Result->AN->Prop}{E:Value->AN->Prop}
  (sc:aN X scope own aR bS) (hc:X.calm=true)
  (hg:∀C s₃ H₃ fp,PG (iA X own aR scope C s₃ H₃ fp) tg g) (ht:∀C s₃ H₃ fp,wV (iA X own aR scope C s₃ H₃ fp) ifs tt) (he:∀C s₃ H₃ fp,PE (iA X own aR scope C s₃ H₃ fp) elt te)
  (I:Inv X pins σ H s) (T:Turn X.prog X.w X.K tg J fp it tn) (st:tn 0 s.heap) (hfp:∀b∈fp,i6 X pins H b)
  (h:∀D,H D=none->qo J g tt te D (Ic own bS σ) (upd H D (.lst [])) (R D))
  (hRR:∀D C H' s' m,Inv X pins σ H' s'->s.heap.objs.size<=C->s'.heap.Ns C m->H' C=none->R D H'->RR (.ref D) C (.ok .next) s'):
  wpAny (model X.prog X.w) X.A (newList []) (λacc s₃=>wpAny (model X.prog X.w) X.A (newFunctionEnv scope X.env.globals (i7 X.env scope.names []) [] X.env.qual none .none (some X.env)) (λcenv s₄=>
   Ea (model X.prog X.w) X.A (.compStart (.ListComp elt [⟨tg,iter,ifs,0⟩] scope pos) 0 (.ref it) acc {cenv with scope:=relabel scope X.env}) (RR acc cenv.locals) s₄) E s₃) E s:=by
 refine BX (wpAny_newFunctionEnv sc.cell (by intro y hy;simp at hy) (λh₁ hns₁ hsb₁=>?_) sc.kind)
 dsimp only at hns₁ hsb₁ ⊢
 have hD:=I.fresh
 have I3:Inv X pins σ (upd H s.heap.objs.size (.lst [])) {s with heap:=s.heap.push {cls:=.type "list",dict:=none,data:=.seq ([]:List Value).toArray}}:=I.W8 (its:=[]) (t':=s.toks) .nil (A6 _)
 have hsz:(s.heap.push {cls:=.type "list",dict:=none,data:=.seq ([]:List Value).toArray}).objs.size=s.heap.objs.size+1:=BG ..
 generalize hs3:({s with heap:=s.heap.push {cls:=.type "list",dict:=none,data:=.seq ([]:List Value).toArray}}:AN)=s₃ at I3
 have hh3:s.heap.push {cls:=.type "list",dict:=none,data:=.seq ([]:List Value).toArray}=s₃.heap:=by rw[<-hs3]
 rw[hh3] at hns₁ hsb₁ hsz ⊢
 have hfl:∀b∈fp,b<s.heap.objs.size:=λb hb=>by
  obtain⟨o,e,_⟩:=T.obj 0 _ st b hb
  exact AR e
 have Ra:∀b∈fp,i6 X pins (upd H s.heap.objs.size (.lst [])) b:=λb hb=>by
  obtain⟨f0,f⟩:=hfp b hb
  exact⟨by rw[aB (Al (hfl b hb))];exact f0,f⟩
 have aek:∀b∈fp,b<s₃.heap.objs.size:=λb hb=>by rw[hsz];exact CP (hfl b hb)
 have k4:∀b o,s₃.heap.get? b=some o->h₁.get? b=some o:=λb o e=>(hsb₁.2 b (Al (AR e))).trans (AE _ e)
 have k3:∀b o,s.heap.get? b=some o->s₃.heap.get? b=some o:=λb o e=>by rw[<-hh3];exact AE _ e
 have hnone:(λx:Str=>List.lookup x ([]:List (Str×Value)).reverse)=λ_=>none:=by funext x;rfl
 have aa':h₁.Ns s₃.heap.objs.size λ_=>none:=by
  have q:=hns₁
  first
   | exact q
   | (rw[hnone] at q;exact q)
 have I4:=I3.block (own:=own) (tk:=s.toks+([]:List (Str×Value)).length) sc Ra aek k4 aa'
 have TK:tn 0 h₁:=T.keep _ _ _ st λb hb o e=>k4 b o (k3 b o e)
 generalize hX:iA X own aR scope s₃.heap.objs.size s₃ (upd H s.heap.objs.size (.lst [])) fp=X' at I4
 have hXp:X'.prog=X.prog:=by rw[<-hX];rfl
 have hXw:X'.w=X.w:=by rw[<-hX];rfl
 have hXK:X'.K=X.K:=by rw[<-hX];rfl
 have hXA:X'.A=X.A:=by rw[<-hX];rfl
 have hXc:X'.calm=true:=by rw[<-hX];exact hc
 have hXx:X'.xe=λ_ _=>False:=by rw[<-hX];rfl
 have hXe:X'.env=compEnvC scope (i7 X.env scope.names []) s₃.heap.objs.size X.env:=by rw[<-hX];rfl
 have hg':PG X' tg g:=by rw[<-hX];exact hg _ _ _ _
 have ht':wV X' ifs tt:=by rw[<-hX];exact ht _ _ _ _
 have he':PE X' elt te:=by rw[<-hX];exact he _ _ _ _
 have ofX:∀{H':Hp} {s':AN} {σ':St},Inv X' [] σ' H' s'->Inv X pins σ H' s'/\(∃m,s'.heap.Ns s₃.heap.objs.size m)/\H' s₃.heap.objs.size=none:=by
  intro H' s' σ' I'
  subst hX
  refine⟨I3.call' (ch:=fp) I'.os I'.base I'.hok I'.bare λb hb=>?_,let ⟨m,hn,_⟩:=I'.loc;⟨m,hn⟩,I'.free⟩
  obtain⟨f0,f1,f2,f3,f4,f5⟩:=Ra b hb
  exact⟨f3,f1,f4,f5⟩
 have stat:∀{H':Hp},(∀b∈fp,H' b=none)->∀b∈fp,i6 X' [] H' b:=by
  intro H' hn b hb
  subst hX
  obtain⟨a1,a2⟩:=I4.ok.WE b hb
  exact⟨hn b hb,a1,I4.ok.zI b hb,.inl hb,a2,λp hp=>by cases hp⟩
 obtain⟨W,⟨m0,w0⟩,turn⟩:=h s.heap.objs.size hD
 have loop:Ea (model X.prog X.w) X.A (.compLoop (.ListComp elt [⟨tg,iter,ifs,0⟩] scope pos) 0 (.ref it) (.ref s.heap.objs.size) X'.env) (RR (.ref s.heap.objs.size) s₃.heap.objs.size)
   {s₃ with heap:=h₁,toks:=s.toks+([]:List (Str×Value)).length}:=by
  refine ql (λn s'=>∃i σ' H',Inv X' [] σ' H' s'/\tn i s'.heap/\(∀b∈fp,H' b=none)/\W i n σ' H') ?_ m0 ⟨0,_,_,I4,TK,λb hb=>(Ra b hb).1,w0⟩
  rintro n s5 ⟨i,σ5,H5,I5,K9,Ts,w5⟩
  rw[<-hXp,<-hXw,<-hXA]
  have TL:∀{α:Type} {t:Sem α} {Q:α->AN->Prop} {s:AN},wpAny (model X'.prog X'.w) X'.A t Q X'.xe s->wpAny (model X'.prog X'.w) X'.A t Q (λ_ _=>False) s:=λh=>by rw[hXx] at h;exact h
  have T':Turn X'.prog X'.w X'.K tg J fp it tn:=by rw[hXp,hXw,hXK];exact T
  rcases turn i n σ5 H5 w5 with⟨stop,q⟩ | ⟨go,N,hN,step⟩
  ·refine aQ (T'.done X' rfl rfl rfl hXc i [] s5 σ5 H5 _ I5 (stat Ts) K9 stop) ?_
   rintro r s6 ⟨hr,I6⟩
   subst hr
   obtain⟨J1,⟨m,J2⟩,J3⟩:=ofX I6
   exact hRR _ _ H5 s6 m J1 (by rw[hsz];exact B' _) J2 J3 q
  ·refine aQ (T'.item X' rfl rfl rfl hXc i [] s5 σ5 H5 _ I5 (stat Ts) K9 go) ?_
   rintro r s6 ⟨u,hr,h6⟩
   subst hr
   refine aQ h6 ?_
   rintro _ s7 ⟨x,H7,I7,r7,y7,Xe,fr7⟩
   have I7':=I7.pinned (stat fr7) (T'.obj _ _ Xe)
   have again:∀{s9:AN} {σ9:St} {H9:Hp},Inv X' ([]++rR fp s7.heap) σ9 H9 s9->N σ9 H9->∃m,m<n/\∃i σ' H',Inv X' [] σ' H' s9/\tn i s9.heap/\(∀b∈fp,H' b=none)/\W i m σ' H':=λ{s9 σ9 H9} I9 n9=>by
    obtain⟨m',hm,w9⟩:=hN σ9 H9 n9
    refine⟨m',hm,i+1,σ9,H9,I9.qi,T'.keep _ _ _ Xe λb hb o e=>(I9.pin (b,o) (BV _ (BV _ (mP hb e)))).1,λb hb=>?_,w9⟩
    obtain⟨o,e,d⟩:=T'.obj _ _ Xe b hb
    exact(I9.pin (b,o) (BV _ (BV _ (mP hb e)))).2.1
   refine aQ (TL (hg' _ s7 σ5 H7 x u _ I7' r7 (step x H7 y7))) ?_
   rintro _ s8 ⟨σ8,H8,I8,q8⟩
   refine aQ (TL (ht' _ s8 σ8 H8 _ I8 q8)) ?_
   rintro b s9 ⟨H9,I9,q9⟩
   cases b with
   | false=>exact again I9 (by simpa using q9)
   | true=>
    rw[if_pos rfl] at q9
    refine aQ (TL (he' _ s9 σ8 H9 _ I9 q9)) ?_
    rintro y s10 ⟨v,H10,I10,r10,q10⟩
    obtain⟨ys,e10,z10,n10⟩:=q10
    refine aQ (TL (dq _ s10 σ8 H10 (.ref s.heap.objs.size) [v] (.ref s.heap.objs.size) [y] (λ_ H'=>H'=upd H10 s.heap.objs.size (.lst (ys++[v]))) I10 rfl (.cons r10 .nil) ⟨_,ys,v,rfl,rfl,e10,z10,rfl⟩)) λu s11 ⟨v',H11,I11,_,Xf⟩=>?_
    subst Xf
    exact again I11 n10
 rw[hXe] at loop
 have e4:({s with heap:=h₁,toks:=s.toks+([]:List (Str×Value)).length}:AN)={s₃ with heap:=h₁,toks:=s.toks+([]:List (Str×Value)).length}:=by rw[<-hs3]
 rw[e4]
 exact codeAny_compStart_list loop (T.self _ 0 _ _ _ TK loop)
end
def TN(own:List Str)(bS:List Nat)(wi:TI)(g:TG)(tt:TT)(te:TE):TE:=λσ H Q=>wi σ H λJ H1=>∀D,H1 D=none->qo J g tt te D (Ic own bS σ) (upd H1 D (.lst [])) λH'=>Q (.ref D) H'
section
variable{X:Cx}{scope:Scope}{own aR:List Str}{bS:List Nat}{elt tg iter:Expr}{ifs:List Expr}{pos:Pos}{wi:TI}{g:TG}{tt:TT}{te:TE}
theorem bU(sc:aN X scope own aR bS)(hc:X.calm=true)(hi:PI X tg iter wi)
  (hg:∀C s₃ H₃ fp,PG (iA X own aR scope C s₃ H₃ fp) tg g) (ht:∀C s₃ H₃ fp,wV (iA X own aR scope C s₃ H₃ fp) ifs tt) (he:∀C s₃ H₃ fp,PE (iA X own aR scope C s₃ H₃ fp) elt te)
  (hs:∀x,FU iter X.env x=pure x:=by intro _;rfl):PE X (.ListComp elt [⟨tg,iter,ifs,0⟩] scope pos) (TN own bS wi g tt te):=by
 intro pins s σ H Q I h
 rw[eval_ListComp]
 refine Fe (use:=none) rfl hs (oF (sc.cells I.ok)) sc.kind sc.names (aQ (hi pins s σ H _ I h) λv s1 h1=>aQ h1 λitv s2 h2=>?_)
 obtain⟨it,fp,tn,J,H2,e,I2,T,st2,f2,q⟩:=h2
 subst e
 refine vJ (RR:=λacc C=>compPost (model X.prog X.w) X.A X.xe none (EP X pins σ Q) acc C) (R:=λD H'=>Q (.ref D) H') sc hc hg ht he I2 T st2 f2 q ?_
 intro D C H' s' m I' hC hn hf hq
 refine⟨m,hn,λh' sb=>?_⟩
 obtain⟨f0,f1,f2,f3,f4,f5⟩:=I2.m7 (H':=H') hC hf
 exact⟨.ref D,H',I'.turned (t':=s'.toks) (it:=C) (λb o hb e=>(sb.2 b hb).trans e) f0 f1 f3 f4 f5,rfl,hq⟩
theorem iO{i:Nat}{y:Str}{py spos:Pos}(sc:aN X scope own aR bS)(hc:X.calm=true)(hi:PI X tg iter wi)
  (hg:∀C s₃ H₃ fp,PG (iA X own aR scope C s₃ H₃ fp) tg g) (ht:∀C s₃ H₃ fp,wV (iA X own aR scope C s₃ H₃ fp) ifs tt) (he:∀C s₃ H₃ fp,PE (iA X own aR scope C s₃ H₃ fp) elt te)
  (hN:X.N.Nodup) (hi':X.N[i]? =some y) (hx:X.env.scope.names.lookup y=some .local)
  (hsw:G5 (.ListComp elt [⟨tg,iter,ifs,0⟩] scope pos) (some (.Name y py)) spos.line X.env=pure true:=by rfl)
  (hs:∀x,FU iter X.env x=pure x:=by intro _;rfl):PS X (.Assign [.Name y py] (.ListComp elt [⟨tg,iter,ifs,0⟩] scope pos) spos) (rQ (TN own bS wi g tt te) (aD i)):=by
 intro pins s σ H D I h
 rw[exec_Assign_Name_used _ _ _ _ hsw]
 refine AD (HJ (AD ?_))
 show wpAny _ X.A (do let _ <-comprehension (.ListComp elt [⟨tg,iter,ifs,0⟩] scope pos) scope X.env _ (newList []) false (eval iter X.env) (some (assign (.Name y py) X.env))) _ _ s
 refine AD (B0 (Fe (use:=some (assign (.Name y py) X.env)) (Q:=λ_ s'=>SP X pins D .next s') rfl hs (oF (sc.cells I.ok)) sc.kind sc.names
  (aQ (hi pins s σ H _ I h) λv s1 h1=>aQ h1 λitv s2 h2=>?_)) (λ_ s' hq=>AO (AO hq)) λ_ _ e=>e)
 obtain⟨it,fp,tn,J,H2,e,I2,T,st2,f2,q⟩:=h2
 subst e
 refine vJ (RR:=λacc C=>compPost (model X.prog X.w) X.A X.xe (some (assign (.Name y py) X.env)) (λ_ s'=>SP X pins D .next s') acc C) (R:=λE H'=>D.nx (σ.set i (some (.ref E))) H') sc hc hg ht he I2 T st2 f2 q ?_
 intro E C H' s' m I' hC hn hf hq
 show wpAny _ X.A (assign (.Name y py) X.env (.ref E)) _ _ _
 obtain⟨f0,f1,f2,f3,f4,f5⟩:=I2.m7 (H':=H') hC hf
 refine wpAny_assign_Name (xN I' hN hi' (.inl hx) (v:=.ref E) (u:=.ref E) rfl (?_) (.inr hx))
 rintro s3 I3 ⟨a,sb,ha⟩
 have hCa:C≠a:=by
  rcases ha with z | z
  ·rw[z];exact f1
  ·exact(f4 y a z).symm
 refine⟨m,hn.sameBut sb hCa,λh' sb'=>?_⟩
 exact⟨_,H',I3.turned (t':=s3.toks) (it:=C) (λb o hb e=>(sb'.2 b hb).trans e) f0 f1 f3 f4 f5,hq⟩
end
theorem jV{lo:Int}{n:Nat}{g:TG}{tt:TT}{te:TE}{D:Addr}{σ:St}{H:Hp}{R:Hp->Prop}(Pv:Nat->St->Hp->Prop)(h0:Pv 0 σ H)
  (hs:∀i σ H,i<n->Pv i σ H->g (.int (lo+i)) σ H λσ2 H2=>tt σ2 H2 λb H3=>if b=true then te σ2 H3 λy H4=>∃ys,H4 D=some (.lst ys)/\ys.length<sizeLine/\Pv (i+1) σ2 (upd H4 D (.lst (ys++[y]))) else Pv (i+1) σ2 H3)
  (hd:∀σ H,Pv n σ H->R H):qo (vq lo n) g tt te D σ H R:=by
 refine⟨λi m σ H=>m=n-i/\i<=n/\Pv i σ H,⟨n,by simp,A6 _,h0⟩,?_⟩
 rintro i m σ H ⟨rfl,hi,p⟩
 by_cases hlt:i<n
 ·refine .inr ⟨hlt,Pv (i+1),λσ' H' p'=>⟨n-(i+1),by omega,rfl,hlt,p'⟩,λx H' y=>?_⟩
  obtain⟨e,y⟩:=y
  subst e y
  exact hs i σ _ hlt p
 ·have e:i=n:=by omega
  subst e
  exact .inl ⟨AM _,hd σ H p⟩
theorem gA{K:AB}{a:Addr}{xs:List V}{g:TG}{tt:TT}{te:TE}{D:Addr}{σ:St}{H:Hp}{R:Hp->Prop}(Pv:Nat->St->Hp->Prop)(h0:Pv 0 σ H)(hl:∀i σ H,i<=xs.length->Pv i σ H->bM K H a xs)
  (hs:∀i x σ H,xs[i]? =some x->Pv i σ H->g x σ H λσ2 H2=>tt σ2 H2 λb H3=>if b=true then te σ2 H3 λy H4=>∃ys,H4 D=some (.lst ys)/\ys.length<sizeLine/\Pv (i+1) σ2 (upd H4 D (.lst (ys++[y]))) else Pv (i+1) σ2 H3)
  (hd:∀σ H,Pv xs.length σ H->R H):qo (zO K a) g tt te D σ H R:=by
 refine⟨λi m σ H=>m=xs.length-i/\i<=xs.length/\Pv i σ H,⟨xs.length,by simp,A6 _,h0⟩,?_⟩
 rintro i m σ H ⟨rfl,hi,p⟩
 have q:=hl i σ H hi p
 by_cases hlt:i<xs.length
 ·refine .inr ⟨⟨xs,xs[i],q,by simp[hlt]⟩,Pv (i+1),λσ' H' p'=>⟨xs.length-(i+1),by omega,rfl,hlt,p'⟩,λx H' y=>?_⟩
  obtain⟨e,y⟩:=y
  subst e
  exact hs i x σ _ (y xs q) p
 ·have e:i=xs.length:=by omega
  subst e
  exact .inl ⟨⟨xs,q,AM _⟩,hd σ H p⟩
theorem cR{K:AB}{a:Addr}{xs:List V}{g:TG}{tt:TT}{te:TE}{D:Addr}{σ:St}{H:Hp}{R:Hp->Prop}(Pv:Nat->St->Hp->Prop)(h0:Pv 0 σ H)(hl:∀i σ H,i<=xs.length->Pv i σ H->bF K H a xs)
  (hs:∀i x σ H,xs[i]? =some x->Pv i σ H->g x σ H λσ2 H2=>tt σ2 H2 λb H3=>if b=true then te σ2 H3 λy H4=>∃ys,H4 D=some (.lst ys)/\ys.length<sizeLine/\Pv (i+1) σ2 (upd H4 D (.lst (ys++[y]))) else Pv (i+1) σ2 H3)
  (hd:∀σ H,Pv xs.length σ H->R H):qo (zP K a) g tt te D σ H R:=by
 refine⟨λi m σ H=>m=xs.length-i/\i<=xs.length/\Pv i σ H,⟨xs.length,by simp,A6 _,h0⟩,?_⟩
 rintro i m σ H ⟨rfl,hi,p⟩
 have q:=hl i σ H hi p
 by_cases hlt:i<xs.length
 ·refine .inr ⟨⟨xs,xs[i],q,by simp[hlt]⟩,Pv (i+1),λσ' H' p'=>⟨xs.length-(i+1),by omega,rfl,hlt,p'⟩,λx H' y=>?_⟩
  obtain⟨e,y⟩:=y
  subst e
  exact hs i x σ _ (y xs q) p
 ·have e:i=xs.length:=by omega
  subst e
  exact .inl ⟨⟨xs,q,AM _⟩,hd σ H p⟩
section
variable{X:Cx}
def abb(i j:Int):Prop:=0<j/\j.natAbs.log2<9000
theorem gK:dY X (CM .FloorDiv) (rI abb λi j=>.int (i / j)):=NP λi j _ _ _ _ _ hc q=>by
 obtain⟨h0,h1⟩:=hc
 refine floordiv_int (by omega) ?_ (.inl (Ff h1))
 rw[Int.fdiv_eq_ediv_of_nonneg _ (by omega)]
 exact q
theorem N7(hc:X.calm=true):cY X (.builtin "sum") (λxs H Q=>∃(a:Addr) (ns:List Int),xs=[.ref a]/\bM X.K H a (ns.map V.int)/\Q (.int ns.sum) H):=by
 intro pins s σ H xs us Q I r h
 obtain⟨a,ns,rfl,hq,q⟩:=h
 obtain⟨u,rfl,ru⟩:=vals1 r
 cases ru
 obtain⟨its,rv,p,_⟩:=I.list hq
 have hi:GC its ns:=intsAre_of rv
 have all:=hi.allInts
 obtain⟨ys,hy⟩:=all.items
 have e:(numsOf its.toArray.toList).sum=ns.sum:=by rw[show its.toArray.toList=its from rfl,hi.numsOf]
 have hl:=p.isList
 rw[hy] at hl e
 rw[nums_intItems] at e
 refine sum_intListG (I.ok.hd hc) hl λh' tk t' k=>⟨.int (preSum (numAt ys) ys.size),H,I.kept k,⟨t',rfl⟩,?_⟩
 rw[preSum_eq,Bg (by simp)]
 first
  | (rw[e];exact q)
  | (simp only[e];exact q)
theorem KG:cY X (.builtin "isinstance") (λxs H Q=>∃(x:V) (t:Value) (T:String) (b:Bool),xs=[x,.ty T]/\jQ X.K H x t/\CN X.K t (.type T)=some b/\Q (.bl b) H):=by
 intro pins s σ H xs us Q I r h
 obtain⟨x,t,T,b,rfl,ty,e,q⟩:=h
 obtain⟨u,w',rfl,rx,rT⟩:=vals2 r
 cases(show w'=HN T from rT)
 exact NT I rx ty e λtk=>⟨.bl b,H,I.tok tk,rfl,q⟩
theorem Xg{K:AB}:CN K (.type "tuple") (.type "tuple")=some true:=by rfl
theorem Lj:dY X (CM .Add) (λx y H Q=>∃(a b:Addr) (ys:List V),x=.ref a/\y=.ref b/\bF X.K H a []/\bF X.K H b ys/\Q (.ref b) H):=by
 intro pins s σ H x y v u Q I rx ry h
 obtain⟨a,b,ys,rfl,rfl,ha,hb,q⟩:=h
 cases rx
 cases ry
 obtain⟨its,r1,p1,_⟩:=I.tuple ha
 obtain⟨its2,r2,p2,_⟩:=I.tuple hb
 cases r1
 obtain⟨⟨cls,dd,data,sl⟩,ho,hc,n,hd⟩:=id p1
 obtain⟨⟨cls2,dd2,data2,sl2⟩,ho2,hc2,n2,hd2⟩:=id p2
 simp only at hc hd hc2 hd2
 subst hc hd hc2 hd2
 exact concat_meets ⟨_,ho,rfl⟩ ⟨_,ho2,rfl⟩ Fp HH EC D5 (Dk _ _)
  (tuple_addW0 a b #[] its2.toArray n n2 dd dd2 sl sl2 rfl) ⟨ho,ho2,⟨.ref b,H,I,rfl,q⟩⟩
def TQ(K:AB):R2:=λx y H Q=>∃(a b:Addr) (xs ys:List V),x=.ref a/\y=.ref b/\bF K H a xs/\bF K H b ys/\ys≠[]/\xs.length+ys.length<=sizeLine/\
 (xs=[]->Q (.ref b) H)/\(xs≠[]->∀p,H p=none->Q (.ref p) (upd H p (.tup (xs++ys))))
theorem VB:dY X (CM .Add) (TQ X.K):=by
 intro pins s σ H x y v u Q I rx ry h
 obtain⟨a,b,xs,ys,rfl,rfl,ha,hb,hy,hz,q1,q2⟩:=h
 by_cases hx:xs=[]
 ·subst hx
  exact Lj pins s σ H _ _ v u Q I rx ry ⟨a,b,ys,rfl,rfl,ha,hb,q1 rfl⟩
 ·exact Lf pins s σ H _ _ v u Q I rx ry ⟨a,b,xs,ys,rfl,rfl,ha,hb,hx,hz,λz=>absurd z hy,λ_=>q2 hx⟩
end
def ye(scope esc:Scope)(N own aR:List Str)(bS:List Nat):Bool:=
 scope.names.all (λy=>y.2 != .cell)&&scope.kind == .function&&scope.names.all (λy=>y.2 != .local||scope.names.lookup y.1 == some .local)
 &&scope.names.all (λy=>y.2 != .free||(esc.names.lookup y.1 == some .cell||esc.names.lookup y.1 == some .free))
 &&bS.length == aR.length&&(A9 bS.length).all (λi=>(bS[i]?).bind (λj=>N[j]?) == aR[i]?)
 &&aR.all (λx=>scope.names.contains (x,BK)&&scope.names.lookup x == some .free)
theorem aN.mk'{X:Cx}{scope esc:Scope}{N own aR:List Str}{bS:List Nat}(hs:X.env.scope=esc)(hN:X.N=N)(h:ye scope esc N own aR bS=true):aN X scope own aR bS:=by
 unfold ye at h
 simp only[Bc,Fs,bne_iff_ne,beq_iff_eq,Bool.or_eq_true,List.contains_iff_mem] at h
 obtain⟨⟨⟨⟨⟨⟨h1,h2⟩,h3⟩,h4⟩,h5⟩,h6⟩,h7⟩:=h
 refine⟨h1,h2,λy hy hl=>?_,λy hy hf=>?_,h5,λi j e=>?_,λx hx=>h7 x hx⟩
 ·rcases h3 y hy with z | z
  ·exact absurd hl z
  ·exact z
 ·rw[hs]
  rcases h4 y hy with z | z
  ·exact absurd hf z
  ·exact z
 ·have hi:i<bS.length:=(AF.mp e).1
  have q:=h6 i (Bv.mpr hi)
  rw[e] at q
  rw[hN]
  exact q
def KB(d:Addr)(H H':Hp):Prop:=∀b o,H b=some o->b≠d->H' b=some o
theorem KB.refl(d:Addr)(H:Hp):KB d H H:=λ_ _ h _=>h
theorem KB.trans{d:Addr}{H H1 H2:Hp}(a:KB d H H1)(b:KB d H1 H2):KB d H H2:=λc o h n=>b c o (a c o h n) n
theorem KB.write{d:Addr}{H:Hp}{o:HO}:KB d H (upd H d o):=λb o h n=>by rw[aB n];exact h
theorem Same.kb{d:Addr}{H H':Hp}(s:Same H H'):KB d H H':=λb o h _=>s b o h
theorem Same.new{H:Hp}{p:Addr}{o:HO}(h:H p=none):Same H (upd H p o):=λb u e=>by rw[aB (aA e h)];exact e
theorem Same.kbn{d:Addr}{H H1 H2:Hp}(s:Same H H1)(h:H d=none)(k:KB d H1 H2):Same H H2:=λb o e=>k b o (s b o e) (aA e h)
theorem Same.uF{K:AB}{H H':Hp}{a:Addr}{xs:List V}(e:Same H H')(h:bF K H a xs):bF K H' a xs:=by
 rcases h with(h | ⟨o,h⟩) | h
 ·exact .inl (.inl (e _ _ h))
 ·exact .inl (.inr ⟨o,e _ _ h⟩)
 ·exact .inr h
def bj(H H':Hp):Prop:=∀b xs,H b=some (.tup xs)->H' b=some (.tup xs)
theorem bj.trans{H H1 H2:Hp}(a:bj H H1)(b:bj H1 H2):bj H H2:=λc o h=>b c o (a c o h)
theorem Same.kt{H H':Hp}(s:Same H H'):bj H H':=λb xs h=>s b _ h
theorem bj.lst{H:Hp}{d:Addr}{xs:List V}{o:HO}(h:H d=some (.lst xs)):bj H (upd H d o):=λb ys e=>by
 rw[aB (fE e h (λz=>nomatch z))];exact e
theorem bj.kb{d:Addr}{xs:List V}{H H':Hp}(h:H d=some (.lst xs))(k:KB d H H'):bj H H':=λb ys e=>k b _ e (fE e h (λz=>nomatch z))
def fP(H:Hp)(ps:List Addr)(ls:List (List Int)):Prop:=Bl (λp (l:List Int)=>H p=some (.tup (l.map V.int))) ps ls
theorem fP.keep{H H':Hp}{ps:List Addr}{ls:List (List Int)}(t:fP H ps ls)(k:bj H H'):fP H' ps ls:=Paired.rM t λ_ _ h=>k _ _ h
theorem fP.get{H:Hp}:∀{ps:List Addr} {ls:List (List Int)} {i:Nat} {p:Addr},fP H ps ls->ps[i]? =some p->∃l,ls[i]? =some l/\H p=some (.tup (l.map V.int))
 | _,_,_,_,.nil,e=>by simp at e
 | _,_,0,_,.cons r _,e=>by simp at e;subst e;exact⟨_,rfl,r⟩
 | _,_,i+1,p,.cons _ t,e=>by
  obtain⟨u,h1,h2⟩:=fP.get (i:=i) (p:=p) t (by simpa using e)
  exact⟨u,by simpa using h1,h2⟩
theorem bO{α β:Type}{F:α->β->Prop}:∀{xs ys:List α} {us ws:List β},Bl F xs us->Bl F ys ws->Bl F (xs++ys) (us++ws)
 | _,_,_,_,.nil,s=>s
 | _,_,_,_,.cons r t,s=>.cons r (bO t s)
end L2
namespace L2
open PySem
theorem fb:BN "len"=some (.builtin "len"):=by decide+kernel
theorem N8:BN "abs"=some (.builtin "abs"):=by decide+kernel
theorem vK:BN "sum"=some (.builtin "sum"):=by decide+kernel
theorem Xh:BN "min"=some (.builtin "min"):=by decide+kernel
theorem N9:BN "max"=some (.builtin "max"):=by decide+kernel
theorem lO:BN "isinstance"=some (.builtin "isinstance"):=by decide+kernel
theorem rW:BN "sorted"=some (.builtin "sorted"):=by decide+kernel
theorem Lk:BN "list"=some (.type "list"):=by decide+kernel
theorem dI:BN "tuple"=some (.type "tuple"):=by decide+kernel
theorem Xi:BN "int"=some (.type "int"):=by decide+kernel
theorem Ll:BN "bool"=some (.type "bool"):=by decide+kernel
theorem Xj:BN "str"=some (.type "str"):=by decide+kernel
theorem ko:BN "dict"=some (.type "dict"):=by decide+kernel
theorem Xk:BN "set"=some (.type "set"):=by decide+kernel
theorem KH:BN "reversed"=some (.type "reversed"):=by decide+kernel
end L2
namespace L2
open PySem PySem.Spec PyProof.Rows
def ael(K:AB):List V->Hp->VK->Prop:=λxs H Q=>∃x n,xs=[x]/\WW K x H n/\Q (.int n) H
def aem(K:AB):List V->Hp->VK->Prop:=λxs H Q=>∃(a:Addr) (ns:List Int),xs=[.ref a]/\bM K H a (ns.map V.int)/\Q (.int ns.sum) H
def aen(K:AB):List V->Hp->VK->Prop:=λxs H Q=>∃(x:V) (t:Value) (T:String) (b:Bool),xs=[x,.ty T]/\jQ K H x t/\CN K t (.type T)=some b/\Q (.bl b) H
section
variable{X:Cx}
theorem cx(K:AB)(hK:X.K=K:=by rfl):cY X (.builtin "len") (ael K):=by subst hK;exact Q0
theorem oG(K:AB)(hc:X.calm=true:=by rfl)(hK:X.K=K:=by rfl):cY X (.builtin "sum") (aem K):=by subst hK;exact N7 hc
theorem rX(K:AB)(hK:X.K=K:=by rfl):cY X (.builtin "isinstance") (aen K):=by subst hK;exact KG
theorem cS(K:AB)(hK:X.K=K:=by rfl):Lg X (W2 K):=by subst hK;exact Vu
theorem ao(K:AB)(hK:X.K=K:=by rfl):Lg X (W3 K):=by subst hK;exact W4
theorem Ie(K:AB)(hK:X.K=K:=by rfl):Le X (W5 K):=by subst hK;exact Vv
theorem uG(K:AB)(hK:X.K=K:=by rfl):dY X (CM .Add) (TQ K):=by subst hK;exact VB
theorem pQ(K:AB)(hK:X.K=K:=by rfl):dY X (Bu .In) (rIn K false):=by subst hK;exact NY
def Xl(_ j:Int):Prop:=0<j
theorem cpos{i j:Int}(h:0<j):Xl i j:=h
theorem cU:dY X (CM .Mod) (rI Xl λi j=>.int (i % j)):=WQ
end
end L2
namespace L2
theorem Rb{t u:TS}{D:Ends}{σ:St}{H:Hp}(Pv:St->Hp->Prop)(h1:∀σ H,Pv σ H->u D σ H)(h2:(∀σ H,Pv σ H->u D σ H)->t {D with nx:=u D} σ H):qh t u D σ H:=h2 h1
end L2
namespace L2
open PySem PySem.Spec PyProof.Rows
inductive Dt where
 | non | bl (b:Bool) | int (i:Int) | str (x:Str) | tup (xs:List Dt) | lst (xs:List Dt)
mutual
def Dt.beq:Dt->Dt->Bool
 | .non,.non=>true
 | .bl a,.bl b=>a == b
 | .bl a,.int b=>(if a then 1 else 0) == b
 | .int a,.bl b=>a == (if b then 1 else 0)
 | .int a,.int b=>a == b
 | .str a,.str b=>a == b
 | .tup xs,.tup ys=>Dt.gL xs ys
 | .lst xs,.lst ys=>Dt.gL xs ys
 | _,_=>false
def Dt.gL:List Dt->List Dt->Bool
 | [],[]=>true
 | x::xs,y::ys=>x.beq y&&Dt.gL xs ys
 | _,_=>false
end
mutual
def Dt.dep:Dt->Nat
 | .tup xs=>Dt.deps xs+1
 | .lst xs=>Dt.deps xs+1
 | _=>0
def Dt.deps:List Dt->Nat
 | []=>0
 | x::xs=>max x.dep (Dt.deps xs)
end
mutual
def ax(K:AB)(H:Hp):V->Dt->Prop
 | x,.non=>x=.non
 | x,.bl b=>x=.bl b
 | x,.int i=>x=.int i
 | x,.str z=>x=.str z
 | x,.tup ds=>∃a xs,x=.ref a/\bF K H a xs/\aM K H xs ds
 | x,.lst ds=>∃a xs,x=.ref a/\bM K H a xs/\aM K H xs ds
def aM(K:AB)(H:Hp):List V->List Dt->Prop
 | [],[]=>True
 | x::xs,d::ds=>ax K H x d/\aM K H xs ds
 | _,_=>False
end
theorem Dt.beq_refl(d:Dt):d.beq d=true:=by
 induction d using Dt.rec (motive_2:=λxs=>Dt.gL xs xs=true) with
 | non=>simp[Dt.beq]
 | bl b=>simp[Dt.beq]
 | int b=>simp[Dt.beq]
 | str b=>simp[Dt.beq]
 | tup xs ih=>simp[Dt.beq,ih]
 | lst xs ih=>simp[Dt.beq,ih]
 | nil=>simp[Dt.gL]
 | cons x xs h1 h2=>simp[Dt.gL,h1,h2]
theorem aM.length{K:AB}{H:Hp}:∀{xs:List V} {ds:List Dt},aM K H xs ds->xs.length=ds.length
 | [],[],_=>rfl
 | [],_::_,h=>by simp[aM] at h
 | _::_,[],h=>by simp[aM] at h
 | x::xs,d::ds,h=>by
  rw[aM] at h
  rw[A2,A2,aM.length h.2]
theorem aM.get{K:AB}{H:Hp}:∀{xs:List V} {ds:List Dt} {i:Nat} {x:V},aM K H xs ds->xs[i]? =some x->∃d,ds[i]? =some d/\ax K H x d
 | [],_,_,_,_,e=>by simp at e
 | _::_,[],_,_,h,_=>by simp[aM] at h
 | x::xs,d::ds,0,y,h,e=>by
  rw[aM] at h
  simp at e;subst e
  exact⟨d,rfl,h.1⟩
 | x::xs,d::ds,i+1,y,h,e=>by
  rw[aM] at h
  obtain⟨d',h1,h2⟩:=aM.get (i:=i) (x:=y) h.2 (by simpa using e)
  exact⟨d',by simpa using h1,h2⟩
theorem Dt.nj{d:Dt}:∀{ds:List Dt},d∈ds->d.dep<=Dt.deps ds
 | [],h=>by cases h
 | x::xs,h=>by
  rw[Dt.deps]
  rcases Ae.mp h with rfl | h
  ·exact Nat.le_max_left ..
  ·exact A5 (Dt.nj h) (Nat.le_max_right ..)
def zB(xs ys:List Dt)(j:Nat):Bool:=match xs[j]?,ys[j]? with
 | some x,some y=>x.beq y
 | _,_=>false
theorem wW(n:Nat)(e:Nat->Bool):(A9 (n+1)).all e=(e 0&&(A9 n).all λj=>e (j+1)):=by
 rw[List.range_succ_eq_map,HI,Hd];rfl
theorem nq:∀(xs ys:List Dt),xs.length=ys.length->(A9 xs.length).all (zB xs ys)=Dt.gL xs ys
 | [],[],_=>by simp[Dt.gL]
 | x::xs,y::ys,h=>by
  have h':xs.length=ys.length:=by simpa using h
  rw[A2,wW,Dt.gL,<-nq xs ys h']
  rfl
theorem nr:∀(xs ys:List Dt),xs.length≠ys.length->Dt.gL xs ys=false
 | [],[],h=>absurd rfl h
 | [],_::_,_=>by simp[Dt.gL]
 | _::_,[],_=>by simp[Dt.gL]
 | x::xs,y::ys,h=>by
  have h':xs.length≠ys.length:=λz=>h (by simp[z])
  rw[Dt.gL,nr xs ys h',ED]
section
variable{X:Cx}{pins:List (Addr×Obj)}{σ:St}{H:Hp}{s:AN}
theorem pR{a:Addr}{xs ys:List V}(I:Inv X pins σ H s)(h1:bM X.K H a xs)(h2:bF X.K H a ys):False:=by
 obtain⟨its,_,p,_⟩:=I.list h1
 obtain⟨its2,_,q,_⟩:=I.tuple h2
 exact SeqAt.ne_of_list_tuple p.isList (show s.heap.IsTuple a its2.toArray from q) rfl
theorem wX(I:Inv X pins σ H s)(d:Dt):∀(x:V) (d':Dt),ax X.K H x d->ax X.K H x d'->d=d':=by
 induction d using Dt.rec (motive_2:=λds=>∀(xs:List V) (ds':List Dt),aM X.K H xs ds->aM X.K H xs ds'->ds=ds') with
 | non=>intro x d' h h';cases d'<;>simp_all [ax]
 | bl b=>intro x d' h h';cases d'<;>simp_all [ax]
 | int b=>intro x d' h h';cases d'<;>simp_all [ax]
 | str b=>intro x d' h h';cases d'<;>simp_all [ax]
 | tup ds ih=>
  intro x d' h h'
  rw[ax] at h
  obtain⟨a,xs,rfl,hq,hd⟩:=h
  cases d' with
  | tup ds'=>
   rw[ax] at h'
   obtain⟨a',xs',e,hq',hd'⟩:=h'
   cases e
   rw[I.rP hq' hq] at hd'
   rw[ih xs ds' hd hd']
  | lst ds'=>
   rw[ax] at h'
   obtain⟨a',xs',e,hq',hd'⟩:=h'
   cases e
   exact(pR I hq' hq).elim
  | _=>simp[ax] at h'
 | lst ds ih=>
  intro x d' h h'
  rw[ax] at h
  obtain⟨a,xs,rfl,hq,hd⟩:=h
  cases d' with
  | lst ds'=>
   rw[ax] at h'
   obtain⟨a',xs',e,hq',hd'⟩:=h'
   cases e
   rw[I.ki hq' hq] at hd'
   rw[ih xs ds' hd hd']
  | tup ds'=>
   rw[ax] at h'
   obtain⟨a',xs',e,hq',hd'⟩:=h'
   cases e
   exact(pR I hq hq').elim
  | _=>simp[ax] at h'
 | nil=>
  rename_i xs ds' h h'
  cases xs with
  | nil=>cases ds' with
   | nil=>rfl
   | cons _ _=>simp[aM] at h'
  | cons _ _=>simp[aM] at h
 | cons d ds h1 h2=>
  rename_i xs ds' h h'
  cases xs with
  | nil=>simp[aM] at h
  | cons x xs=>cases ds' with
   | nil=>simp[aM] at h'
   | cons d' ds'=>
    rw[aM] at h h'
    rw[h1 x d' h.1 h'.1,h2 xs ds' h.2 h'.2]
theorem qp{A:BB}{xs ys:List V}{ds ds':List Dt}{its its2:List Value}(r1:Vals xs its)(r2:Vals ys its2)(h1:aM X.K H xs ds)(h2:aM X.K H ys ds')
  (ih:∀d∈ds,∀(d':Dt) (x y:V) (u v:Value),ax X.K H x d->ax X.K H y d'->RelV x u->RelV y v->Cc A s u v (d.beq d')):
  ∀j (a:j<its.toArray.size) (b:j<its2.toArray.size),Cc A s its.toArray[j] its2.toArray[j] (zB ds ds' j):=λj a b=>by
 have a':j<its.length:=by simpa using a
 have b':j<its2.length:=by simpa using b
 have la:=r1.length
 have lb:=r2.length
 have ex:xs[j]? =some (xs[j]'(by omega)):=As (by omega)
 have ey:ys[j]? =some (ys[j]'(by omega)):=As (by omega)
 obtain⟨u,eu,ru⟩:=r1.get ex
 obtain⟨v,ev,rv⟩:=r2.get ey
 obtain⟨d,ed,hd⟩:=h1.get ex
 obtain⟨d',ed',hd'⟩:=h2.get ey
 have e1:its.toArray[j]=u:=by
  rw[As a'] at eu
  simpa using AS eu
 have e2:its2.toArray[j]=v:=by
  rw[As b'] at ev
  simpa using AS ev
 rw[e1,e2]
 have e3:zB ds ds' j=d.beq d':=by unfold zB;rw[ed,ed']
 rw[e3]
 exact ih d (AG ed) d' _ _ u v hd hd' ru rv
theorem Rc{A:BB}{a b:Addr}{xs ys:List V}{ds ds':List Dt}(I:Inv X pins σ H s)(q1:bM X.K H a xs)(q2:bM X.K H b ys)(h1:aM X.K H xs ds)(h2:aM X.K H ys ds')(hu:A.units<cLine)
  (ih:∀d∈ds,∀(d':Dt) (x y:V) (u v:Value),ax X.K H x d->ax X.K H y d'->RelV x u->RelV y v->Cc A.in1 s u v (d.beq d')):Hx A s (.ref a) (.ref b) (Dt.gL ds ds'):=by
 obtain⟨its,r1,p1,_⟩:=I.list q1
 obtain⟨its2,r2,p2,_⟩:=I.list q2
 have l1:=r1.length
 have l2:=r2.length
 have l3:=h1.length
 have l4:=h2.length
 by_cases hl:ds.length=ds'.length
 ·have:=SeqAt.RcAt.lists p1.isList p2.isList (by simp;omega) hu (qp r1 r2 h1 h2 ih)
  rw[show its.toArray.size=ds.length by simp;omega,nq ds ds' hl] at this
  exact this
 ·rw[nr ds ds' hl]
  exact SeqAt.RcAt.lists_lengths p1.isList p2.isList (by simp;omega) hu
theorem N'{A:BB}{a b:Addr}{xs ys:List V}{ds ds':List Dt}(I:Inv X pins σ H s)(q1:bF X.K H a xs)(q2:bF X.K H b ys)(h1:aM X.K H xs ds)(h2:aM X.K H ys ds')(hu:A.units<cLine)
  (ih:∀d∈ds,∀(d':Dt) (x y:V) (u v:Value),ax X.K H x d->ax X.K H y d'->RelV x u->RelV y v->Cc A.in1 s u v (d.beq d')):Hx A s (.ref a) (.ref b) (Dt.gL ds ds'):=by
 obtain⟨its,r1,p1,_⟩:=I.tuple q1
 obtain⟨its2,r2,p2,_⟩:=I.tuple q2
 have l1:=r1.length
 have l2:=r2.length
 have l3:=h1.length
 have l4:=h2.length
 have:=SeqAt.RcAt.tuples (show s.heap.IsTuple a its.toArray from p1) (show s.heap.IsTuple b its2.toArray from p2) hu (qp r1 r2 h1 h2 ih)
 by_cases hl:ds.length=ds'.length
 ·rw[show min its.toArray.size its2.toArray.size=ds.length by simp;omega,nq ds ds' hl,show(its.toArray.size == its2.toArray.size)=true by simp;omega,Bool.and_true] at this
  exact this
 ·rw[show(its.toArray.size == its2.toArray.size)=false by simp;omega,ED] at this
  rw[nr ds ds' hl]
  exact this
theorem Ig(I:Inv X pins σ H s)(d:Dt):∀(A:BB) (d':Dt) (x y:V) (u v:Value),A.units+d.dep<cLine->ax X.K H x d->ax X.K H y d'->RelV x u->RelV y v->Cc A s u v (d.beq d'):=by
 have flat:∀{A:BB} {d d':Dt} {x y:V} {u v:Value},jT x=true->jT y=true->pM x y=d.beq d'->RelV x u->RelV y v->Cc A s u v (d.beq d'):=λfx fy e ru rv=>e▸NW ru rv fx fy
 have Lm:∀{a:Addr} {xs:List V},bM X.K H a xs->∃its:Array Value,s.heap.IsList a its:=λq=>let ⟨its,_,p,_⟩:=I.list q;⟨_,p.isList⟩
 have Ln:∀{a:Addr} {xs:List V},bF X.K H a xs->∃its:Array Value,s.heap.IsTuple a its:=λq=>let ⟨its,_,p,_⟩:=I.tuple q;⟨_,p⟩
 have refs:∀{A:BB} {a b:Addr} {d d':Dt},ax X.K H (.ref a) d->ax X.K H (.ref b) d'->Hx A s (.ref a) (.ref b) (d.beq d')->Cc A s (.ref a) (.ref b) (d.beq d'):=by
  intro A a b d d' h h' r
  by_cases e:a=b
  ·subst e
   rw[<-wX I d _ _ h h',Dt.beq_refl]
   exact GU _
  ·exact SeqAt.EqAt.of_refs e r
 induction d using Dt.rec (motive_2:=λds=>∀d∈ds,∀(A:BB) (d':Dt) (x y:V) (u v:Value),A.units+d.dep<cLine->ax X.K H x d->ax X.K H y d'->RelV x u->RelV y v->Cc A s u v (d.beq d')) with
 | non=>
  intro A d' x y u v hu h h' ru rv
  rw[ax] at h
  subst h
  have hu':A.units<cLine:=by omega
  cases d' with
  | tup ds'=>
   rw[ax] at h';obtain⟨b,ys,rfl,q,_⟩:=h'
   cases ru;cases rv
   obtain⟨its,p⟩:=Ln q
   exact SeqAt.EqAt.none_tuple p hu'
  | lst ds'=>
   rw[ax] at h';obtain⟨b,ys,rfl,q,_⟩:=h'
   cases ru;cases rv
   obtain⟨its,p⟩:=Lm q
   exact SeqAt.EqAt.none_list p hu'
  | _=>rw[ax] at h';subst h';exact flat rfl rfl (by simp[Dt.beq,pM]) ru rv
 | bl b0=>
  intro A d' x y u v hu h h' ru rv
  rw[ax] at h
  subst h
  have hu':A.units<cLine:=by omega
  cases d' with
  | tup ds'=>
   rw[ax] at h';obtain⟨b,ys,rfl,q,_⟩:=h'
   cases ru;cases rv
   obtain⟨its,p⟩:=Ln q
   exact SeqAt.EqAt.bool_tuple _ p hu'
  | lst ds'=>
   rw[ax] at h';obtain⟨b,ys,rfl,q,_⟩:=h'
   cases ru;cases rv
   obtain⟨its,p⟩:=Lm q
   exact SeqAt.EqAt.bool_list _ p hu'
  | _=>rw[ax] at h';subst h';exact flat rfl rfl (by simp[Dt.beq,pM]) ru rv
 | int i0=>
  intro A d' x y u v hu h h' ru rv
  rw[ax] at h
  subst h
  have hu':A.units<cLine:=by omega
  cases d' with
  | tup ds'=>
   rw[ax] at h';obtain⟨b,ys,rfl,q,_⟩:=h'
   obtain⟨t,rfl⟩:=ru;cases rv
   obtain⟨its,p⟩:=Ln q
   exact SeqAt.EqAt.int_tuple _ _ p hu'
  | lst ds'=>
   rw[ax] at h';obtain⟨b,ys,rfl,q,_⟩:=h'
   obtain⟨t,rfl⟩:=ru;cases rv
   obtain⟨its,p⟩:=Lm q
   exact SeqAt.EqAt.int_list _ _ p hu'
  | _=>rw[ax] at h';subst h';exact flat rfl rfl (by simp[Dt.beq,pM]) ru rv
 | str z0=>
  intro A d' x y u v hu h h' ru rv
  rw[ax] at h
  subst h
  have hu':A.units<cLine:=by omega
  cases d' with
  | tup ds'=>
   rw[ax] at h';obtain⟨b,ys,rfl,q,_⟩:=h'
   obtain⟨t,rfl⟩:=ru;cases rv
   obtain⟨its,p⟩:=Ln q
   exact SeqAt.EqAt.str_tuple _ _ p hu'
  | lst ds'=>
   rw[ax] at h';obtain⟨b,ys,rfl,q,_⟩:=h'
   obtain⟨t,rfl⟩:=ru;cases rv
   obtain⟨its,p⟩:=Lm q
   exact SeqAt.EqAt.str_list _ _ p hu'
  | _=>rw[ax] at h';subst h';exact flat rfl rfl (by simp[Dt.beq,pM]) ru rv
 | tup ds ih=>
  intro A d' x y u v hu h h' ru rv
  have hD:=h
  have hD':=h'
  rw[ax] at h
  obtain⟨a,xs,rfl,q,hd⟩:=h
  cases ru
  obtain⟨its,p⟩:=Ln q
  have hu':A.units<cLine:=by omega
  cases d' with
  | non=>rw[ax] at h';subst h';cases rv;exact SeqAt.EqAt.tuple_none p hu'
  | bl b=>rw[ax] at h';subst h';cases rv;exact SeqAt.EqAt.tuple_bool _ p hu'
  | int b=>rw[ax] at h';subst h';obtain⟨t,rfl⟩:=rv;exact SeqAt.EqAt.tuple_int _ _ p hu'
  | str b=>rw[ax] at h';subst h';obtain⟨t,rfl⟩:=rv;exact SeqAt.EqAt.tuple_str _ _ p hu'
  | lst ds'=>
   rw[ax] at h';obtain⟨b,ys,rfl,q',_⟩:=h'
   cases rv
   obtain⟨its2,p2⟩:=Lm q'
   exact SeqAt.EqAt.tuple_list p p2 hu'
  | tup ds'=>
   rw[ax] at h';obtain⟨b,ys,rfl,q',hd'⟩:=h'
   cases rv
   refine refs hD hD' ?_
   have:=N' (A:=A) I q q' hd hd' hu' λd hm d' x y u v h1 h2 r1 r2=>ih d hm A.in1 d' x y u v (by
    have:=Dt.nj hm
    rw[Dt.dep] at hu
    show A.units+1+d.dep<cLine
    omega) h1 h2 r1 r2
   simpa[Dt.beq] using this
 | lst ds ih=>
  intro A d' x y u v hu h h' ru rv
  have hD:=h
  have hD':=h'
  rw[ax] at h
  obtain⟨a,xs,rfl,q,hd⟩:=h
  cases ru
  obtain⟨its,p⟩:=Lm q
  have hu':A.units<cLine:=by omega
  cases d' with
  | non=>rw[ax] at h';subst h';cases rv;exact SeqAt.EqAt.list_none p hu'
  | bl b=>rw[ax] at h';subst h';cases rv;exact SeqAt.EqAt.list_bool _ p hu'
  | int b=>rw[ax] at h';subst h';obtain⟨t,rfl⟩:=rv;exact SeqAt.EqAt.list_int _ _ p hu'
  | str b=>rw[ax] at h';subst h';obtain⟨t,rfl⟩:=rv;exact SeqAt.EqAt.list_str _ _ p hu'
  | tup ds'=>
   rw[ax] at h';obtain⟨b,ys,rfl,q',_⟩:=h'
   cases rv
   obtain⟨its2,p2⟩:=Ln q'
   exact SeqAt.EqAt.list_tuple p p2 hu'
  | lst ds'=>
   rw[ax] at h';obtain⟨b,ys,rfl,q',hd'⟩:=h'
   cases rv
   refine refs hD hD' ?_
   have:=Rc (A:=A) I q q' hd hd' hu' λd hm d' x y u v h1 h2 r1 r2=>ih d hm A.in1 d' x y u v (by
    have:=Dt.nj hm
    rw[Dt.dep] at hu
    show A.units+1+d.dep<cLine
    omega) h1 h2 r1 r2
   simpa[Dt.beq] using this
 | nil=>
  rename_i d hd A d' x y u v a1 a2 a3 a4 a5
  cases hd
 | cons d ds h1 h2=>
  rename_i d0 hd A d' x y u v a1 a2 a3 a4 a5
  rcases Ae.mp hd with e | hd
  ·subst e;exact h1 A d' x y u v a1 a2 a3 a4 a5
  ·exact h2 d0 hd A d' x y u v a1 a2 a3 a4 a5
def Dt.Xm:Dt->Bool
 | .tup _=>true
 | .lst _=>true
 | _=>false
def aeo(K:AB)(neg:Bool):R2:=λx y H Q=>∃d d':Dt,ax K H x d/\ax K H y d'/\d.Xm=true/\d'.Xm=true/\d.dep<=40/\Q (.bl (if neg then !d.beq d' else d.beq d')) H
theorem Oa(K:AB)(hu:X.A.units+64<cLine)(hK:X.K=K:=by rfl):dY X (Bu .NotEq) (λx y H Q=>aeo K true x y H Q/\∃d d':Dt,ax K H x d/\ax K H y d'/\((∃ds ds',d=.tup ds/\d'=.tup ds')∨∃ds ds',d=.lst ds/\d'=.lst ds')):=by
 subst hK
 intro pins s σ H x y v u Q I rx ry h
 obtain⟨⟨d,d',h,h',sq,sq',hd,q⟩,e,e',g,g',hk⟩:=h
 have e1:=wX I d x e h g
 have e2:=wX I d' y e' h' g'
 subst e1 e2
 have hA:∀e:Dt,e.dep<=40->X.A.in1.units+e.dep<cLine:=λe he=>by show X.A.units+1+e.dep<cLine;omega
 have hu':X.A.units<cLine:=by omega
 rcases hk with⟨ds,ds',rfl,rfl⟩ | ⟨ds,ds',rfl,rfl⟩
 ·rw[ax] at h h'
  obtain⟨a,xs,rfl,q1,h1⟩:=h
  obtain⟨b,ys,rfl,q2,h2⟩:=h'
  cases rx
  cases ry
  have ih:∀d∈ds,∀(d':Dt) (x y:V) (u v:Value),ax X.K H x d->ax X.K H y d'->RelV x u->RelV y v->Cc X.A.in1 s u v (d.beq d'):=λd hm d' x y u v h1 h2 r1 r2=>
   Ig I d X.A.in1 d' x y u v (hA d (by have:=Dt.nj hm;rw[Dt.dep] at hd;omega)) h1 h2 r1 r2
  obtain⟨its,r1,p1,_⟩:=I.tuple q1
  obtain⟨its2,r2,p2,_⟩:=I.tuple q2
  have l1:=r1.length
  have l2:=r2.length
  have l3:=h1.length
  have l4:=h2.length
  have z:=SeqAt.RcNeAt.tuples (show s.heap.IsTuple a its.toArray from p1) (show s.heap.IsTuple b its2.toArray from p2) hu' (qp r1 r2 h1 h2 ih)
  have fin:SeqAt.RcNeAt X.A s (.ref a) (.ref b) (!Dt.gL ds ds'):=by
   by_cases hl:ds.length=ds'.length
   ·rw[show min its.toArray.size its2.toArray.size=ds.length by simp;omega,nq ds ds' hl,show(its.toArray.size == its2.toArray.size)=true by simp;omega,Bool.and_true] at z
    exact z
   ·rw[show(its.toArray.size == its2.toArray.size)=false by simp;omega,ED] at z
    rw[nr ds ds' hl]
    exact z
  exact fin _ _ _ _ ⟨.bl _,H,I,rfl,by simpa[Dt.beq] using q⟩
 ·rw[ax] at h h'
  obtain⟨a,xs,rfl,q1,h1⟩:=h
  obtain⟨b,ys,rfl,q2,h2⟩:=h'
  cases rx
  cases ry
  have ih:∀d∈ds,∀(d':Dt) (x y:V) (u v:Value),ax X.K H x d->ax X.K H y d'->RelV x u->RelV y v->Cc X.A.in1 s u v (d.beq d'):=λd hm d' x y u v h1 h2 r1 r2=>
   Ig I d X.A.in1 d' x y u v (hA d (by have:=Dt.nj hm;rw[Dt.dep] at hd;omega)) h1 h2 r1 r2
  obtain⟨its,r1,p1,_⟩:=I.list q1
  obtain⟨its2,r2,p2,_⟩:=I.list q2
  have l1:=r1.length
  have l2:=r2.length
  have l3:=h1.length
  have l4:=h2.length
  have fin:SeqAt.RcNeAt X.A s (.ref a) (.ref b) (!Dt.gL ds ds'):=by
   by_cases hl:ds.length=ds'.length
   ·have z:=SeqAt.RcNeAt.lists p1.isList p2.isList (by simp;omega) hu' (qp r1 r2 h1 h2 ih)
    rw[show its.toArray.size=ds.length by simp;omega,nq ds ds' hl] at z
    exact z
   ·rw[nr ds ds' hl]
    exact SeqAt.RcNeAt.lists_lengths p1.isList p2.isList (by simp;omega) hu'
  exact fin _ _ _ _ ⟨.bl _,H,I,rfl,by simpa[Dt.beq] using q⟩
end
theorem rY{K:AB}{H:Hp}:∀(ns:List Int),aM K H (ns.map V.int) (ns.map Dt.int)
 | []=>by simp[aM]
 | n::ns=>by rw[Aj,Aj,aM];exact⟨by rw[ax],rY ns⟩
theorem yf:∀(ns:List Int),Dt.deps (ns.map Dt.int)=0
 | []=>by simp[Dt.deps]
 | n::ns=>by rw[Aj,Dt.deps,yf ns];simp[Dt.dep]
section
variable{X:Cx}
def abd(K:AB):List V->Hp->VK->Prop:=λxs H Q=>∃(p:Addr) (ys:List V),xs=[.ref p]/\(bM K H p ys∨bF K H p ys)/\∀l,H l=none->Q (.ref l) (upd H l (.lst ys))
theorem Mu(K:AB)(hK:X.K=K:=by rfl):cY X (.type "list") (abd K):=by subst hK;exact zW
def Xn(K:AB):List V->Hp->VK->Prop:=λxs H Q=>∃(p:Addr) (ys:List V),xs=[.ref p]/\((bM K H p ys/\∀l,H l=none->Q (.ref l) (upd H l (.tup ys)))∨(bF K H p ys/\Q (.ref p) H))
theorem cz(K:AB)(hK:X.K=K:=by rfl):cY X (.type "tuple") (Xn K):=by subst hK;exact yX
end
end L2
namespace L2
open PySem
theorem kq{ns:List Int}{i:Nat}{x:V}(h:(ns.map V.int)[i]? =some x):∃f,x=.int f/\ns[i]? =some f:=by
 rw[AU] at h
 cases e:ns[i]? with
 | none=>rw[e] at h;cases h
 | some f=>rw[e] at h;exact⟨f,(AS h).symm,rfl⟩
end L2
namespace L2
open PySem PySem.Spec PyProof.Rows
theorem qr{ys:List Str}:∀{us:List Value},Vals (ys.map V.str) us->Cs us ys:=by
 induction ys with
 | nil=>intro us r;cases r;exact .nil
 | cons y ys ih=>
  intro us r
  rw[Aj] at r
  cases r with
  | cons a b=>
   obtain⟨t,rfl⟩:=a
   exact .cons y t (ih b)
theorem oI:∀{us:List Value} {ys:List Str},Cs us ys->Vals (ys.map V.str) us
 | _,_,.nil=>.nil
 | _,_,.cons y t r=>.cons ⟨t,rfl⟩ (oI r)
theorem Rf(sep:Str)(ys:List Str)(h:(ys.map (·.length)).sum+ys.length*sep.length<=16777216):(Txt.join sep ys).length<=sizeLine:=by
 have hok:=joinOk_of h
 unfold JoinOk at hok
 rw[Bool.not_eq_true'] at hok
 have e:ys=(ys.map λy=>(y,(0:Tok))).map (·.1):=by rw[BL];exact(Ee ys).symm
 rw[e] at hok ⊢
 exact joinFit_length hok
section
variable{X:Cx}
def rJoin(K:AB):V->List V->Hp->VK->Prop:=λx vs H Q=>∃(sep:Str) (a:Addr) (ys:List Str),x=.str sep/\vs=[.ref a]/\bM K H a (ys.map V.str)/\(ys.map (·.length)).sum+ys.length*sep.length<=16777216/\∀z:Str,z.length<=sizeLine->z=Txt.join sep ys->Q (.str z) H
theorem Rg(K:AB)(hK:X.K=K:=by rfl):zY X "str.join" (rJoin K):=by
 subst hK
 intro pins s σ H x vs v us Q I rx rv h
 obtain⟨sep,a,ys,rfl,rfl,hq,hz,q⟩:=h
 obtain⟨t,rfl⟩:=rx
 obtain⟨u,rfl,ru⟩:=rv.one
 cases ru
 obtain⟨its,r,p,_⟩:=I.list hq
 exact join_list p.isList (show Cs its.toArray.toList ys from qr r) hz λt' k=>⟨.str _,H,I.tok k,⟨t',rfl⟩,q _ (Rf sep ys hz) rfl⟩
def Xo(K:AB):List V->Hp->VK->Prop:=λxs H Q=>∃(a:Addr) (ss:List Str),xs=[.ref a]/\bM K H a (ss.map V.str)/\ss.length<64/\
 ∀(p:Addr) (ss':List Str),H p=none->ss'.Perm ss->B4 ss'=true->Q (.ref p) (upd H p (.lst (ss'.map V.str)))
theorem KI(K:AB)(hK:X.K=K:=by rfl):cY X (.builtin "sorted") (Xo K):=by
 subst hK
 intro pins s σ H xs us Q I r h
 obtain⟨a,ss,rfl,hq,hl,q⟩:=h
 obtain⟨u,rfl,ru⟩:=vals1 r
 cases ru
 obtain⟨its,rv,p,hz⟩:=I.list hq
 have hlen:=rv.length
 rw[AA] at hlen
 refine sorted_strs p.isList (qr rv) (by omega) λout ss' a1 a2 a3=>?_
 obtain⟨e,he⟩:=sortedAll_at s.heap its out
 have hp:s.heap.objs.size<=s.heap.objs.size+1:=B' _
 refine⟨.ref (s.heap.objs.size+1),upd H (s.heap.objs.size+1) (.lst (ss'.map V.str)),?_,rfl,q _ ss' (I.hok.fresh hp) a2 a3⟩
 refine I.laid (t':=s.toks) (h':=sortedAll s.heap its out) (λ_ _=>sortedAll_old) hp ⟨?_,out.toList,e,oI a1,?_⟩
 ·rw[AA,a2.length_eq]
  rw[AA] at hz
  exact hz
 ·rw[he]
  first
   | done
   | rfl
def aep:V->Option Int->Option Int->Hp->VK->Prop:=λx lo hi H Q=>∃z:Str,x=.str z/\z.length<=sizeLine/\Q (.str (Txt.slice z lo hi)) H
theorem uh{v:Value}{o:Option Int}(p:Fb v o):∃l:Option (Int×Tok),v=partValue l/\l.map (·.1)=o:=by
 cases p with
 | none=>exact⟨none,rfl,rfl⟩
 | int i t=>exact⟨some (i,t),rfl,rfl⟩
theorem Xp:Le X aep:=by
 intro pins s σ H x v vl vu lo hi sl Q I rx hs pl pu h
 obtain⟨z,rfl,hz,q⟩:=h
 obtain⟨t,rfl⟩:=rx
 obtain⟨l,rfl,hl⟩:=uh pl
 obtain⟨u,rfl,hu⟩:=uh pu
 subst hl hu
 obtain⟨o,ho,hc,hd⟩:=hs
 refine⟨"str",_,Fg.lookup,FA _ _ _,wpAny_getItem_str_slice (l:=l) (u:=u) (st:=none) ⟨o,ho,hc,hd⟩ rfl ?_⟩
 exact post_val_or_str ⟨A5 (Txt.slice_le z _ _) hz,λt' k=>⟨.str _,H,I.tok k,⟨t',rfl⟩,q⟩⟩
structure pS (K:AB)(P:Gw)(a:Addr)(tab:List (Str×Option V)):Prop where
 ex:∃(es:Array DictEntry) (n:Nat),K.lookup a=some ⟨.type "dict",none,.dict es n, #[]⟩/\GV P es.toList/\∀x r,(x,r)∈tab->iu r (findBy HG es x)
 lo:(a == Ba)=false
def VC(tab:List (Str×Option V))(ty tx:TE):TE:=λσ H Q=>ty σ H λy H1=>tx σ H1 λz H2=>∃x r,y=.str x/\(x,r)∈tab/\Q (r.getD z) H2
theorem yg{x:Str}{p apos cpos:Pos}{e f:Expr}{ty tx:TE}{a:Addr}{tab:List (Str×Option V)}(D:pS X.K X.w.params a tab)(hg:Gl X x)(hm:X.mg x=some (.ref a))(he:PE X e ty)(hf:PE X f tx)
  (m:M2 X (.Name x p) "get" apos e f cpos:=by exact⟨rfl,rfl,rfl,rfl⟩) (hdb:(x == ("__debug__":Str))=false:=by decide):PE X (.Call (.Attribute (.Name x p) "get" apos) [e,f] [] cpos) (VC tab ty tx):=by
 intro pins s σ H Q I h
 obtain⟨es,n,hl,hk,ht⟩:=D.ex
 refine wpAny_Call_method m.base m.few m.line Fq Ci GY (wK I hg hm ?_ hdb)
 have hm0:=PySem.W.mapOf_K (prog:=X.prog) I.i8 hl hk
 refine⟨hm0.typeIs,hm0.noDict,?_⟩
 rw[m.trees]
 refine C_ rfl (DS (Cb (aQ (he pins s σ H _ I h) λiv s2 ⟨y,H2,I2,ry,q2⟩=>
  Cb (aQ (hf pins s2 σ H2 _ I2 q2) λfv s3 ⟨z,H3,I3,rz,x',r,ey,hmem,q3⟩=>D_ ?_))))
 subst ey
 obtain⟨t,rfl⟩:=ry
 have hm3:=PySem.W.mapOf_K (prog:=X.prog) I3.i8 hl hk
 refine call_meetsIn Ci hm3.typeIs EE (D7 _ _ _) (meets_dict_get_default (strKind X.prog X.w) a (HV X.prog X.w x' t) D.lo fv) ⟨_,hm3,?_⟩
 refine⟨r.getD z,H3,I3.tok _,?_,q3⟩
 have:=ht x' r hmem
 cases r with
 | none=>
  rw[this.none_of]
  exact rz
 | some v=>
  obtain⟨u,eu,ru⟩:=this.some_of
  rw[eu]
  exact ru
theorem iP{K:AB}{H:Hp}{a:Addr}{xs:List V}{us:List Value}{n:Nat}(h:K.lookup a=some ⟨.type "tuple",none,.seq us.toArray n, #[]⟩)(r:Vals xs us)(hz:xs.length<=sizeLine):bF K H a xs:=
 .inr ⟨_,us.toArray,n,h,rfl,rfl,by rw[Ai,<-r.length];exact hz,by simpa using r⟩
theorem kr(K:AB){es:List Expr}{k:Nat}{t:xO}{n:Nat}{pos:Pos}(hc:X.calm=true)(h:NK X es t)
  (hn:(Dz es X.env).length=n:=by rfl) (hst:(Dz es X.env).findIdx? (·.1)=none:=by rfl) (hK:X.K=K:=by rfl):PG X (.Tuple es k pos) (WL K n t):=by
 subst hK;exact vo hc h hn hst
end
mutual
def Dt.ja:Dt->Bool
 | .lst _=>false
 | .tup xs=>Dt.jw xs
 | _=>true
def Dt.jw:List Dt->Bool
 | []=>true
 | x::xs=>x.ja&&Dt.jw xs
end
def kf(K:AB)(H H':Hp):Prop:=∀a xs,bF K H a xs->bF K H' a xs
theorem kf.trans{K:AB}{H H1 H2:Hp}(a:kf K H H1)(b:kf K H1 H2):kf K H H2:=λc o h=>b c o (a c o h)
theorem Same.kts{K:AB}{H H':Hp}(s:Same H H'):kf K H H':=λ_ _ h=>s.uF h
theorem KB.kts{K:AB}{d:Addr}{xs:List V}{H H':Hp}(h:H d=some (.lst xs))(k:KB d H H'):kf K H H':=λa ys e=>by
 rcases e with(e | ⟨o,e⟩) | e
 ·exact .inl (.inl (k _ _ e (fE e h (λz=>nomatch z))))
 ·exact .inl (.inr ⟨o,k _ _ e (fE e h (λz=>nomatch z))⟩)
 ·exact .inr e
theorem gM{K:AB}{H H':Hp}(k:kf K H H')(d:Dt):∀x:V,d.ja=true->ax K H x d->ax K H' x d:=by
 induction d using Dt.rec (motive_2:=λds=>∀xs:List V,Dt.jw ds=true->aM K H xs ds->aM K H' xs ds) with
 | non=>intro x _ h;simpa[ax] using h
 | bl b=>intro x _ h;simpa[ax] using h
 | int b=>intro x _ h;simpa[ax] using h
 | str b=>intro x _ h;simpa[ax] using h
 | tup ds ih=>
  intro x hn h
  rw[ax] at h ⊢
  rw[Dt.ja] at hn
  obtain⟨a,xs,e,q,hd⟩:=h
  exact⟨a,xs,e,k _ _ q,ih xs hn hd⟩
 | lst ds ih=>intro x hn;simp[Dt.ja] at hn
 | nil=>
  rename_i xs hn h
  cases xs with
  | nil=>simp[aM]
  | cons _ _=>simp[aM] at h
 | cons d ds h1 h2=>
  rename_i xs hn h
  rw[Dt.jw,Bc] at hn
  cases xs with
  | nil=>simp[aM] at h
  | cons x xs=>
   rw[aM] at h ⊢
   exact⟨h1 x hn.1 h.1,h2 xs hn.2 h.2⟩
theorem yh{K:AB}{H H':Hp}(k:kf K H H'):∀(ds:List Dt) (xs:List V),Dt.jw ds=true->aM K H xs ds->aM K H' xs ds
 | [],xs,_,h=>by
  cases xs with
  | nil=>simp[aM]
  | cons _ _=>simp[aM] at h
 | d::ds,xs,hn,h=>by
  rw[Dt.jw,Bc] at hn
  cases xs with
  | nil=>simp[aM] at h
  | cons x xs=>
   rw[aM] at h ⊢
   exact⟨gM k d x hn.1 h.1,yh k ds xs hn.2 h.2⟩
theorem wY{K:AB}{H:Hp}{i:Int}:ax K H (.int i) (.int i):=by rw[ax]
theorem iQ{K:AB}{H:Hp}{z:Str}:ax K H (.str z) (.str z):=by rw[ax]
theorem iR{K:AB}{H:Hp}{a:Addr}{xs:List V}{ds:List Dt}(h:bF K H a xs)(d:aM K H xs ds):ax K H (.ref a) (.tup ds):=by rw[ax];exact⟨a,xs,rfl,h,d⟩
theorem tO{K:AB}{H:Hp}{a:Addr}{xs:List V}{ds:List Dt}(h:bM K H a xs)(d:aM K H xs ds):ax K H (.ref a) (.lst ds):=by rw[ax];exact⟨a,xs,rfl,h,d⟩
theorem d_{K:AB}{H:Hp}:aM K H [] []:=by simp[aM]
theorem bA{K:AB}{H:Hp}{x:V}{xs:List V}{d:Dt}{ds:List Dt}(h:ax K H x d)(t:aM K H xs ds):aM K H (x::xs) (d::ds):=by rw[aM];exact⟨h,t⟩
theorem Ih{K:AB}{H:Hp}:∀{xs ys:List V} {ds es:List Dt},aM K H xs ds->aM K H ys es->aM K H (xs++ys) (ds++es)
 | [],_,[],_,_,h=>h
 | [],_,_::_,_,h,_=>by simp[aM] at h
 | _::_,_,[],_,h,_=>by simp[aM] at h
 | x::xs,_,d::ds,_,h,g=>by
  rw[aM] at h
  exact bA h.1 (Ih h.2 g)
theorem iS{ns:List Str}{i:Nat}{x:V}(h:(ns.map V.str)[i]? =some x):∃f,x=.str f/\ns[i]? =some f:=by
 rw[AU] at h
 cases e:ns[i]? with
 | none=>rw[e] at h;cases h
 | some f=>rw[e] at h;exact⟨f,(AS h).symm,rfl⟩
end L2
namespace L2
open PySem
def cy(d e:Addr)(H H':Hp):Prop:=∀b o,H b=some o->b≠d->b≠e->H' b=some o
theorem cy.trans{d e:Addr}{H H1 H2:Hp}(a:cy d e H H1)(b:cy d e H1 H2):cy d e H H2:=λc o h n m=>b c o (a c o h n m) n m
theorem KB.l{d e:Addr}{H H':Hp}(k:KB d H H'):cy d e H H':=λb o h n _=>k b o h n
theorem KB.r{d e:Addr}{H H':Hp}(k:KB e H H'):cy d e H H':=λb o h _ n=>k b o h n
theorem Same.kb2{d e:Addr}{H H':Hp}(s:Same H H'):cy d e H H':=λb o h _ _=>s b o h
end L2
namespace L2
open PySem PySem.Spec PyProof.Rows
theorem Rh:E_ (.type "list_reverseiterator") "__len__"=pure none:=by rw[DF,CB];kernel_rfl
theorem VD:E_ (.type "list_reverseiterator") "__length_hint__"=pure (some (.builtin "list_reverseiterator.__length_hint__")):=by rw[DF,CB];kernel_rfl
section
variable{prog:Ah}{w:World}{A:BB}{s:AN}{R:Result->AN->Prop}
theorem Mv{I l S:Addr}{its:Array Value}{res:Value}{c0:Nat}(hh:A.handled=none)(hlI:l≠I)(hSI:S≠I)(hSl:S≠l)(hit:s.heap.IsRevIter I l ((its.size:Int)-1))(hl:s.heap.IsList l its)(hz:its.size<=sizeLine)
  (hS:s.heap.get? S=some {cls:=.type "list",data:=.seq #[] c0})
  (hR:∀h' tk acc c,(∀b o,b≠S->b≠I->s.heap.get? b=some o->h'.get? b=some o)->h'.get? S=some {cls:=.type "list",dict:=none,data:=.seq acc c,slots:= #[]}->ItemsOf (λi v=>its[its.size-1-i]? =some v) acc its.size->
   R (.ok (.ret res)) {s with heap:=h',toks:=tk}):
  wpAny (model prog w) A.in1 (Bk (.ref S) (.ref I) res) (λfin s'=>match fin with | .done f=>R (.ok f) s' | .again c'=>c'.quiet=true/\Ea (model prog w) A c' R s') (λe s'=>R (.error e) s') s:=by
 have hSf:S ∉ [I,l]:=λhm=>by
  rcases Ae.mp hm with z | z
  ·exact hSI z
  ·exact hSl (AW.mp z)
 have W:=(Walks.listRev (prog:=prog) (w:=w) (A:=A.in1) hh I l hlI its).toS
 unfold Bk
 (refine AD (Cr hit.typeIs ?_))
 have g1:C0 (.ref S) (.ref I)=false:=by simp[C0,hSI]
 rw[if_neg (by rw[g1];decide)];refine AD (wpAny_pyIter_revIter hit ?_)
 (refine AD (Bp ?_));unfold DN
 refine AD (Eo hit.typeIs Rh ?_)
 show wpAny _ A.in1 (specialOf (BF I) (CJ "__length_hint__") >>= _) _ _ s
 refine AD (Eo hit.typeIs VD ?_)
 generalize hid:("list_reverseiterator.__length_hint__":String)=id0
 wp_delta
 rw[show splitId id0=some ("list_reverseiterator","__length_hint__") from by subst hid;decide+kernel];subst hid
 refine AD (EX (T:="list_reverseiterator") (b:=true) hit.typeIs (by rw[FD];kernel_rfl) ?_)
 (refine AO ?_);rw[if_neg (by decide)]
 refine AO ⟨CY F.plain_extend_loop _,codeAny_extend_loopS W hz S hSf res its.size 0 s _ c0 rfl (A6 _) ⟨A6 _,by simpa using hit,hl⟩ hS (ItemsOf.nil _) λs' acc c hm hS' ha=>?_⟩
 rw[Moved.eq_with hm]
 refine hR s'.heap s'.toks acc c (λb o hb hb' e=>hm.heap b o (λz=>?_) e) hS' ha
 rcases Ae.mp z with z | z
 ·exact hb z
 ·exact hb' (AW.mp z)
end
section
variable{prog:Ah}{w:World}{A:BB}{E:Value->AN->Prop}{s:AN}
theorem yY{Q:Value->AN->Prop}{I l:Addr}{its:Array Value}(hh:A.handled=none)(hlI:l≠I)(hit:s.heap.IsRevIter I l ((its.size:Int)-1))(hl:s.heap.IsList l its)(hz:its.size<=sizeLine)
  (hQ:∀h' tk acc c,(∀b o,b≠I->s.heap.get? b=some o->h'.get? b=some o)->h'.get? s.heap.objs.size=some {cls:=.type "list",dict:=none,data:=.seq acc c,slots:= #[]}->ItemsOf (λi v=>its[its.size-1-i]? =some v) acc its.size->
   Q (.ref s.heap.objs.size) {s with heap:=h',toks:=tk}):wpAny (model prog w) A (call (.type "list") [.ref I]) Q E s:=by
 have bI:I<s.heap.objs.size:=by obtain⟨o,e,_⟩:=hit;exact AR e
 have bl:l<s.heap.objs.size:=by obtain⟨o,e,_⟩:=hl;exact AR e
 refine Gz (Q₁:=λobj s1=>obj=.ref s.heap.objs.size/\s1={s with heap:=s.heap.push {cls:=.type "list",data:=.seq #[]}}) F.called_list (F.typeCall_list_1 _) F.entry_list_init (code_list_new _ ⟨rfl,rfl⟩) λobj s1 e1=>?_
 obtain⟨rfl,rfl⟩:=e1
 have hS:(s.heap.push {cls:=.type "list",data:=.seq #[]}).get? s.heap.objs.size=some {cls:=.type "list",data:=.seq #[]}:=AV _ rfl
 have old:∀b o,s.heap.get? b=some o->b≠s.heap.objs.size:=λb o e=>Al (AR e)
 refine⟨⟨_,hS,rfl⟩,F.args_list_init_2 _ _,?_⟩
 show wpAny _ _ (do let old <-GH (.ref s.heap.objs.size);Builtin.List.listUpdate (.ref s.heap.objs.size) (λ_=> #[]);letGo old.toList.reverse;Bk (.ref s.heap.objs.size) (.ref I) .none) _ _ _
 (refine AD ?_);unfold GH;refine AD (CO hS rfl (AO ?_))
 show wpAny _ _ (updateSeq s.heap.objs.size (λ_=> #[]) >>= λ_=>letGo (#[]:Array Value).toList.reverse >>= λ_=>Bk (.ref s.heap.objs.size) (.ref I) .none) _ _ _
 refine AD (Es hS rfl ?_)
 have hS2:=CC (DT (λ_=>(#[]:Array Value))) hS rfl
 have oth:∀b o,s.heap.get? b=some o->((s.heap.push {cls:=.type "list",data:=.seq #[]}).update s.heap.objs.size (DT (λ_=>(#[]:Array Value)))).get? b=some o:=
  λb o e=>(C' _ _ (C1 (old b o e))).trans (AE _ e)
 (refine AD (wpAny_letGo ?_));refine Mv (A:=A.in1) hh hlI (CH bI) (CH bl) (hit.at λo e=>oth _ o e) (hl.at λo e=>oth _ o e) hz hS2 λh' tk acc c k e a=>?_
 exact⟨rfl,hQ h' tk acc c (λb o hb e=>k b o (old b o e) hb (oth b o e)) e a⟩
end
theorem pT{α β:Type}{r:α->β->Prop}{xs:List α}{ys:List β}(h:Bl r xs ys):Bl r xs.reverse ys.reverse:=by
 induction h with
 | nil=>exact .nil
 | cons a _ ih=>rw[EF,EF];exact bO ih (.cons a .nil)
theorem Ob{its:List Value}{acc:Array Value}(h:ItemsOf (λi v=>its.toArray[its.toArray.size-1-i]? =some v) acc its.toArray.size):acc.toList=its.reverse:=by
 obtain⟨hs,hv⟩:=h
 simp only[Ai,DI] at hs hv
 apply List.ext_getElem?
 intro j
 by_cases hj:j<its.length
 ·have e1:acc[j]? =some acc[j]:=BW (by omega)
  have e2:=hv j _ e1
  rw[DJ hj,e2,BZ,e1]
 ·rw[Cj (by rw[A_];omega),Cj (by rw[B_];omega)]
section
variable{X:Cx}
def tLR(K:AB)(ta:TA):TE:=λσ H Q=>ta σ H λvs H1=>∃(a:Addr) (xs:List V),vs=[.ref a]/\bM K H1 a xs/\∀l,H1 l=none->Q (.ref l) (upd H1 l (.lst xs.reverse))
theorem Mw(K:AB){a:Expr}{ta:TA}{p p' pos pos':Pos}(hc:X.calm=true)(hg:Gl X "list")(hm:X.mg "list"=none)(hg':Gl X "reversed")(hm':X.mg "reversed"=none)(ha:PA X [a] ta)(hK:X.K=K:=by rfl)
  (hs:BE [a] X.env=[(false,eval a X.env)]:=by rfl):PE X (.Call (.Name "list" p) [.Call (.Name "reversed" p') [a] [] pos'] [] pos) (tLR K ta):=by
 subst hK
 intro pins s σ H Q I h
 refine B2 (i9 I hg hm Lk ?_)
 refine BP ?_ rfl rfl
 rw[show BE [.Call (.Name "reversed" p') [a] [] pos'] X.env=[(false,eval (.Call (.Name "reversed" p') [a] [] pos') X.env)] from rfl]
 show wpAny _ _ (spliced [(false,eval (.Call (.Name "reversed" p') [a] [] pos') X.env)]) _ _ s
 refine Cb ?_
 refine Call_ (i9 I hg' hm' KH (BP (aQ (ha pos' pins s σ H _ I h) ?_) hs rfl))
 rintro us s1 ⟨vs,H1,I1,r1,q1⟩
 obtain⟨l,xs,e,hq,q⟩:=q1
 subst e
 cases r1 with
 | cons r rr=>
  cases rr
  cases r
  obtain⟨its,rv,pl,hz⟩:=I1.list hq
  have hl:=rv.length
  refine call_reversed_list pl.isList (D_ ?_)
  have bl:l<s1.heap.objs.size:=by obtain⟨o,e,_⟩:=pl.isList;exact AR e
  refine yY (I1.ok.hd hc) (I:=s1.heap.objs.size) (its:=its.toArray) (Al bl) ⟨_,AV _ rfl,rfl,rfl⟩ (pl.isList.push _) (by simp only[Ai];omega) λh' tk acc c k e it=>?_
  have ei:=Ob it
  have kp:∀b u,s1.heap.get? b=some u->h'.get? b=some u:=λb u e=>k b u (Al (AR e)) (AE _ e)
  rw[BG] at e
  have hp:s1.heap.objs.size<=s1.heap.objs.size+1:=B' _
  refine⟨.ref (s1.heap.objs.size+1),_,I1.laid (t':=tk) kp hp (show bN X.prog X.w _ h' _ (.lst xs.reverse) from⟨by rw[B_];exact hz,acc.toList,c,by rw[ei];exact pT rv,e⟩),?_,q _ (I1.hok.fresh hp)⟩
  show RelV (.ref _) _
  rw[show(s1.heap.push (revObj l ((its.toArray.size:Int)-1))).objs.size=s1.heap.objs.size+1 from BG ..]
  rfl
end
end L2
namespace L2
open PySem PySem.Spec PyProof.Rows
open AutoSeq1 (wpAny_loadPart')
section
variable{prog:Ah}{w:World}{A:BB}{E:Value->AN->Prop}{s:AN}
theorem KJ{it t:Addr}{i:Nat}{items:Array Value}{x:Value}{Q:Value->AN->Prop}(hit:s.heap.IsTupleIter it t i)(ht:s.heap.IsTuple t items)(hx:items[i]? =some x)
  (hQ:∀h',h'.IsTupleIter it t (i+1)->C9 it s.heap h'->Q x {s with heap:=h'}):wpAny (model prog w) A (Be (.ref it)) Q E s:=by
 obtain⟨o,ho,hc,hd⟩:=id hit
 obtain⟨ol,hol,_,nl,hdl⟩:=ht
 unfold Be
 refine AD (BO (name:=CJ "__next__") hit.typeIs Cd (BS Cd hit.typeIs Ey ?_ (Et _)))
 (show wpAny _ _ (field (.ref it) 0 >>= _) _ _ s);(refine AD (Bt ho hd (x:=.ref t) rfl ?_))
 (show wpAny _ _ (if(BF t == Bz)=true then _ else _) _ _ s);rw[if_neg (show ¬((BF t == Bz)=true) from An)]
 (show wpAny _ _ (field (.ref it) 1 >>= _) _ _ s);(refine AD (Bt ho hd (x:=.int i 0) rfl ?_))
 (show wpAny _ _ (G7 (.ref t) >>= _) _ _ s);(refine AD (CO hol hdl ?_))
 simp only[Au,hx];refine AD (wpAny_setField ho hd (by simp) (AO ⟨x,rfl,AO (hQ _ ?_ (Dg ..))⟩))
 exact⟨_,CC _ ho (Obj.isFreed_of_fields (Obj.data_mapFields hd _)),(Obj.cls_mapFields ..).trans hc,(by rw[Obj.data_mapFields hd];simp[A3])⟩
theorem KL{it t:Addr}{i:Nat}{items:Array Value}{Q:Value->AN->Prop}(hh:A.handled=none)(hit:s.heap.IsTupleIter it t i)(ht:s.heap.IsTuple t items)(hx:items[i]? =none)
  (hE:∀h' e,Ef it s.heap h'->(∃o,h'.get? e=some o/\o.cls=.type "StopIteration")->E (.ref e) {s with heap:=h'}):wpAny (model prog w) A (Be (.ref it)) Q E s:=by
 obtain⟨o,ho,hc,hd⟩:=id hit
 obtain⟨ol,hol,_,nl,hdl⟩:=ht
 unfold Be
 refine AD (BO (name:=CJ "__next__") hit.typeIs Cd (BS Cd hit.typeIs Ey ?_ (Et _)))
 (show wpAny _ _ (field (.ref it) 0 >>= _) _ _ s);(refine AD (Bt ho hd (x:=.ref t) rfl ?_))
 (show wpAny _ _ (if(BF t == Bz)=true then _ else _) _ _ s);rw[if_neg (show ¬((BF t == Bz)=true) from An)]
 (show wpAny _ _ (field (.ref it) 1 >>= _) _ _ s);(refine AD (Bt ho hd (x:=.int i 0) rfl ?_))
 (show wpAny _ _ (G7 (.ref t) >>= _) _ _ s);(refine AD (CO hol hdl ?_))
 simp only[Au,hx];refine AD (DB (AD (wpAny_setField ho hd (by simp) ?_)))
 (show wpAny _ _ (newExc (.type "StopIteration") [] >>= _) _ _ _);(refine AD ?_);simp only[newExc,newTuple]
 (refine AD (BX ?_ (by size_fits)))
 (refine AD (m:=FE _ _) (wpAny_of_eq (a:=Bz) (by first | rfl | (simp only[FE];rfl)) ?_));(refine BX ?_ (by size_fits))
 simp only[raiseNew];refine AD (wpAny_handled ?_)
 (first | rw[show A.in1.handled=none from hh] | rw[hh]);refine AD (AO (wpAny_throw ?_))
 exact hE _ _ (((Dg (a:=it) ..).extBut.push _).push _) ⟨_,AV _ rfl,rfl⟩
end
end L2
namespace L2
open PySem PySem.Spec PyProof.Rows
section
variable{X:Cx}
def Xq:List V->Hp->VK->Prop:=λxs H Q=>∃(d:Addr) (kvs:List (Key×V)) (ss:List Str),xs=[.ref d]/\H d=some (.dK kvs)/\kvs.map (·.1)=ss.map Am/\ss.length<64/\
 ∀(p:Addr) (ss':List Str),H p=none->ss'.Perm ss->He ss'=true->Q (.ref p) (upd H p (.lst (ss'.map V.str)))
theorem qt:∀{vs:List Value} {ss:List Str},vs.length=ss.length->(∀(i:Nat) (v:Value) (x:Str),vs[i]? =some v->ss[i]? =some x->∃t,v=.str x t)->Cs vs ss
 | [],[],_,_=>.nil
 | [],_::_,h,_=>by cases h
 | _::_,[],h,_=>by cases h
 | v::vs,x::ss,h,k=>by
  obtain⟨t,rfl⟩:=k 0 v x rfl rfl
  exact .cons x t (qt (DV h) λi v y e1 e2=>k (i+1) v y e1 e2)
theorem Mx(hc:X.calm=true):cY X (.builtin "sorted") Xq:=by
 intro pins s σ H xs us Q I r h
 obtain⟨d,kvs,ss,rfl,hd,hk,h64,q⟩:=h
 obtain⟨u,rfl,ru⟩:=vals1 r
 cases ru
 obtain⟨hz,lo,vs,rel,dd⟩:=zA I.hok hd
 obtain⟨ep,hat⟩:=dd.dictAt
 have hlk:kvs.length=ss.length:=by have:=congrArg Ed hk;simpa using this
 have hlv:kvs.length=vs.length:=rel.length
 have hks:∀(i:Nat) (k:Key) (x:Value),vs[i]? =some (k,x)->∃y,ss[i]? =some y/\k=Am y:=λi k x e=>by
  have h1:(vs.map (·.1))[i]? =some k:=by rw[AU,e];rfl
  have h2:vs.map (·.1)=ss.map Am:=by
   rw[<-hk]
   have:∀{l:List (Key×V)} {m:List (Key×Value)},KV l m->m.map (·.1)=l.map (·.1):=λ{l m} q=>by
    unfold KV at q
    induction q with
    | nil=>rfl
    | cons a _ ih=>rw[Aj,Aj,ih,a.1]
   exact this rel
  rw[h2,AU] at h1
  cases es:ss[i]? with
  | none=>rw[es] at h1;cases h1
  | some y=>rw[es] at h1;exact⟨y,rfl,(AS h1).symm⟩
 refine FN kind_sorted plain_sorted entry_sorted (args_sorted1 _) ?_
 unfold Builtin.«sorted»
 (refine AD (m:=checkCount "sorted" 1 1 _) (AO ?_))
 refine AD (PySem.W.kdu_collect (A:=X.A.in1) (PySem.W.kdl_dict (knd:=bf X.prog X.w) (kvs:=vs) (ep:=ep) lo) (I.ok.hd hc) hat (by omega) λh' tk acc k it=>?_)
 have hl:acc.toList.length=ss.length:=by rw[A_,it.1];omega
 have hS:Cs acc.toList ss:=qt hl λi v x e1 e2=>by
  obtain⟨kk,z,ek,ik⟩:=it.2 i v (by rw[<-BZ];exact e1)
  obtain⟨y,ey,rfl⟩:=hks i kk z ek
  rw[e2] at ey
  cases ey
  rw[Mc] at ik
  rcases cI ik with⟨_,_,z,_⟩ | ⟨x',t,z,ev⟩
  ·cases z
  ·cases z
   exact⟨t,ev⟩
 refine AD (wpAny_newList ?_ (by rw[hl];exact C8 (AX h64 (by decide))))
 have hoL:(h'.push (seqObj "list" acc.toList.toArray 0)).get? h'.objs.size=some (seqObj "list" acc.toList.toArray 0):=AV _ rfl
 refine AD (Bp (BS slot_list_sort ⟨_,hoL,rfl⟩ entry_list_sort (list_sort_treeK strKind_oneLt hoL hS.keysOf (λv1 v2 rest e=>keyKind_strs (by rw[<-e];exact hS)) (by rw[hl];exact h64) λst' hp hs=>⟨_,rfl,?_⟩) (args_list_sort _)))
 obtain⟨ss',a1,a2,a3⟩:=sorted_out_str hS hp hs
 have I1:Inv X pins σ H {s with heap:=h',toks:=tk}:=I.kept k
 obtain⟨e,he⟩:=sortedHeap_at (out:=(arrOf st').map (·.2)) hoL
 have kp:∀b u,h'.get? b=some u->(sortedHeap (h'.push (seqObj "list" acc.toList.toArray 0)) h'.objs.size acc.toList ((arrOf st').map (·.2))).get? b=some u:=λb u eb=>by
  have lt:=AR eb
  rw[sortedHeap_old (Al lt) (by rw[BG];exact CP lt)]
  exact AE _ eb
 have I2:=I1.laid (a:=h'.objs.size) (o:=.lst (ss'.map V.str)) (t':=tk) kp (AM _) ⟨by rw[AA,a2.length_eq];exact C8 (AX h64 (by decide)),((arrOf st').map (·.2)).toList,e,oI a1,he⟩
 exact AO ⟨_,rfl,⟨.ref h'.objs.size,_,I2,rfl,q _ ss' (I1.hok.fresh (AM _)) a2 a3⟩⟩
end
section
variable{X:Cx}{pins:List (Addr×Obj)}{σ:List (Option V)}{H:Hp}{s:AN}
theorem Inv.freeze{d:Addr}{kvs:List (Key×V)}(I:Inv X pins σ H s)(e:H d=some (.dK kvs)):∃o,Inv X pins σ (upd H d (.eZ o (.dK kvs))) s:=by
 obtain⟨hz,lo,vs,rel,dd⟩:=zA I.hok e
 obtain⟨o,es,ep,ho,r⟩:=id dd
 exact⟨o,I.write (x:=d) (e:=d) (o:=.eZ o (.dK kvs)) (h':=s.heap) (t':=s.toks) (by rw[e];trivial) (.inl rfl) (λb u _ q=>q) ⟨o,ho⟩ ⟨ho,hz,lo,vs,rel,dd⟩⟩
theorem Inv.frozen{d:Addr}{kvs:List (Key×V)}{o:Obj}(I:Inv X pins σ H s)(e:H d=some (.eZ o (.dK kvs))):∃vs es ep,KV kvs vs/\o.data=.dict es ep/\s.heap.DictAt (bf X.prog X.w) d vs ep/\(d == Ba)=false:=by
 obtain⟨ho,hz,lo,vs,rel,dd⟩:=(show bN X.prog X.w H s.heap d (.eZ o (.dK kvs)) from I.hok d _ e)
 obtain⟨o2,es,ep,ho2,r1,r2,r3⟩:=id dd
 have:o2=o:=by rw[ho] at ho2;exact(AS ho2).symm
 subst this
 exact⟨vs,es,ep,rel,r2,⟨o2,es,ho2,r1,r2,r3⟩,lo⟩
end
theorem Xr{k:Key}{v:Value}(h:oA k v=true):RelV (kV k) v:=by
 rcases cI h with⟨i,t,rfl,rfl⟩ | ⟨x,t,rfl,rfl⟩
 ·exact⟨t,rfl⟩
 ·exact⟨t,rfl⟩
theorem abe{kvs:List (Key×V)}{vs:List (Key×Value)}(r:KV kvs vs){i:Nat}{k:Key}{v:V}(e:kvs[i]? =some (k,v)):∃u,vs[i]? =some (k,u)/\RelV v u:=by
 unfold KV at r
 induction r generalizing i with
 | nil=>simp at e
 | @cons p q ps qs h t ih=>
  cases i with
  | zero=>
   have e':p=(k,v):=by simpa using e
   subst e'
   obtain⟨q1,q2⟩:=q
   obtain⟨h1,h2⟩:=h
   cases(show k=q1 from h1)
   exact⟨q2,rfl,h2⟩
  | succ i=>exact ih (by simpa using e)
def Lo(d:Addr)(o:Obj)(kvs:List (Key×V)):It:=
 ⟨λi H=>H d=some (.eZ o (.dK kvs))/\i<kvs.length,λi H x H'=>H'=H/\∃k v,kvs[i]? =some (k,v)/\x=kV k,λi H=>H d=some (.eZ o (.dK kvs))/\kvs.length<=i⟩
theorem Oc{P:Ah}{w:World}{K:AB}{tg:Expr}(d it:Addr)(o:Obj)(kvs:List (Key×V)):
  Turn P w K tg (Lo d o kvs) [it] it (λi h=>∃es ep,o.data=.dict es ep/\h.IsKeyIter it d i kvs.length ep) where
 mem:=by simp
 obj:=λi h st b hb=>by
  have e:b=it:=by simpa using hb
  subst e
  obtain⟨_,_,_,o,e,c,d⟩:=st
  exact⟨o,e,λv z=>by rw[d] at z;cases z⟩
 keep:=λi h h' st k=>by
  obtain⟨es,ep,h1,st⟩:=st
  exact⟨es,ep,h1,st.at λo e=>k it (by simp) o e⟩
 item:=by
  intro X hP hw hK hc i pins s σ H E I hf st hg
  subst hP hw hK
  obtain⟨es,ep,h1,st⟩:=st
  obtain⟨hH,hi⟩:=hg
  obtain⟨vs,es',ep',rel,h2,da,lo⟩:=I.frozen hH
  have ee:ep'=ep:=by rw[h1] at h2;cases h2;rfl
  subst ee
  have hl:kvs.length=vs.length:=rel.length
  obtain⟨⟨k,v⟩,hk⟩:∃p,kvs[i]? =some p:=⟨kvs[i],by simp[hi]⟩
  obtain⟨u,hu,ru⟩:=abe rel hk
  obtain⟨f0,f1,f2,f3,f4,f5⟩:=hf it (by simp)
  rw[hl] at st
  refine wpAny_pyNext_dict_item st da hu λkey h' hkey st' sb=>?_
  have I1:Inv X pins σ H {s with heap:=h'}:=I.turned (t':=s.toks) (λb o hb e=>(sb.2 b hb).trans e) f0 f1 f3 f4 f5
  obtain⟨o',e,c,d'⟩:=id st'
  rw[<-hl] at st'
  exact⟨key,rfl,vp (s:={s with heap:=h'}) e c d' (by decide) ⟨kV k,H,I1,Xr hkey,⟨rfl,k,v,hk,rfl⟩,⟨es,ep',h1,st'⟩,λb hb=>(hf b hb).1⟩⟩
 done:=by
  intro X hP hw hK hc i pins s σ H E I hf st hg
  subst hP hw hK
  obtain⟨es,ep,h1,st⟩:=st
  obtain⟨hH,hi⟩:=hg
  obtain⟨vs,es',ep',rel,h2,da,lo⟩:=I.frozen hH
  have ee:ep'=ep:=by rw[h1] at h2;cases h2;rfl
  subst ee
  have hl:kvs.length=vs.length:=rel.length
  rw[hl] at st
  obtain⟨f0,f1,f2,f3,f4,f5⟩:=hf it (by simp)
  exact wpAny_pyNext_dict_end (I.ok.hd hc) st da (Cj (by omega)) λh' eb=>⟨rfl,I.turned (t':=s.toks) (λb o hb e=>eb b o hb e) f0 f1 f3 f4 f5⟩
 self:=λ_ _ _ _ _ st h=>by
  obtain⟨_,_,_,st⟩:=st
  exact wpAny_pyIter_keyiter st h
section
variable{X:Cx}{tg:Expr}
def Xs(tl:TE):TI:=λσ H R=>tl σ H λx H1=>∃d kvs,x=.ref d/\H1 d=some (.dK kvs)/\∀o,R (Lo d o kvs) (upd H1 d (.eZ o (.dK kvs)))
theorem Ri{l:Expr}{tl:TE}(hl:PE X l tl):PI X tg l (Xs tl):=by
 intro pins s σ H R I h
 refine aQ (hl pins s σ H _ I h) ?_
 rintro v s1 ⟨x,H0,I0,r1,q1⟩
 obtain⟨d,kvs,e,hd0,q0⟩:=q1
 subst e
 cases r1
 obtain⟨o,I1⟩:=I0.freeze hd0
 have q:=q0 o
 have hd:(upd H0 d (.eZ o (.dK kvs))) d=some (.eZ o (.dK kvs)):=af
 generalize upd H0 d (.eZ o (.dK kvs))=H1 at I1 q hd
 obtain⟨vs,es,ep,rel,h2,da,lo⟩:=I1.frozen hd
 have hl':kvs.length=vs.length:=rel.length
 refine wpAny_pyIter_dict lo da ?_
 refine⟨s1.heap.objs.size,[s1.heap.objs.size],_,_,H1,rfl,I1.kept (t':=s1.toks) λb o e=>AE _ e,Oc d _ o kvs,⟨es,ep,h2,⟨_,AV _ rfl,rfl,by rw[hl'];rfl⟩⟩,λb hb=>?_,q⟩
 have e:b=s1.heap.objs.size:=by simpa using hb
 subst e
 exact I1.m7 (AM _) (I1.hok.fresh (AM _))
end
theorem Rj{d:Addr}{ob:Obj}{kvs:List (Key×V)}{g:TG}{tb:TS}{D:Ends}{σ:St}{H:Hp}(Pv:Nat->St->Hp->Prop)(h0:Pv 0 σ H)(hl:∀i σ H,i<=kvs.length->Pv i σ H->H d=some (.eZ ob (.dK kvs)))
  (hs:∀i k v σ H,kvs[i]? =some (k,v)->Pv i σ H->g (kV k) σ H λσ2 H2=>tb {D with nx:=Pv (i+1),ct:=Pv (i+1),bk:=D.nx} σ2 H2) (hd:∀σ H,Pv kvs.length σ H->D.nx σ H):
  ∃W:Nat->Nat->St->Hp->Prop,(∃m,W 0 m σ H)/\∀i m σ H,W i m σ H->
   ((Lo d ob kvs).stop i H/\D.nx σ H)∨((Lo d ob kvs).go i H/\∃N:St->Hp->Prop,(∀σ' H',N σ' H'->∃m',m'<m/\W (i+1) m' σ' H')/\∀x H',(Lo d ob kvs).uc i H x H'->g x σ H' λσ2 H2=>tb {D with nx:=N,ct:=N,bk:=D.nx} σ2 H2):=by
 refine⟨λi m σ H=>m=kvs.length-i/\i<=kvs.length/\Pv i σ H,⟨kvs.length,by simp,A6 _,h0⟩,?_⟩
 rintro i m σ H ⟨rfl,hi,p⟩
 have q:=hl i σ H hi p
 by_cases hlt:i<kvs.length
 ·refine .inr ⟨⟨q,hlt⟩,Pv (i+1),λσ' H' p'=>⟨kvs.length-(i+1),by omega,rfl,hlt,p'⟩,λx H' y=>?_⟩
  obtain⟨rfl,k,v,hk,rfl⟩:=y
  exact hs i k v σ H' hk p
 ·have e:i=kvs.length:=by omega
  subst e
  exact .inl ⟨⟨q,AM _⟩,hd σ H p⟩
section
variable{X:Cx}
def abf:List V->Hp->VK->Prop:=λxs H Q=>∃(d:Addr) (kvs:List (Key×V)),xs=[.ref d]/\Rd H d (.dK kvs)/\∀p,H p=none->Q (.ref p) (upd H p (.dK kvs))
theorem Mz:cY X (.type "dict") abf:=by
 intro pins s σ H xs us Q I r h
 obtain⟨d,kvs,rfl,hd,q⟩:=h
 obtain⟨u,rfl,ru⟩:=vals1 r
 cases ru
 obtain⟨hz,lo,vs,rel,dd⟩:=oE I.hok hd
 have hl:kvs.length=vs.length:=rel.length
 refine kt_call_dict lo dd (by omega) λh' dn sb=>?_
 have kp:∀b u,s.heap.get? b=some u->h'.get? b=some u:=λb u e=>(sb.2 b (Al (AR e))).trans (AE _ e)
 have bg:(s.heap.objs.size == Ba)=false:=beq_eq_false_iff_ne.mpr (C1 (Al I.big))
 exact⟨.ref s.heap.objs.size,_,I.laid (a:=s.heap.objs.size) (o:=.dK kvs) (t':=s.toks) kp (AM _) ⟨hz,bg,vs,rel,dn⟩,rfl,q _ (I.hok.fresh (AM _))⟩
end
section
variable{X:Cx}{pins:List (Addr×Obj)}{σ:List (Option V)}{H:Hp}{s:AN}{h':Heap}
theorem Inv.Lp{t':Nat}{ch:List Addr}(I:Inv X pins σ H s)(hf:∀b∈ch,i6 X pins H b)(k:∀b u,b ∉ ch->s.heap.get? b=some u->h'.get? b=some u):Inv X pins σ H {s with heap:=h',toks:=t'}:=by
 have rO:∀b u,H b=some u->b ∉ ch:=λb u e z=>by have q:=(hf b z).1;rw[e] at q;cases q
 refine I.step (g':=s.gens) (d':=s.drawn) (ch:=ch) (λb hb=>?_) (λb o _ _ hc e _=>k b o hc e) (λb o _ _ hc e _=>⟨o.slots,k b o hc e⟩) (λ_ _ _ _ n=>n)
  (λb o hc e=>⟨o,k b o hc e⟩) (λ_ _ e=>e) (λ_ _ _ e=>e) (λb ps e=>⟨#[],by rw[e];simp⟩) (λm hm=>?_) (λb u e=>?_) I.bare
 ·obtain⟨f0,f1,f2,f3,f4,f5⟩:=hf b hb
  exact⟨f3,f1,f4,f5⟩
 ·obtain⟨ob,es,ep,ho,r⟩:=hm
  exact⟨ob,es,ep,k _ ob (λz=>(hf _ z).2.1 rfl) ho,r⟩
 ·refine(I.hok b u e).stay (λc v hc q=>k c v ?_ q) (λ_ q=>q) λ_ _ q=>q
  rcases hc with z | z
  ·rw[z];exact rO b u e
  ·exact rO c _ z
end
def Xt(K:AB)(a b:Addr):It:=
 ⟨λi H=>∃xs ys x y,bM K H a xs/\bM K H b ys/\xs[i]? =some x/\ys[i]? =some y,
  λi H v H'=>∃x y p,(∀xs,bM K H a xs->xs[i]? =some x)/\(∀ys,bM K H b ys->ys[i]? =some y)/\H p=none/\v=.ref p/\H'=upd H p (.tup [x,y]),
  λi H=>∃xs ys,bM K H a xs/\bM K H b ys/\(xs.length<=i∨ys.length<=i)⟩
theorem Rk{P:Ah}{w:World}{K:AB}{elts:List Expr}{x1}{tpos:Pos}(a b z TI TO i1 i2:Addr)(D:G0 z TI TO i1 i2 a b):
  Turn P w K (.Tuple elts x1 tpos) (Xt K a b) [z,TO,i1,i2,TI] z (λi h=>IsZip h z TI TO .none/\Cm h TI (.ref i1) (.ref i2)/\(∃x y,Cm h TO x y)/\h.IsListIter i1 a i/\h.IsListIter i2 b i) where
 mem:=by simp
 obj:=λi h st c hc=>by
  obtain⟨hz,hTI,⟨x,y,hTO⟩,h1,h2⟩:=st
  have hc':c=z∨c=TO∨c=i1∨c=i2∨c=TI:=by simpa using hc
  rcases hc' with q | q | q | q | q
  ·subst q;exact⟨_,hz,λv e=>nomatch e⟩
  ·subst q;exact⟨_,hTO,λv e=>nomatch e⟩
  ·subst q
   obtain⟨o,e,_,d⟩:=h1
   exact⟨o,e,λv q=>by rw[d] at q;cases q⟩
  ·subst q
   obtain⟨o,e,_,d⟩:=h2
   exact⟨o,e,λv q=>by rw[d] at q;cases q⟩
  ·subst q;exact⟨_,hTI,λv e=>nomatch e⟩
 keep:=λi h h' st k=>by
  obtain⟨hz,hTI,⟨x,y,hTO⟩,h1,h2⟩:=st
  exact⟨k z (by simp) _ hz,k TI (by simp) _ hTI,⟨x,y,k TO (by simp) _ hTO⟩,h1.at λo q=>k i1 (by simp) o q,h2.at λo q=>k i2 (by simp) o q⟩
 item:=by
  intro X hP hw hK hc i pins s σ H E I hf st hg
  subst hP hw hK
  obtain⟨hz,hTI,⟨u1,u2,hTO⟩,h1,h2⟩:=st
  obtain⟨xs,ys,x,y,hq,hq2,hx,hy⟩:=hg
  obtain⟨its,rv,p,_⟩:=I.list hq
  obtain⟨its2,rb,p2,_⟩:=I.list hq2
  obtain⟨u,hu,ru⟩:=rv.get hx
  obtain⟨v,hv,rv'⟩:=rb.get hy
  refine wpAny_pyNext_zip_item D hz hTI hTO h1 h2 p.isList p2.isList (x:=u) (y:=v) (by simpa using hu) (by simpa using hv) λh1' a1 a2 a3 a4 a5 a6 kk=>?_
  have nn:H s.heap.objs.size=none:=I.hok.fresh (AM _)
  have Ii:∀c∈[z,TO,i1,i2],i6 X pins H c:=λc hc=>hf c (by
   have hc':c=z∨c=TO∨c=i1∨c=i2:=by simpa using hc
   rcases hc' with q | q | q | q<;>simp[q])
  have I1:Inv X pins σ (upd H s.heap.objs.size (.tup [x,y])) {s with heap:=h1',toks:=s.toks}:=
   I.uE (ch:=[z,TO,i1,i2]) Ii (λc o hc q=>kk c o (λe=>hc (by simp[e])) (λe=>hc (by simp[e])) (λe=>hc (by simp[e])) (λe=>hc (by simp[e])) q) (AM _)
    ⟨⟨by show 2<=sizeLine;decide,_,a5,rfl⟩,[u,v],.cons ru (.cons rv' .nil),⟨_,a5,rfl,_,rfl⟩⟩
  have lz:z<s.heap.objs.size:=AR hz
  have Xu:TI<s.heap.objs.size:=AR hTI
  have Xv:TO<s.heap.objs.size:=AR hTO
  have l1:i1<s.heap.objs.size:=by obtain⟨o,q,_⟩:=id h1;exact AR q
  have l2:i2<s.heap.objs.size:=by obtain⟨o,q,_⟩:=id h2;exact AR q
  refine⟨_,rfl,FO a1 λh2' e2 sb=>?_⟩
  obtain⟨f0,f1,f2,f3,f4,f5⟩:=hf z (by simp)
  have I2:=I1.turned (h':=h2') (t':=s.toks) (it:=z) (λc o hc q=>(sb.2 c hc).trans q) (by rw[aB (Al lz)];exact f0) f1 f3 f4 f5
  refine⟨.ref s.heap.objs.size,_,I2,rfl,⟨x,y,s.heap.objs.size,λzs hy=>by rw[I.ki hy hq];exact hx,λzs hz'=>by rw[I.ki hz' hq2];exact hy,nn,rfl,rfl⟩,
   ⟨e2,(sb.2 TI D.TIz).trans (kk _ _ D.TIz D.TITO D.TIi1 D.TIi2 hTI),⟨_,_,(sb.2 TO D.TOz).trans a2⟩,a3.at λo q=>(sb.2 i1 D.i1z).trans q,a4.at λo q=>(sb.2 i2 D.i2z).trans q⟩,λc hc=>?_⟩
  have hlt:c<s.heap.objs.size:=by
   have hc':c=z∨c=TO∨c=i1∨c=i2∨c=TI:=by simpa using hc
   rcases hc' with q | q | q | q | q
   ·rw[q];exact lz
   ·rw[q];exact Xv
   ·rw[q];exact l1
   ·rw[q];exact l2
   ·rw[q];exact Xu
  rw[aB (Al hlt)]
  exact(hf c hc).1
 done:=by
  intro X hP hw hK hc i pins s σ H E I hf st hg
  subst hP hw hK
  obtain⟨hz,hTI,⟨u1,u2,hTO⟩,h1,h2⟩:=st
  obtain⟨xs,ys,hq,hq2,hx⟩:=hg
  obtain⟨its,rv,p,_⟩:=I.list hq
  obtain⟨its2,rb,p2,_⟩:=I.list hq2
  have hl:=rv.length
  have hl2:=rb.length
  have hend:its.toArray[i]? =none∨its2.toArray[i]? =none:=by
   rcases hx with q | q
   ·exact .inl (by simp;omega)
   ·exact .inr (by simp;omega)
  have Ii:∀c∈[z,TO,i1,i2],i6 X pins H c:=λc hc=>hf c (by
   have hc':c=z∨c=TO∨c=i1∨c=i2:=by simpa using hc
   rcases hc' with q | q | q | q<;>simp[q])
  exact wpAny_pyNext_zip_end (I.ok.hd hc) D hz hTI hTO h1 h2 p.isList p2.isList hend λh' kk=>
   ⟨rfl,I.Lp (t':=s.toks) (ch:=[z,TO,i1,i2]) Ii (λc o hc q=>kk c o (λe=>hc (by simp[e])) (λe=>hc (by simp[e])) (λe=>hc (by simp[e])) (λe=>hc (by simp[e])) q)⟩
 self:=λ_ _ _ _ _ st h=>EY st.1 h
def aeq(K:AB)(ta:TA):TI:=λσ H R=>ta σ H λvs H1=>∃a b,vs=[.ref a,.ref b]/\(∃xs,bM K H1 a xs)/\(∃ys,bM K H1 b ys)/\R (Xt K a b) H1
theorem Xw{X:Cx}{elts:List Expr}{x1}{tpos:Pos}{a b:Expr}{ta:TA}{p pos:Pos}(hg:Gl X "zip")(hm:X.mg "zip"=none)(ha:PA X [a,b] ta)
  (hs:BE [a,b] X.env=[(false,eval a X.env),(false,eval b X.env)]:=by rfl) (hs2:BE [b] X.env=[(false,eval b X.env)]:=by rfl):
  PI X (.Tuple elts x1 tpos) (.Call (.Name "zip" p) [a,b] [] pos) (aeq X.K ta):=by
 intro pins s σ H R I h
 refine Call_ (i9 I hg hm boot_zip (BP (aQ (ha pos pins s σ H _ I h) ?_) (by rw[hs,hs2]) (by rw[hs2];rfl)))
 rintro us s1 ⟨vs,H1,I1,r1,q1⟩
 obtain⟨l1,l2,e,⟨xs,hq⟩,⟨ys,hq2⟩,q⟩:=q1
 subst e
 cases r1 with
 | cons r rr=>
  cases rr with
  | cons r' rr=>
   cases rr
   cases r
   cases r'
   obtain⟨its,rv,pl,_⟩:=I1.list hq
   obtain⟨its2,rb,Od,_⟩:=I1.list hq2
   have a1:l1<s1.heap.objs.size:=by obtain⟨_,e,_⟩:=pl.isList;exact AR e
   have a2:l2<s1.heap.objs.size:=by obtain⟨_,e,_⟩:=Od.isList;exact AR e
   refine call_zip_2 pl.isList Od.isList λh' hz hTI hTO hi1 hi2 hsz kk=>?_
   have I2:Inv X pins σ H1 {s1 with heap:=h'}:=I1.kept (t':=s1.toks) kk
   refine EY hz ?_
   refine⟨s1.heap.objs.size+4,[s1.heap.objs.size+4,s1.heap.objs.size+3,s1.heap.objs.size,s1.heap.objs.size+1,s1.heap.objs.size+2],_,_,H1,rfl,I2,Rk l1 l2 _ _ _ _ _ (zipApart_new a1 a2),⟨hz,hTI,⟨_,_,hTO⟩,hi1,hi2⟩,λc hc=>?_,q⟩
   have hle:s1.heap.objs.size<=c:=by
    have hc':c=s1.heap.objs.size+4∨c=s1.heap.objs.size+3∨c=s1.heap.objs.size∨c=s1.heap.objs.size+1∨c=s1.heap.objs.size+2:=by simpa using hc
    rcases hc' with q | q | q | q | q<;>(rw[q];first | exact Ft _ _ | exact AM _)
   exact I1.m7 hle (I1.hok.fresh hle)
theorem VE(t:SetTable)(es:Array (Int×Value))(h:Int)(x:Value):(layNew t es h x).2.1.led=t.led:=by
 unfold layNew
 split
 ·unfold SetTable.put SetTable.orStandIn SetTable.standIn
  dsimp only
  repeat' split
  all_goals rfl
 ·rfl
theorem Oe(t:SetTable)(es:Array (Int×Value))(n:Nat):(relayAll t es n).2.1.led=t.led:=by
 unfold relayAll
 split
 ·rename_i q r e
  unfold Hu SetTable.laid at e
  dsimp only
  split
  ·simp only[HB,CQ,Option.pure_def,Hf,Fh] at e
   obtain⟨_,_,e1,_⟩:=e
   rw[<-e1]
  ·rfl
 ·rfl
theorem KN{t:SetTable}(es:Array (Int×Value))(n:Nat)(hp:t.plain=false):(relayAll t es n).2.1.plain=false:=by
 unfold relayAll
 split
 ·rename_i q r e
  unfold Hu SetTable.laid at e
  dsimp only
  split
  ·simp only[HB,CQ,Option.pure_def,Hf,Fh] at e
   obtain⟨_,_,e1,_⟩:=e
   rw[<-e1]
   exact hp
  ·rfl
 ·rfl
structure dv (P:Ah)(w:World)(h:Heap)(a:Addr)(es:Array (Int×Value))(ep:Nat)(t:SetTable)(ks:List Str):Prop where
 obj:∃o,h.get? a=some o/\o.ExactSet/\o.data=.set es ep t
 elems:ElemsOf (strKind P w) es.toList
 small:es.size<E2
 fits:t.fits es.size=true
 led:t.led= !w.params.followText "set-order"
 plain:es.size≠0->t.plain=false
 vals:Cs (es.toList.map (·.2)) ks
 once:ks.Nodup
theorem dv.at{P:Ah}{w:World}{h h':Heap}{a:Addr}{es:Array (Int×Value)}{ep:Nat}{t:SetTable}{ks:List Str}(s:dv P w h a es ep t ks)(k:∀o,h.get? a=some o->h'.get? a=some o):dv P w h' a es ep t ks:=by
 obtain⟨o,e,r⟩:=s.obj
 exact⟨⟨o,k o e,r⟩,s.elems,s.small,s.fits,s.led,s.plain,s.vals,s.once⟩
theorem dv.len{P:Ah}{w:World}{h:Heap}{a:Addr}{es:Array (Int×Value)}{ep:Nat}{t:SetTable}{ks:List Str}(s:dv P w h a es ep t ks):es.size=ks.length:=by
 have:=s.vals.length
 rw[AA,A_] at this
 exact this
theorem oJ{vs us:List Value}(p:vs.Perm us):∀{ks:List Str},Cs us ks->∃ks',Cs vs ks'/\ks'.Perm ks:=by
 induction p with
 | nil=>intro ks h;cases h;exact⟨[],.nil,.refl _⟩
 | cons x _ ih=>
  intro ks h
  cases h with
  | cons y tk r=>
   obtain⟨k',a,b⟩:=ih r
   exact⟨y::k',.cons y tk a,b.cons y⟩
 | swap x y l=>
  intro ks h
  cases h with
  | cons a ta r=>
   cases r with
   | cons b tb r=>exact⟨b::a::_,.cons b tb (.cons a ta r),.swap a b _⟩
 | trans _ _ ih1 ih2=>
  intro ks h
  obtain⟨k1,a1,b1⟩:=ih2 h
  obtain⟨k2,a2,b2⟩:=ih1 a1
  exact⟨k2,a2,b2.trans b1⟩
theorem Rm{us vs:List Value}{ks ls:List Str}(h1:Cs us ks)(h2:Cs vs ls):Cs (us++vs) (ks++ls):=by
 induction h1 with
 | nil=>exact h2
 | cons x tk _ ih=>exact .cons x tk ih
theorem Rn{us:List Value}{ks:List Str}(h:Cs us ks){x:Str}:x∈ks↔∃tk,ES x tk∈us:=by
 induction h with
 | nil=>simp
 | cons y tk _ ih=>
  constructor
  ·intro m
   rcases Ae.mp m with e | m
   ·exact⟨tk,by rw[e];exact AL⟩
   ·obtain⟨t',m'⟩:=ih.mp m
    exact⟨t',AJ _ m'⟩
  ·rintro⟨t',m⟩
   rcases Ae.mp m with e | m
   ·injection e with e1 _
    rw[e1];exact AL
   ·exact AJ _ (ih.mpr ⟨t',m⟩)
section
variable{P:Ah}{w:World}{A:BB}{E:Value->AN->Prop}{s:AN}
theorem Ro{a:Addr}{es:Array (Int×Value)}{ep:Nat}{t:SetTable}{ks:List Str}{x:Str}{tk:Tok}{Q:Bool->AN->Prop}(S:dv P w s.heap a es ep t ks)(room:ks.length+1<E2)
  (hold:x∈ks->Q false s)
  (hnew:x ∉ ks->∀h' es' ep' t' ks',C9 a s.heap h'->dv P w h' a es' ep' t' ks'->(∀y,y∈ks'↔y∈ks∨y=x)->ks'.length=ks.length+1->Q true {s with heap:=h'}):
  wpAny (model P w) A (setAddHashed a (.str x tk) (hashStr w x)) Q E s:=by
 obtain⟨o,ho,hex,hd⟩:=S.obj
 have hln:=S.len
 have isx:(strKind P w).is x (.str x tk)=true:=HV P w x tk
 have Xx:(ES x tk).scannable=true:=rfl
 have hhash:hashStr w x=(strKind P w).hash x:=rfl
 rw[hhash]
 unfold setAddHashed setAddHashedIn
 refine Bp (AD (Ct ho hd S.fits ?_))
 dsimp only
 rw[byScan_of Xx S.small S.elems,if_pos rfl]
 unfold setAddByScan
 refine AD (AD (DB (AD (wpAny_setScan_of isx ho hd S.fits S.elems ?_))))
 have Xy:x∈ks↔∃e∈es.toList,(strKind P w).is x e.2=true:=by
  rw[Rn S.vals]
  constructor
  ·rintro⟨t',m⟩
   obtain⟨e,he,e2⟩:=AZ.mp m
   exact⟨e,he,by rw[e2];exact HV P w x t'⟩
  ·rintro⟨e,he,hi⟩
   obtain⟨t',e2⟩:=G9 (x:=x) (v:=e.2) hi
   exact⟨t',by rw[<-e2];exact AZ.mpr ⟨e,he,rfl⟩⟩
 cases hr:List.findIdx? (λe=>(strKind P w).is x e.2) es.toList with
 | some j=>
  dsimp only
  obtain⟨hj,hpj,_⟩:=List.findIdx?_eq_some_iff_getElem.mp hr
  exact AO (AO (hold (Xy.mpr ⟨_,C5 hj,hpj⟩)))
 | none=>
  dsimp only
  have nk:x ∉ ks:=λm=>by
   obtain⟨e,he,hp⟩:=Xy.mp m
   have:=List.findIdx?_eq_none_iff.mp hr e he
   rw[hp] at this
   cases this
  have hperm:=layNew_perm t es ((strKind P w).hash x) (.str x tk)
  have hfits:=layNew_fits t es ((strKind P w).hash x) (.str x tk)
  have MA:=VE t es ((strKind P w).hash x) (.str x tk)
  generalize layNew t es ((strKind P w).hash x) (.str x tk)=L at hperm hfits MA ⊢
  obtain⟨es1,t1,wasDummy,gave⟩:=L
  dsimp only at hperm hfits MA ⊢
  rw[Array.toList_push] at hperm
  have el1:ElemsOf (strKind P w) es1.toList:=(S.elems.push isx Xx).perm hperm
  have sz1:es1.size=es.size+1:=by rw[<-A_,hperm.length_eq,AK,A_];rfl
  have sm1:es1.size<E2:=by omega
  obtain⟨yi,v1,p1⟩:=oJ (hperm.map (·.2)) (ks:=ks++[x]) (by rw[AI];exact Rm S.vals (.cons x tk .nil))
  have on1:yi.Nodup:=p1.nodup_iff.mpr (CS.mpr ⟨S.once,by simp,λy hy z hz=>by rw[AW.mp hz];exact λe=>nk (e▸hy)⟩)
  have Xz:∀y,y∈yi↔y∈ks∨y=x:=λy=>by rw[p1.mem_iff,Ac,AW]
  have oK:yi.length=ks.length+1:=by rw[p1.length_eq,AK];rfl
  have fin:∀t2:SetTable,t2.fits es1.size=true->t2.led=t.led->t2.plain=false->
    wpAny (model P w) A (do
     Hg a es1 t2
     if(!wasDummy&&t2.tooFull)=true then do
       (match (relayAll t2 es1 (Bw es1.size)).2.2 with | true=>rule "set.scan.the-table-gave-way" | false=>pure ())
       Hg a (relayAll t2 es1 (Bw es1.size)).1 (relayAll t2 es1 (Bw es1.size)).2.1
       pure (some true)
      else pure (some true)) (λr s'=>r=some true/\Q true s') E s:=λt2 f2 l2 p2=>by
   refine AD (wpAny_storeSet_of ho hd ?_ (EG sm1))
   have hg:(s.heap.update a (FF es1 t2)).get? a=some {o with data:=.set es1 (ep+1) t2}:=by
    have q:=CC (FF es1 t2) ho (by rw[putSet_of es1 t2 hd];rfl)
    rw[putSet_of es1 t2 hd] at q
    exact q
   have sb1:=Dg s.heap a (FF es1 t2)
   have S1:dv P w (s.heap.update a (FF es1 t2)) a es1 (ep+1) t2 yi:=⟨⟨_,hg,hex,rfl⟩,el1,sm1,f2,by rw[l2];exact S.led,λ_=>p2,v1,on1⟩
   split
   ·have pr:=relayAll_perm t2 es1 (Bw es1.size)
    have fr:=relayAll_fits t2 es1 (Bw es1.size)
    have lr:=Oe t2 es1 (Bw es1.size)
    have XA:=KN es1 (Bw es1.size) p2
    generalize relayAll t2 es1 (Bw es1.size)=Rl at pr fr lr XA ⊢
    obtain⟨es2,t3,gv⟩:=Rl
    dsimp only at pr fr lr XA ⊢
    have sz2:es2.size=es1.size:=by rw[<-A_,pr.length_eq,A_]
    have sm2:es2.size<E2:=by omega
    obtain⟨Og,v2,p2'⟩:=oJ (pr.map (·.2)) v1
    refine AD ?_
    have rest:wpAny (model P w) A (do Hg a es2 t3;pure (some true)) (λr s'=>r=some true/\Q true s') E {s with heap:=s.heap.update a (FF es1 t2)}:=by
     refine AD (wpAny_storeSet_of hg rfl (AO ⟨rfl,?_⟩) (EG sm2))
     have hg2:=CC (FF es2 t3) hg (by rw[putSet_of es2 t3 rfl];rfl)
     rw[putSet_of es2 t3 rfl] at hg2
     exact hnew nk _ es2 (ep+1+1) t3 Og (sb1.trans (Dg _ a _)) ⟨⟨_,hg2,hex,rfl⟩,el1.perm pr,sm2,by rw[sz2] at fr ⊢;exact fr,by rw[lr,l2];exact S.led,λ_=>XA,v2,p2'.nodup_iff.mpr on1⟩
      (λy=>by rw[p2'.mem_iff];exact Xz y) (by rw[p2'.length_eq];exact oK)
    cases gv
    ·exact AO rest
    ·exact DB rest
   ·exact AO ⟨rfl,hnew nk _ es1 (ep+1) t2 yi sb1 S1 Xz oK⟩
  refine AD ?_
  have rest:wpAny (model P w) A (do
    let byValue <-if t1.plain=true then hashByValue 8 (.str x tk) else pure true
    Hg a es1 (if byValue=true then t1 else {t1 with plain:=false})
    if(!wasDummy&&(if byValue=true then t1 else {t1 with plain:=false}).tooFull)=true then do
      (match (relayAll (if byValue=true then t1 else {t1 with plain:=false}) es1 (Bw es1.size)).2.2 with | true=>rule "set.scan.the-table-gave-way" | false=>pure ())
      Hg a (relayAll (if byValue=true then t1 else {t1 with plain:=false}) es1 (Bw es1.size)).1 (relayAll (if byValue=true then t1 else {t1 with plain:=false}) es1 (Bw es1.size)).2.1
      pure (some true)
     else pure (some true)) (λr s'=>r=some true/\Q true s') E s:=by
   cases hpl:t1.plain with
   | true=>
    rw[if_pos rfl,hashByValue_scannable 8 Xx]
    refine AD (AO ?_)
    exact fin {t1 with plain:=false} (SetTable.fits_plain_off hfits) MA rfl
   | false=>
    rw[if_neg (by decide)]
    refine AD (AO ?_)
    exact fin t1 hfits MA hpl
  have go:∀r s',(r=some true/\Q true s')->wpAny (model P w) A (match r with | some added=>pure added | none=>setAddHashedIn a (.str x tk) ((strKind P w).hash x) 99999) Q E s':=λr s' ⟨e,q⟩=>by
   subst e
   exact AO q
  cases gave
  ·exact AO (aQ rest go)
  ·exact DB (aQ rest go)
end
theorem tP{us:List Value}{xs:List Str}(hi:Cs us xs):∀(i:Nat) (v:Value),us[i]? =some v->∃x t,xs[i]? =some x/\v=.str x t:=by
 induction hi with
 | nil=>intro i v hv;simp at hv
 | cons y ty _ ih=>
  intro i v hv
  cases i with
  | zero=>
   have e:ES y ty=v:=by simpa using hv
   exact⟨y,ty,rfl,e.symm⟩
  | succ i=>exact ih i v (by simpa using hv)
section
variable{P:Ah}{w:World}{A:BB}{R:Result->AN->Prop}{I S:Addr}{fp wr:List Addr}{G:Array Gm->Array Gm->Prop}{n:Nat}{Pv:Nat->Value->Prop}{St:Nat->AN->Prop}
theorem Rp(W:WalksS P w A.in1 I fp wr G n Pv St)(hSf:S ∉ fp)(xs:List Str)(hxl:xs.length=n)(hval:∀i v,Pv i v->∃x t,xs[i]? =some x/\v=.str x t)(hb:n+1<E2):
  ∀(k i:Nat) (s:AN) (es:Array (Int×Value)) (ep:Nat) (t:SetTable) (ks:List Str),n-i=k->i<=n->St i s->dv P w s.heap S es ep t ks->(∀y,y∈ks↔y∈xs.take i)->ks.length<=i->
   (∀s' es' ep' t' ks',Moved (S::wr) G s s'->dv P w s'.heap S es' ep' t' ks'->(∀y,y∈ks'↔y∈xs)->ks'.length<=n->R (.ok (.ret .none)) s')->
   Ea (model P w) A (.builtin "set.update.loop" ⟨[.ref S,.ref I],[]⟩) R s:=by
 have hSw:S ∉ wr:=λz=>hSf (W.sub _ z)
 have more:∀b∈wr,b∈S::wr:=λb z=>AJ _ z
 intro k
 induction k with
 | zero=>
  intro i s es ep t ks hk hi st hS hm hl hR
  have e:i=n:=by omega
  subst e
  refine CU Dh ?_
  rw[B5 Bs]
  show wpAny (model P w) A.in1 (DH (.ref I) >>= _) _ _ s
  refine AD (W.done s _ _ st λs' mv=>?_)
  show wpAny (model P w) A.in1 (ret Bz) _ _ s'
  refine AO (hR s' es ep t ks (mv.mono more) (hS.at λo q=>mv.heap S o hSw q) (λy=>?_) hl)
  rw[hm y,Bg (by omega)]
 | succ k ih=>
  intro i s es ep t ks hk hi st hS hm hl hR
  have lt:i<n:=by omega
  refine CU Dh ?_
  rw[B5 Bs]
  show wpAny (model P w) A.in1 (DH (.ref I) >>= _) _ _ s
  refine AD (W.item i s _ _ lt st λv s' hv st' mv=>?_)
  obtain⟨x,tx,ex,rfl⟩:=hval i v hv
  have hS':dv P w s'.heap S es ep t ks:=hS.at λo q=>mv.heap S o hSw q
  have tk1:∀y,y∈xs.take (i+1)↔y∈xs.take i∨y=x:=λy=>by rw[DO,ex];simp
  show wpAny (model P w) A.in1 (holding [ES x tx] (setAdd S (.str x tx)) >>= _) _ _ s'
  refine AD (Bp ?_)
  unfold setAdd
  refine Bp (AD ((strKind P w).pyHash (k:=x) (HV _ _ _ _) ?_))
  refine Ro (s:={s' with toks:=s'.toks+1}) hS' (by omega) (λhx=>?_) (λhx h' es' ep' t' ks' sb S2 m2 l2=>?_)
  ·refine AO ⟨CY Bs _,ih (i+1) _ es ep t ks (by omega) lt (W.frame _ s' s'.heap _ st' (B' _) λb _ o q=>q) hS' (λy=>?_) (by omega) λs2 es2 XB t2 Og mv2 S2 m2 l2=>?_⟩
   ·rw[hm y,tk1 y]
    constructor
    ·exact .inl
    ·rintro(z | z)
     ·exact z
     ·rw[z];exact(hm x).mp hx
   ·exact hR s2 es2 XB t2 Og (Ho W.gtrans ((mv.mono more).then_heap (B' _) λb o _ q=>q) mv2) S2 m2 l2
  ·refine AO ⟨CY Bs _,ih (i+1) _ es' ep' t' ks' (by omega) lt (W.frame _ s' h' _ st' (B' _) λb hb o q=>?_) S2 (λy=>?_) (by omega) λs2 es2 XB t2 Og mv2 S2 m2 l2=>?_⟩
   ·exact(sb.2 b (λz=>hSf (z▸hb))).trans q
   ·rw[m2 y,hm y,tk1 y]
   ·exact hR s2 es2 XB t2 Og (Ho W.gtrans ((mv.mono more).then_heap (B' _) λb o hb q=>(sb.2 b (λz=>hb (z▸AL))).trans q) mv2) S2 m2 l2
end
section
variable{P:Ah}{w:World}{A:BB}{E:Value->AN->Prop}{s:AN}
abbrev fQ (w:World):Obj:={cls:=.type "set",dict:=none,data:=.set #[] 0 (.fresh 0 0 (!w.params.followText "set-order"))}
theorem Rq(v:Value){Q:Value->AN->Prop}(h:Q (.ref s.heap.objs.size) {s with heap:=s.heap.push (fQ w)}):
  Ea (model P w) A (.call (.builtin "set.__new__") ⟨[.type "set",v],[]⟩) (wants Q E) s:=by
 refine codeAny_of_tree ?_
 show wpAny (model P w) A.in1 (do checkBuiltinCall "set.__new__" ⟨[.type "set",v],[]⟩;again (.builtin "set.__new__" ⟨[.type "set",v],[]⟩)) _ _ s
 refine AD (wpAny_of_eq (PySem.F.newCall_set_1 v) (AO ⟨CY GZ _,CU PySem.F.entry_set_new ?_⟩))
 rw[B5 GZ]
 unfold Builtin.«set.__new__» Builtin.Frozenset.newClass
 have hsub:=sub_set_self
 obtain⟨hp,g,d,tk,os⟩:=s
 dsimp only
 wp_walk
 refine Fu (AO ?_)
 dsimp only
 simp only[newObj]
 exact AD (wpAny_alloc (AO (AO h)))
theorem Oh(h:Heap):dv P w (h.push (fQ w)) h.objs.size #[] 0 (.fresh 0 0 (!w.params.followText "set-order")) []:=
 ⟨⟨_,AV _ rfl,⟨rfl,rfl,rfl⟩,rfl⟩,λe he=>(by simp at he),by decide,rfl,rfl,λz=>absurd rfl z,.nil,by simp⟩
theorem Ij{l:Addr}{its:Array Value}{xs:List Str}{Q:Value->AN->Prop}(hh:A.handled=none)(hl:s.heap.IsList l its)(hi:Cs its.toList xs)(hb:its.size+1<E2)
  (h:∀(h':Heap) (tk:Nat) es ep t ks,dv P w h' s.heap.objs.size es ep t ks->(∀y,y∈ks↔y∈xs)->ks.length<=its.size->(∀b o,b<s.heap.objs.size->s.heap.get? b=some o->h'.get? b=some o)->Q (.ref s.heap.objs.size) {s with heap:=h',toks:=tk}):
  wpAny (model P w) A (call (.type "set") [.ref l]) Q E s:=by
 obtain⟨c,tl,hmro⟩:=B3.mro
 have hmade:=B3.made
 have hsub:=B3.sub
 refine wpAny_call (codeAny_of_tree ?_)
 show wpAny _ _ (callAny (.type "set") _) _ _ _
 refine AO ⟨Code.quiet_builtin _ (by decide+kernel),CU PySem.F.entry_type_call ?_⟩
 rw[Around.under_plain (weight_type_call_type "set" [.ref l] []) rfl]
 have a1:=B3.notType
 have a2:=B3.canCreate
 have a3:=PySem.F.typeCall_set_1 (.ref l)
 repeat (any_goals (first | assumption | wp_step))
 refine EA (Rq (.ref l) (E:=E) (Q:=λobj s₁=>obj=.ref s.heap.objs.size/\s₁={s with heap:=s.heap.push (fQ w)}) ⟨rfl,rfl⟩) λr s₁ hr=>?_
 cases r with
 | error e=>exact hr
 | ok fl=>
  cases fl with
  | ret obj=>
   obtain⟨rfl,rfl⟩:=hr
   have gS:(s.heap.push (fQ w)).get? s.heap.objs.size=some (fQ w):=AV _ rfl
   have hT:Fi {s with heap:=s.heap.push (fQ w)} (.ref s.heap.objs.size) "set":=⟨_,gS,rfl⟩
   have a4:=B3.init.lookup
   have a5:=B3.init.bind (.ref s.heap.objs.size)
   repeat (any_goals (first | assumption | wp_step))
   refine EA (codeAny_call_builtin (R:=wants (λr s₂=>r=.none/\∃h' tk es ep t ks,s₂={s with heap:=h',toks:=tk}/\dv P w h' s.heap.objs.size es ep t ks/\(∀y,y∈ks↔y∈xs)/\ks.length<=its.size/\
     (∀b o,b<s.heap.objs.size->s.heap.get? b=some o->h'.get? b=some o)) E) B3.init.plain PySem.F.entry_set_init (check_set_init_1 hT ?_)) λr₂ s₂ hr₂=>?_
   ·obtain⟨ol,hol,hcl,nl,hdl⟩:=hl
    obtain⟨ocls,odict,odata,oslots⟩:=ol
    simp only at hcl hdl
    subst hcl hdl
    have hol':(s.heap.push (fQ w)).get? l=some {cls:=.type "list",dict:=odict,data:=.seq its nl,slots:=oslots}:=AE _ hol
    have b1:=PySem.F.sub_list_set
    have b2:=PySem.F.sub_list_frozenset
    have b3:(HN "list" == HN "dict")=false:=by decide
    have hl1:(s.heap.push (fQ w)).IsList l its:=⟨_,hol',rfl,nl,rfl⟩
    unfold Builtin.«set.__init__» noKeywords Builtin.Frozenset.updateFrom
    generalize hPI:pyIter=PI
    wp_walk
    subst hPI
    refine D9 hl1 ?_
    refine AD (wpAny_runValue ?_)
    have lS:l<s.heap.objs.size:=AR hol
    have hh3:A.in1.in1.in1.handled=none:=by simp[hh]
    have yj:l≠(s.heap.push (fQ w)).objs.size:=by rw[BG];exact Al (CP lS)
    have nf:s.heap.objs.size ∉ [(s.heap.push (fQ w)).objs.size,l]:=by
     rw[BG]
     simp only[Ae,Bq,or_false,not_or]
     exact⟨Al (CZ _),CH lS⟩
    have hxl:xs.length=its.size:=by rw[<-hi.length,A_]
    have hval:∀(i:Nat) (v:Value),its[i]? =some v->∃x t,xs[i]? =some x/\v=.str x t:=λi v hv=>tP hi i v (by rw[BZ];exact hv)
    refine Rp ((Walks.list hh3 _ l yj its).toS) nf xs hxl hval hb (its.size-0) 0 _ #[] 0 _ [] (by omega) (A6 _) ⟨⟨_,AV _ rfl,rfl,rfl⟩,hl1.push _⟩ ((Oh s.heap).at λo q=>AE _ q) (λy=>by simp) (AM _) ?hR
    case hR=>
     intro s' es' ep' t' ks' hm hS' hmem hlen
     obtain⟨h',g',d',tk',os'⟩:=s'
     have eg:g'=s.gens:=hm.gens
     have ed:d'=s.drawn:=hm.drawn
     have eo:os'=s.os:=hm.os
     subst eg ed eo
     show wpAny _ _ _ _ _ _
     refine AO ?_
     show wpAny _ _ (ret Bz) _ _ _
     refine AO ⟨rfl,h',tk',es',ep',t',ks',rfl,hS',hmem,hlen,λb o hb e=>?_⟩
     refine hm.heap b o ?_ (AE _ (AE _ e))
     simp only[Ae,Bq,or_false,not_or]
     rw[BG]
     exact⟨Al hb,Al (CP hb)⟩
   ·cases r₂ with
    | error e=>exact hr₂
    | ok fl₂=>
     cases fl₂ with
     | ret r=>
      obtain⟨rfl,h',tk,es,ep,t,ks,rfl,hS',hm,hln,hk'⟩:=hr₂
      repeat (any_goals (first | assumption | wp_step))
      exact h _ _ _ _ _ _ hS' hm hln hk'
     | _=>exact hr₂.elim
  | _=>exact hr.elim
end
namespace SI
theorem Oi:Manifest.owners.lookup (String.ofList ['r', 'o', 't', 'a', 'r', 'e', 't', 'i', '_', 't', 'e', 's'].reverse)=some Manifest.sig_set_iterator:=by kernel_rfl
theorem slot_next:Slot "set_iterator" "__next__" "set_iterator.__next__":=
 .of (owner:="set_iterator") (n:="__next__") (by rw[DF,CB];kernel_rfl) (by decide+kernel) (by decide+kernel) (by decide+kernel)
  (by first | exact .inl (by decide+kernel) | exact .inr (by decide+kernel)) (by rw[FD];kernel_rfl)
theorem yk:Slot "set_iterator" "__iter__" "set_iterator.__iter__":=
 .of (owner:="set_iterator") (n:="__iter__") (by rw[DF,CB];kernel_rfl) (by decide+kernel) (by decide+kernel) (by decide+kernel)
  (by first | exact .inl (by decide+kernel) | exact .inr (by decide+kernel)) (by rw[FD];kernel_rfl)
theorem entry_next:entryFor table "set_iterator.__next__"=some Builtin.«set_iterator.__next__» :=entryFor_of_tree (by kernel_rfl)
theorem MB:entryFor table "set_iterator.__iter__"=some Builtin.«dict_keyiterator.__iter__» :=
 entryFor_alias (id':="dict_keyiterator.__iter__") (by kernel_rfl) (by first | rfl | decide+kernel | (unfold String.splitOn;simp+decide [Hh])) (by decide+kernel) (by kernel_rfl)
theorem args_next(v:Value):argsOk "set_iterator.__next__" ⟨[v],[]⟩:=by
 unfold argsOk;rw[signature?_of (id:="set_iterator.__next__") (n:=['_', '_', 't', 'x', 'e', 'n', '_', '_']) (o:=['r', 'o', 't', 'a', 'r', 'e', 't', 'i', '_', 't', 'e', 's']) (by kernel_rfl) Oi];kernel_rfl
theorem Oj(v:Value):argsOk "set_iterator.__iter__" ⟨[v],[]⟩:=by
 unfold argsOk;rw[signature?_of (id:="set_iterator.__iter__") (n:=['_', '_', 'r', 'e', 't', 'i', '_', '_']) (o:=['r', 'o', 't', 'a', 'r', 'e', 't', 'i', '_', 't', 'e', 's']) (by kernel_rfl) Oi];kernel_rfl
theorem wZ:entryFor table "set.__iter__"=some Builtin.«frozenset.__iter__» :=
 entryFor_alias (id':="frozenset.__iter__") (by kernel_rfl) (by first | rfl | decide+kernel | (unfold String.splitOn;simp+decide [Hh])) (by decide+kernel) (by kernel_rfl)
end SI
abbrev ny (h:Heap)(I:Addr)(F:Array Value):Prop:=h.get? I=some {cls:=.type "set_iterator",dict:=none,data:=.fields F,slots:= #[]}
section
variable{P:Ah}{w:World}{A:BB}{E:Value->AN->Prop}{s:AN}
theorem w_{I:Addr}{F:Array Value}{Q:Value->AN->Prop}(hI:ny s.heap I F)(h:Q (.ref I) s):wpAny (model P w) A (pyIter (.ref I)) Q E s:=by
 have hT:s.TypeIs (.ref I) "set_iterator":=⟨_,hI,rfl⟩
 refine wpAny_pyIter_slot hT SI.yk (BS SI.yk hT SI.MB ?_ (SI.Oj _))
 show wpAny (model P w) _ (ret (.ref I)) _ _ s
 exact AO ⟨_,rfl,"set_iterator",_,hT,SI.slot_next.lookup,h⟩
theorem Lq{I a:Addr}{sl i ep':Nat}{es:Array (Int×Value)}{ep:Nat}{t:SetTable}{ks:List Str}{v:Value}{nx:Nat}{Q:Option Value->AN->Prop}(hI:ny s.heap I #[A3 sl,A3 i,.ref a,A3 es.size,A3 ep'])
  (S:dv P w s.heap a es ep t ks) (hn:∀(B:BB) (E':Value->AN->Prop) (Q':Option (Value×Nat)->AN->Prop),Q' (some (v,nx)) s->wpAny (model P w) B (Hi a sl i ep') Q' E' s)
  (h:∀h',ny h' I #[A3 nx,A3 (i+1:Nat),.ref a,A3 es.size,A3 ep']->C9 I s.heap h'->Q (some v) {s with heap:=h'}):wpAny (model P w) A (DH (.ref I)) Q E s:=by
 have hT:s.TypeIs (.ref I) "set_iterator":=⟨_,hI,rfl⟩
 obtain⟨o,ho,hex,hd⟩:=S.obj
 unfold DH
 refine AD (Dl (BO (name:=CJ "__next__") hT SI.slot_next (BS SI.slot_next hT SI.entry_next ?_ (SI.args_next _))))
 refine AD (AO ?_)
 refine AD (FG hI rfl ?_)
 refine AD (C2 ho hd S.fits ?_)
 rw[if_neg (by simp[A3])]
 dsimp only[A3]
 rw[Au,Au,Au]
 refine AD (hn _ _ _ ?_)
 dsimp only
 refine AD (Bh hI (by simp) λh1 e1 b1=>?_)
 refine AD (Bh e1 (by simp) λh2 e2 b2=>?_)
 refine AO ⟨v,rfl,AO (h h2 ?_ (b1.trans b2))⟩
 simpa[A3] using e2
theorem Lr{I:Addr}{F:Array Value}{k0:Option Nat}{Q:Option Value->AN->Prop}(hh:A.handled=none)(hI:ny s.heap I F)(hk:2<F.size)(h:∀h',Ef I s.heap h'->Q none {s with heap:=h'}):
  wpAny (model P w) A.in1 (do setField (.ref I) 2 .none;raiseNew (<-newExc (.type "StopIteration") []))
   (λfin s'=>∃v,fin=Fin.done (Flow.ret v)/\wpAny (model P w) A (pure (some v)) Q E s')
   (λe s'=>wpAny (model P w) A (do if <-isInstance e (.type "StopIteration") then pure none else throw e) Q E s') s:=by
 refine AD (Bh hI hk λh1 e1 b1=>?_)
 refine AD ?_
 simp only[newExc,newTuple]
 refine AD (BX ?_ (by size_fits))
 refine AD (m:=FE _ _) (wpAny_of_eq (a:=Bz) (by first | rfl | (simp only[FE];rfl)) ?_)
 refine BX ?_ (by size_fits)
 simp only[raiseNew]
 refine AD (wpAny_handled ?_)
 rw[show A.in1.handled=none from hh]
 refine AD (AO (wpAny_throw ?_))
 refine AD (EX (T:="StopIteration") (b:=true) ⟨_,AV _ rfl,rfl⟩ isSubtype_stop ?_)
 exact AO (h _ ((b1.extBut.push _).push _))
theorem Ol{I a:Addr}{sl i ep':Nat}{es:Array (Int×Value)}{ep:Nat}{t:SetTable}{ks:List Str}{Q:Option Value->AN->Prop}(hh:A.handled=none)(hI:ny s.heap I #[A3 sl,A3 i,.ref a,A3 es.size,A3 ep'])
  (S:dv P w s.heap a es ep t ks) (hn:∀(B:BB) (E':Value->AN->Prop) (Q':Option (Value×Nat)->AN->Prop),Q' none s->wpAny (model P w) B (Hi a sl i ep') Q' E' s)
  (h:∀h',Ef I s.heap h'->Q none {s with heap:=h'}):wpAny (model P w) A (DH (.ref I)) Q E s:=by
 have hT:s.TypeIs (.ref I) "set_iterator":=⟨_,hI,rfl⟩
 obtain⟨o,ho,hex,hd⟩:=S.obj
 unfold DH
 refine AD (Dl (BO (name:=CJ "__next__") hT SI.slot_next (BS SI.slot_next hT SI.entry_next ?_ (SI.args_next _))))
 refine AD (AO ?_)
 refine AD (FG hI rfl ?_)
 refine AD (C2 ho hd S.fits ?_)
 rw[if_neg (by simp[A3])]
 dsimp only[A3]
 rw[Au,Au,Au]
 refine AD (hn _ _ _ ?_)
 dsimp only
 exact Lr (k0:=none) hh hI (by simp) h
theorem yl{T:Addr}{xs:Array Value}{B:BB}{E':Value->AN->Prop}{Q':Option (Array Value)->AN->Prop}(hT:s.heap.get? T=some {cls:=.type "tuple",data:=.seq xs})(h:Q' (some xs) s):wpAny (model P w) B (G7 (.ref T)) Q' E' s:=by
 unfold G7
 dsimp only
 refine AD (wpAny_load hT ?_)
 exact AO h
theorem VF{I a T:Addr}{i p:Nat}{es:Array (Int×Value)}{ep:Nat}{t:SetTable}{ks:List Str}{hv:Int}{v:Value}{ord:List Nat}{Q:Option Value->AN->Prop}(hI:ny s.heap I #[.ref T,A3 i,.ref a,A3 es.size,A3 ep])
  (hT':s.heap.get? T=some {cls:=.type "tuple",data:=.seq (ord.map λ(i:Nat)=>A3 i).toArray}) (S:dv P w s.heap a es ep t ks) (hp:ord[i]? =some p) (he:es[p]? =some (hv,v))
  (h:∀h',ny h' I #[.ref T,A3 (i+1:Nat),.ref a,A3 es.size,A3 ep]->C9 I s.heap h'->Q (some v) {s with heap:=h'}):wpAny (model P w) A (DH (.ref I)) Q E s:=by
 have hT:s.TypeIs (.ref I) "set_iterator":=⟨_,hI,rfl⟩
 obtain⟨o,ho,hex,hd⟩:=S.obj
 unfold DH
 refine AD (Dl (BO (name:=CJ "__next__") hT SI.slot_next (BS SI.slot_next hT SI.entry_next ?_ (SI.args_next _))))
 refine AD (AO ?_)
 refine AD (FG hI rfl ?_)
 refine AD (C2 ho hd S.fits ?_)
 rw[if_neg (by simp[A3])]
 dsimp only[A3]
 refine AD (yl hT' ?_)
 dsimp only
 have e1:(ord.map λ(i:Nat)=>A3 i).toArray[((i:Nat):Int).toNat]? =some (A3 p):=by
  rw[Au,DI,AU,hp];rfl
 rw[e1]
 dsimp only[A3]
 refine AD ?_
 unfold setNextDrawn
 refine AD (Ct ho hd S.fits ?_)
 dsimp only
 rw[Au,Au,if_neg (by simp),he]
 refine AO ?_
 refine AD (Bh hI (by simp) λh1 e1 b1=>?_)
 refine AO ⟨v,rfl,AO (h h1 ?_ b1)⟩
 simpa[A3] using e1
theorem XC{I a T:Addr}{i:Nat}{es:Array (Int×Value)}{ep:Nat}{t:SetTable}{ks:List Str}{ord:List Nat}{Q:Option Value->AN->Prop}(hh:A.handled=none)(hI:ny s.heap I #[.ref T,A3 i,.ref a,A3 es.size,A3 ep])
  (hT':s.heap.get? T=some {cls:=.type "tuple",data:=.seq (ord.map λ(i:Nat)=>A3 i).toArray}) (S:dv P w s.heap a es ep t ks) (hp:ord[i]? =none)
  (h:∀h',Ef I s.heap h'->Q none {s with heap:=h'}):wpAny (model P w) A (DH (.ref I)) Q E s:=by
 have hT:s.TypeIs (.ref I) "set_iterator":=⟨_,hI,rfl⟩
 obtain⟨o,ho,hex,hd⟩:=S.obj
 unfold DH
 refine AD (Dl (BO (name:=CJ "__next__") hT SI.slot_next (BS SI.slot_next hT SI.entry_next ?_ (SI.args_next _))))
 refine AD (AO ?_)
 refine AD (FG hI rfl ?_)
 refine AD (C2 ho hd S.fits ?_)
 rw[if_neg (by simp[A3])]
 dsimp only[A3]
 refine AD (yl hT' ?_)
 dsimp only
 have e1:(ord.map λ(i:Nat)=>A3 i).toArray[((i:Nat):Int).toNat]? =none:=by
  rw[Au,DI,AU,hp];rfl
 rw[e1]
 dsimp only
 refine AD (Bh hI (by simp) λh1 e1 b1=>?_)
 exact Lr (s:={s with heap:=h1}) (k0:=none) hh e1 (by simp) λh2 x=>h h2 (λc o hc q=>x c o hc (b1.extBut c o hc q))
theorem tQ{a:Addr}{Q:Bool->AN->Prop}(h:Q (w.params.followText "set-order") s):wpAny (model P w) A setsByText Q E s:=by
 unfold setsByText
 exact AD (Fu (AO h))
theorem ym{a:Addr}{es:Array (Int×Value)}{ep:Nat}{t:SetTable}{ks:List Str}{sl i:Nat}{Q:Option (Value×Nat)->AN->Prop}(S:dv P w s.heap a es ep t ks)(hb:w.params.followText "set-order"=true)
  (h:Q (((Fv (w.params.setOrder a ep) es)[i]?).map λe=>(e.2,sl)) s):wpAny (model P w) A (Hi a sl i ep) Q E s:=by
 obtain⟨o,ho,hex,hd⟩:=S.obj
 unfold Hi
 refine AD (Ct ho hd S.fits ?_)
 dsimp only
 refine AD (tQ (a:=a) ?_)
 rw[hb,if_pos rfl,if_neg (by simp)]
 refine AD ?_
 unfold setWalk
 refine AD (Ct ho hd S.fits ?_)
 dsimp only
 refine AD (tQ (a:=a) ?_)
 rw[hb,if_pos rfl]
 refine AD (Fu (AO ?_))
 exact AO h
theorem Ik{a:Addr}{es:Array (Int×Value)}{ep:Nat}{t:SetTable}{ks:List Str}{sl i:Nat}{Q:Option (Value×Nat)->AN->Prop}(S:dv P w s.heap a es ep t ks)(hb:w.params.followText "set-order"=false)(h1:es.size<=1)
  (h:Q (match es[Ce t.place sl]?,t.place[Ce t.place sl]? with | some (_,x),some j=>some (x,j+1) | _,_=>none) s):wpAny (model P w) A (Hi a sl i ep) Q E s:=by
 obtain⟨o,ho,hex,hd⟩:=S.obj
 have hl:t.led=true:=by rw[S.led,hb];rfl
 unfold Hi
 refine AD (Ct ho hd S.fits ?_)
 dsimp only
 refine AD (tQ (a:=a) ?_)
 rw[hb,if_neg (by decide)]
 refine Dx (λhab=>?_) (λ_=>?_)
 ·have hab':(!t.plain&&decide (es.size>1))=true:=hab
  simp at hab'
  omega
 refine AD ?_
 show wpAny (model P w) A (if(!t.led&& !es.isEmpty)=true then unsupported _ else pure ()) _ _ s
 rw[hl,if_neg (by simp)]
 exact AO (AO h)
end
theorem yn{α:Type}(f:Nat->Nat):∀(n k:Nat) (l:List α) (out:Array α),l.length=n->(Hj f n k l out).toList.Perm (out.toList++l)
 | 0,k,l,out,h=>by
  have:l=[]:=Fw.mp h
  subst this
  unfold Hj
  rw[A8]
 | n+1,k,l,out,h=>by
  have lt:f k % l.length<l.length:=CV _ (by omega)
  unfold Hj
  rw[As lt]
  dsimp only
  refine(yn f n (k+1) _ _ (by rw[FH lt];omega)).trans ?_
  rw[Array.toList_push,Cu]
  refine List.Perm.append_left _ ?_
  have e:l=l.take (f k % l.length)++l[f k % l.length]::l.drop (f k % l.length+1):=by rw[<-FP lt,Ga]
  rw[ER]
  conv=>rhs;rw[e]
  show(l[f k % l.length]::(l.take (f k % l.length)++l.drop (f k % l.length+1))).Perm _
  exact List.perm_middle.symm
section
variable{P:Ah}{w:World}{A:BB}{E:Value->AN->Prop}
theorem yo{α:Type}:∀(n:Nat) (l:List α) (s:AN) (Q:List α->AN->Prop),l.length=n->(∀ys d',ys.Perm l->Q ys {s with drawn:=d'})->wpAny (model P w) A (drawOrder n l) Q E s
 | 0,l,s,Q,hl,h=>by
  have:l=[]:=Fw.mp hl
  subst this
  unfold drawOrder
  exact AO (h [] s.drawn (.refl _))
 | n+1,[],s,Q,hl,h=>by cases hl
 | n+1,x::l,s,Q,hl,h=>by
  unfold drawOrder
  have go:∀i,i<(x::l).length->wpAny (model P w) A (match (x::l)[i]? with | some y=>do return y::(<-drawOrder n ((x::l).eraseIdx i)) | none=>unsupported "internal:drawOrder") Q E {s with drawn:=s.drawn.bump .order}:=λi hi=>by
   rw[As hi]
   dsimp only
   refine AD (yo n _ _ _ (by rw[FH hi];omega) λys d' p=>AO ?_)
   refine h _ d' ?_
   have e:(x::l)=(x::l).take i++(x::l)[i]::(x::l).drop (i+1):=by rw[<-FP hi,Ga]
   refine(p.cons _).trans ?_
   rw[ER]
   conv=>rhs;rw[e]
   exact List.perm_middle.symm
  refine AD ?_
  exact λ_ _ hΓ=>⟨by simp,go _ (CV _ (by simp))⟩
end
section
variable{P:Ah}{w:World}{A:BB}{E:Value->AN->Prop}{s:AN}
abbrev TR (ks:List Str):Nat->Value->Prop:=λi v=>∃x tk,ks[i]? =some x/\v=.str x tk
theorem Om{I a:Addr}{es:Array (Int×Value)}{ep:Nat}{t:SetTable}{ks ks':List Str}(hh:A.handled=none)(hne:a≠I)(hb:w.params.followText "set-order"=true)
  (hv:Cs ((Fv (w.params.setOrder a ep) es).toList.map (·.2)) ks') (hl:ks'.length=es.size):
  Walks P w A I [I,a] [I] es.size (TR ks') (λi h=>ny h I #[A3 0,A3 i,.ref a,A3 es.size,A3 ep]/\dv P w h a es ep t ks) where
 sub:=λb hb=>by simp at hb;simp[hb]
 frame:=λ_ _ _ st hk=>⟨hk I (by simp) _ st.1,st.2.at λo q=>hk a (by simp) o q⟩
 item:=λi s Q E hi st hQ=>by
  have hsz:(Fv (w.params.setOrder a ep) es).size=es.size:=by rw[<-A_,<-AA (f:=(·.2)),hv.length,hl]
  obtain⟨e,he⟩:∃e,(Fv (w.params.setOrder a ep) es)[i]? =some e:=⟨_,BW (by omega)⟩
  refine Lq (sl:=0) (v:=e.2) (nx:=0) st.1 st.2 (λB E' Q' q=>ym st.2 hb (by rw[he];exact q)) λh' e1 b1=>hQ e.2 h' s.toks ?_ ⟨e1,st.2.at λo q=>(b1.2 a hne).trans q⟩ λb o hb q=>(b1.2 b (by simpa using hb)).trans q
  obtain⟨x,tk,ex,ev⟩:=tP hv i e.2 (by rw[AU,BZ,he];rfl)
  exact⟨x,tk,ex,ev⟩
 done:=λs Q E st hQ=>by
  have hsz:(Fv (w.params.setOrder a ep) es).size=es.size:=by rw[<-A_,<-AA (f:=(·.2)),hv.length,hl]
  have he:(Fv (w.params.setOrder a ep) es)[es.size]? =none:=EH (by omega)
  exact Ol (sl:=0) hh st.1 st.2 (λB E' Q' q=>ym st.2 hb (by rw[he];exact q)) λh' x=>hQ h' s.toks λb o hb q=>x b o (by simpa using hb) q
 self:=λ_ _ _ _ st hQ=>w_ st.1 hQ
theorem MC{I a T:Addr}{es:Array (Int×Value)}{ep:Nat}{t:SetTable}{ks ks':List Str}{ord:List Nat}(hh:A.handled=none)(hne:a≠I)(hTI:T≠I)(hp:ord.Perm (A9 es.size))
  (hv:Cs (ord.map λp=>(es.getD p (0,.none)).2) ks'):
  Walks P w A I [I,a,T] [I] es.size (TR ks') (λi h=>ny h I #[.ref T,A3 i,.ref a,A3 es.size,A3 ep]/\dv P w h a es ep t ks/\h.get? T=some {cls:=.type "tuple",data:=.seq (ord.map λ(i:Nat)=>A3 i).toArray}) where
 sub:=λb hb=>by simp at hb;simp[hb]
 frame:=λ_ _ _ st hk=>⟨hk I (by simp) _ st.1,st.2.1.at λo q=>hk a (by simp) o q,hk T (by simp) _ st.2.2⟩
 item:=λi s Q E hi st hQ=>by
  have lo:ord.length=es.size:=by rw[hp.length_eq,B8]
  obtain⟨p,ho⟩:∃p,ord[i]? =some p:=⟨_,As (by omega)⟩
  have hlt:p<es.size:=Bv.mp (hp.mem_iff.mp (AG ho))
  have he:es[p]? =some ((es.getD p (0,.none)).1,(es.getD p (0,.none)).2):=by
   rw[BW hlt,Ez,BW hlt];rfl
  refine VF st.1 st.2.2 st.2.1 ho he λh' e1 b1=>hQ _ h' s.toks ?_ ⟨e1,st.2.1.at λo q=>(b1.2 a hne).trans q,(b1.2 T hTI).trans st.2.2⟩ λb o hb q=>(b1.2 b (by simpa using hb)).trans q
  obtain⟨x,tk,ex,ev⟩:=tP hv i _ (by rw[AU,ho];rfl)
  exact⟨x,tk,ex,ev⟩
 done:=λs Q E st hQ=>by
  have lo:ord.length=es.size:=by rw[hp.length_eq,B8]
  exact XC hh st.1 st.2.2 st.2.1 (Cj (by omega)) λh' x=>hQ h' s.toks λb o hb q=>x b o (by simpa using hb) q
 self:=λ_ _ _ _ st hQ=>w_ st.1 hQ
theorem ME(p:Nat):Ce #[p] 0=0:=by
 unfold Ce
 simp[Hk]
theorem MF(p:Nat):Ce #[p] (p+1)=1:=by
 unfold Ce
 simp[Hk]
theorem Rt{I a:Addr}{es:Array (Int×Value)}{ep:Nat}{t:SetTable}{ks:List Str}(hh:A.handled=none)(hne:a≠I)(hb:w.params.followText "set-order"=false)(h1:es.size<=1)(hf:t.fits es.size=true)(hv:Cs (es.toList.map (·.2)) ks):
  Walks P w A I [I,a] [I] es.size (TR ks) (λi h=>ny h I #[A3 (if i=0 then 0 else t.place.getD 0 0+1:Nat),A3 i,.ref a,A3 es.size,A3 ep]/\dv P w h a es ep t ks) where
 sub:=λb hb=>by simp at hb;simp[hb]
 frame:=λ_ _ _ st hk=>⟨hk I (by simp) _ st.1,st.2.at λo q=>hk a (by simp) o q⟩
 item:=λi s Q E hi st hQ=>by
  have i0:i=0:=by omega
  subst i0
  have sz:es.size=1:=by omega
  have tp:t.place.size=1:=by
   unfold SetTable.fits at hf
   simp only[Bc,beq_iff_eq] at hf
   omega
  obtain⟨p,hp⟩:∃p,t.place= #[p]:=Gb.mp tp
  obtain⟨e,he⟩:∃e,es[0]? =some e:=⟨_,BW (by omega)⟩
  refine Lq (sl:=0) (v:=e.2) (nx:=p+1) st.1 st.2 (λB E' Q' q=>Ik st.2 hb h1 ?_) λh' e1 b1=>hQ e.2 h' s.toks ?_ ⟨?_,st.2.at λo q=>(b1.2 a hne).trans q⟩ λb o hb q=>(b1.2 b (by simpa using hb)).trans q
  ·rw[hp,ME,he]
   exact q
  ·obtain⟨x,tk,ex,ev⟩:=tP hv 0 e.2 (by rw[AU,BZ,he];rfl)
   exact⟨x,tk,ex,ev⟩
  ·rw[hp]
   exact e1
 done:=λs Q E st hQ=>by
  refine Ol hh st.1 st.2 (λB E' Q' q=>Ik st.2 hb h1 ?_) λh' x=>hQ h' s.toks λb o hb q=>x b o (by simpa using hb) q
  by_cases z:es.size=0
  ·have ez:es= #[]:=Array.size_eq_zero_iff.mp z
   rw[ez]
   simpa using q
  ·have sz:es.size=1:=by omega
   have tp:t.place.size=1:=by
    unfold SetTable.fits at hf
    simp only[Bc,beq_iff_eq] at hf
    omega
   obtain⟨p,hp⟩:∃p,t.place= #[p]:=Gb.mp tp
   rw[if_neg z,hp]
   show Q' (match es[Ce #[p] (p+1)]?,(#[p]:Array Nat)[Ce #[p] (p+1)]? with | some (_,x),some j=>some (x,j+1) | _,_=>none) _
   rw[MF,EH (by omega)]
   exact q
 self:=λ_ _ _ _ st hQ=>w_ st.1 hQ
theorem MG{a:Addr}{es:Array (Int×Value)}{ep:Nat}{t:SetTable}{ks:List Str}{Q:Value->AN->Prop}(S:dv P w s.heap a es ep t ks)
  (h:∀(I:Addr) (h1:Heap) (d1:Drawn) (fx:List Addr) (ks':List Str) (St:Nat->Heap->Prop),ks'.Perm ks->s.heap.objs.size<=I->I<h1.objs.size->(∀b∈fx,s.heap.objs.size<=b/\b<h1.objs.size)->(∀b o,s.heap.get? b=some o->h1.get? b=some o)->St 0 h1->
   (∀B:BB,B.handled=none->Walks P w B I (I::a::fx) [I] es.size (TR ks') St)->Q (.ref I) {s with heap:=h1,drawn:=d1}):
  wpAny (model P w) A (pyIter (.ref a)) Q E s:=by
 obtain⟨o,ho,hex,hd⟩:=S.obj
 have hT:s.TypeIs (.ref a) "set":=⟨o,ho,hex.1⟩
 have la:a<s.heap.objs.size:=AR ho
 have hsz:=S.len
 refine wpAny_pyIter_slot hT Gd (BS Gd hT SI.wZ ?_ (PySem.F.args_set_iter_1 _))
 unfold Builtin.«frozenset.__iter__» Builtin.Frozenset.slot0 slotArgs
 simp only[List.isEmpty_nil,Bool.not_true,Bool.false_eq_true, ↓reduceIte,bind_assoc,DD,bne_self_eq_false]
 unfold Builtin.Frozenset.addrOf Builtin.Frozenset.sizeOf
 refine AD (AO ?_)
 try dsimp only
 refine AD (AO ?_)
 refine AD (AD (C2 ho hd S.fits (AO ?_)))
 unfold setDrawn
 refine AD (AD (Ct ho hd S.fits ?_))
 dsimp only
 refine AD (tQ (a:=a) (AO ?_))
 refine Dx (λhab=>?_) (λhab=>?_)
 ·have hab':(!w.params.followText "set-order"&&(!t.plain&&decide (es.size>1)))=true:=hab
  refine AD (yo _ _ _ _ (B8) λys d' p=>?_)
  have ly:ys.length=es.size:=by rw[p.length_eq,B8]
  refine AD (wpAny_newTuple ?_ (by rw[AA,ly];exact EG S.small))
  have hoT:(s.heap.push {cls:=.type "tuple",data:=.seq (ys.map λ(i:Nat)=>A3 i).toArray}).get? s.heap.objs.size=some {cls:=.type "tuple",data:=.seq (ys.map λ(i:Nat)=>A3 i).toArray}:=AV _ rfl
  have Oo:(s.heap.push {cls:=.type "tuple",data:=.seq (ys.map λ(i:Nat)=>A3 i).toArray}).objs.size=s.heap.objs.size+1:=BG ..
  refine AD (wpAny_setEpoch_of (s:={s with heap:=s.heap.push {cls:=.type "tuple",data:=.seq (ys.map λ(i:Nat)=>A3 i).toArray},drawn:=d'}) (AE _ ho) hd S.fits ?_)
  have SS:dv P w (s.heap.push {cls:=.type "tuple",data:=.seq (ys.map λ(i:Nat)=>A3 i).toArray}) a es ep t ks:=S.at λo q=>AE _ q
  have old:∀b o,s.heap.get? b=some o->(s.heap.push {cls:=.type "tuple",data:=.seq (ys.map λ(i:Nat)=>A3 i).toArray}).get? b=some o:=λb o q=>AE _ q
  generalize s.heap.push {cls:=.type "tuple",data:=.seq (ys.map λ(i:Nat)=>A3 i).toArray}=h1 at hoT Oo SS old ⊢
  refine AD (BX (AO ⟨_,rfl,"set_iterator",_,⟨_,AV _ rfl,rfl⟩,SI.slot_next.lookup,?_⟩))
  have ent:((A9 es.size).map λp=>(es.getD p (0,.none)).2)=es.toList.map (·.2):=by
   apply List.ext_getElem?
   intro i
   rw[AU,AU,show es.toList[i]? =es[i]? from BZ]
   by_cases hi:i<es.size
   ·rw[List.getElem?_range hi,BW hi]
    show some (es.getD i (0,.none)).2=some es[i].2
    rw[Ez,BW hi];rfl
   ·rw[Cj (by rw[B8];omega),EH (by omega)];rfl
  obtain⟨ks',v',p'⟩:=oJ (p.map λp=>(es.getD p (0,.none)).2) (ks:=ks) (by rw[ent];exact S.vals)
  refine h h1.objs.size (h1.push _) d' [s.heap.objs.size] ks' _ p' (by rw[Oo];exact B' _) (by rw[BG];exact CZ _) (λb hb=>?_) (λb o q=>AE _ (old b o q)) ?_ (λB hB=>MC (ep:=ep) (t:=t) (ks:=ks) hB ?_ ?_ p v')
  ·rw[AW.mp hb,BG,Oo]
   exact⟨AM _,CP (CZ _)⟩
  ·exact⟨AV _ rfl,SS.at λo q=>AE _ q,AE _ hoT⟩
  ·rw[Oo];exact Al (CP la)
  ·rw[Oo];exact Al (CZ _)
 ·have hab':¬(!w.params.followText "set-order"&&(!t.plain&&decide (es.size>1)))=true:=hab
  refine AD (AO ?_)
  refine AD (wpAny_setEpoch_of ho hd S.fits ?_)
  refine AD (BX (AO ⟨_,rfl,"set_iterator",_,⟨_,AV _ rfl,rfl⟩,SI.slot_next.lookup,?_⟩))
  have yj:a≠s.heap.objs.size:=Al la
  cases hb:w.params.followText "set-order" with
  | true=>
   obtain⟨ks',v',p'⟩:=oJ ((yn (w.params.setOrder a ep) es.size 0 es.toList #[] (by simp)).map (·.2)) (ks:=ks) (by simpa using S.vals)
   exact h s.heap.objs.size (s.heap.push _) s.drawn [] ks' _ p' (AM _) (by rw[BG];exact CZ _) (λb hb=>by simp at hb) (λb o q=>AE _ q) ⟨AV _ rfl,S.at λo q=>AE _ q⟩
    (λB hB=>Om (ep:=ep) (t:=t) (ks:=ks) hB yj hb v' (by rw[p'.length_eq,hsz]))
  | false=>
   have few:es.size<=1:=by
    rw[hb] at hab'
    by_cases z:es.size<=1
    ·exact z
    ·exfalso
     refine hab' ?_
     rw[S.plain (by omega),decide_eq_true (show es.size>1 by omega)]
     rfl
   exact h s.heap.objs.size (s.heap.push _) s.drawn [] ks _ (.refl _) (AM _) (by rw[BG];exact CZ _) (λb hb=>by simp at hb) (λb o q=>AE _ q) ⟨AV _ rfl,S.at λo q=>AE _ q⟩
    (λB hB=>Rt (ep:=ep) (t:=t) (ks:=ks) hB yj hb few S.fits S.vals)
theorem Ru{r:Addr}{Q:Bool->AN->Prop}(hT:s.TypeIs (.ref r) "set")(h:Q false s):wpAny (model P w) A (DN (.ref r)) Q E s:=by
 unfold DN
 refine AD (Eo hT PySem.F.slot_set_len.lookup ?_)
 generalize hid:("set.__len__":String)=id0
 wp_delta
 rw[show splitId id0=some ("set","__len__") from by subst hid;decide+kernel]
 subst hid
 refine AD (EX (T:="set") (b:=true) hT (by rw[FD];kernel_rfl) ?_)
 refine Dx (λhab=>absurd hab (by decide)) (λ_=>?_)
 refine Dx (λ_=>?_) (λhab=>absurd (by decide+kernel) hab)
 exact AD (Cr hT (AO h))
theorem KO{a:Addr}{es:Array (Int×Value)}{ep:Nat}{t:SetTable}{ks:List Str}{Q:List Value->AN->Prop}(S:dv P w s.heap a es ep t ks)(hh:A.handled=none)
  (h:∀(h':Heap) (tk:Nat) (d':Drawn) (acc:List Value) (ks':List Str),(∀b o,s.heap.get? b=some o->h'.get? b=some o)->Cs acc ks'->ks'.Perm ks->Q acc {s with heap:=h',toks:=tk,drawn:=d'}):
  wpAny (model P w) A (collect (.ref a)) Q E s:=by
 obtain⟨o,ho,hex,hd⟩:=S.obj
 have la:a<s.heap.objs.size:=AR ho
 have hsz:=S.len
 unfold collect
 refine AD (wpAny_runValue (CU entry_proto_collect' ?_))
 rw[B5 PySem.F.plain_proto_collect]
 show wpAny (model P w) A.in1 (newList [] >>= λl=>again (.builtin "list.__iadd__" ⟨[l,.ref a],[]⟩)) _ _ s
 refine AD (BX ?_)
 refine AO ⟨CY Fx _,CU entry_list_iadd' ?_⟩
 rw[B5 Fx]
 have g1:(s.heap.push {cls:=.type "list",data:=.seq ([]:List Value).toArray}).get? s.heap.objs.size=some {cls:=.type "list",data:=.seq #[]}:=AV _ rfl
 have z1:(s.heap.push {cls:=.type "list",data:=.seq ([]:List Value).toArray}).objs.size=s.heap.objs.size+1:=BG ..
 have k1:∀b o,s.heap.get? b=some o->(s.heap.push {cls:=.type "list",data:=.seq ([]:List Value).toArray}).get? b=some o:=λb o q=>AE _ q
 show wpAny (model P w) A.in1 (Bk (.ref s.heap.objs.size) (.ref a) (.ref s.heap.objs.size)) _ _ _
 generalize s.heap.push {cls:=.type "list",data:=.seq ([]:List Value).toArray}=h1 at g1 z1 k1 ⊢
 have S1:dv P w h1 a es ep t ks:=S.at λo q=>k1 a o q
 have T1:Fi {s with heap:=h1} (.ref a) "set":=⟨o,k1 a o ho,hex.1⟩
 unfold Bk
 refine AD (Cr T1 ?_)
 have n1:C0 (.ref s.heap.objs.size) (.ref a)=false:=by simp[C0];exact CH la
 rw[if_neg (by rw[n1];decide)]
 refine AD (MG (s:={s with heap:=h1}) S1 λI h2 d2 fx ks' St pk leI ltI fxo k2 st W=>?_)
 refine AD (Bp (Ru ⟨o,k2 a o (k1 a o ho),hex.1⟩ ?_))
 refine Dx (λ_=>?_) (λhab=>absurd (by decide+kernel) hab)
 have lS:s.heap.objs.size<h1.objs.size:=by rw[z1];exact CZ _
 have nf:s.heap.objs.size ∉ I::a::fx:=λm=>by
  rcases Ae.mp m with q | m
  ·exact absurd leI (by rw[<-q];exact Nat.not_le.mpr lS)
  ·rcases Ae.mp m with q | m
   ·exact absurd la (by rw[<-q];exact BQ _)
   ·exact absurd (fxo _ m).1 (Nat.not_le.mpr lS)
 refine AD (DB (AD ?_))
 have g2:=k2 _ _ g1
 show wpAny (model P w) A.in1 (updateSeq s.heap.objs.size (·.push .none) >>= λ_=>updateSeq s.heap.objs.size (·.pop)) _ _ _
 refine AD (Es g2 rfl ?_)
 have g3:=CC (DT (·.push Bz)) g2 rfl
 refine Es (hz:=by seq_fits) g3 rfl ?_
 have g4:=CC (DT (·.pop)) g3 rfl
 have k4:∀b o,b≠s.heap.objs.size->h2.get? b=some o->((h2.update s.heap.objs.size (DT (·.push Bz))).update s.heap.objs.size (DT (·.pop))).get? b=some o:=λb o nb q=>
  (C' _ _ (C1 nb)).trans ((C' _ _ (C1 nb)).trans q)
 have TK:=(W A.in1 hh).frame 0 _ _ st λb hb o q=>k4 b o (λz=>nf (z▸hb)) q
 refine AO ⟨CY PySem.F.plain_extend_loop _,codeAny_extend_loopS (W A.in1 hh).toS (EG S.small) s.heap.objs.size nf _ es.size 0 _ #[] _ rfl (A6 _) TK g4 (ItemsOf.nil _) λs' acc' c' hm hS' hacc=>?_⟩
 show wpAny (model P w) A (load s.heap.objs.size >>= _) _ _ s'
 refine AD (wpAny_load hS' ?_)
 refine AO ?_
 rw[Moved.eq_with hm]
 refine h s'.heap s'.toks d2 acc'.toList ks' (λb o q=>hm.heap b o (λm=>?_) (k4 b o (Al (AR q)) (k2 b o (k1 b o q)))) ?_ pk
 ·have lb:=AR q
  rcases Ae.mp m with z | m
  ·exact absurd lb (by rw[z];exact BQ _)
  ·have z:=AW.mp m
   exact absurd (CL lb lS) (by rw[z];exact HW.mpr leI)
 ·have ll:acc'.toList.length=ks'.length:=by rw[A_,hacc.1,hsz,pk.length_eq]
  refine qt ll λi v x e1 e2=>?_
  obtain⟨y,tk,ey,ev⟩:=hacc.2 i v (by rw[<-BZ];exact e1)
  rw[e2] at ey
  cases ey
  exact⟨tk,ev⟩
end
def Il(P:Ah)(w:World)(a:Addr)(ks:List Str):HO:=.ext λh=>∃es ep t ks',dv P w h a es ep t ks'/\ks'.Perm ks
section
variable{X:Cx}
def aer(X:Cx):List V->Hp->VK->Prop:=λxs H Q=>∃(l:Addr) (ss:List Str),xs=[.ref l]/\bM X.K H l (ss.map V.str)/\ss.length+1<E2/\
 ∀(p:Addr) (ks:List Str),H p=none->ks.Nodup->(∀y,y∈ks↔y∈ss)->ks.length<=ss.length->Q (.ref p) (upd H p (Il X.prog X.w p ks))
theorem Oq(hc:X.calm=true):cY X (.type "set") (aer X):=by
 intro pins s σ H xs us Q I r h
 obtain⟨l,ss,rfl,hq,hb,q⟩:=h
 obtain⟨u,rfl,ru⟩:=vals1 r
 cases ru
 obtain⟨its,rv,p,_⟩:=I.list hq
 have hl:=rv.length
 rw[AA] at hl
 refine Ij (I.ok.hd hc) p.isList (qr rv) (by simp;omega) λh' tk es ep t ks S hm hlen kp=>?_
 have k':∀b o,s.heap.get? b=some o->h'.get? b=some o:=λb o e=>kp b o (AR e) e
 have hp:s.heap.objs.size<=s.heap.objs.size:=AM _
 have I2:=I.laid (a:=s.heap.objs.size) (o:=Il X.prog X.w s.heap.objs.size ks) (t':=tk) k' hp ⟨⟨es,ep,t,ks,S,.refl _⟩,(let ⟨o,e,_⟩:=S.obj;⟨o,e⟩),λh1 h2 ⟨es1,ep1,t1,yi,S1,p1⟩ k2=>⟨es1,ep1,t1,yi,S1.at k2,p1⟩⟩
 exact⟨.ref s.heap.objs.size,_,I2,rfl,q _ ks (I.hok.fresh hp) S.once hm (by simp at hlen;omega)⟩
def Rv(X:Cx):List V->Hp->VK->Prop:=λxs H Q=>∃(a:Addr) (ks:List Str),xs=[.ref a]/\H a=some (Il X.prog X.w a ks)/\ks.length<64/\
 ∀(p:Addr) (ss':List Str),H p=none->ss'.Perm ks->He ss'=true->Q (.ref p) (upd H p (.lst (ss'.map V.str)))
theorem Im(hc:X.calm=true):cY X (.builtin "sorted") (Rv X):=by
 intro pins s σ H xs us Q I r h
 obtain⟨a,ks,rfl,ha,h64,q⟩:=h
 obtain⟨u,rfl,ru⟩:=vals1 r
 cases ru
 obtain⟨⟨es,ep,t,ks0,S,p0⟩,_,_⟩:=(show bN X.prog X.w H s.heap a (Il X.prog X.w a ks) from I.hok a _ ha)
 refine FN kind_sorted plain_sorted entry_sorted (args_sorted1 _) ?_
 unfold Builtin.«sorted»
 (refine AD (m:=checkCount "sorted" 1 1 _) (AO ?_))
 refine AD (KO (A:=X.A.in1) S (I.ok.hd hc) λh' tk d' acc yi k hS p1=>?_)
 have hl:acc.length=ks.length:=by rw[hS.length,p1.length_eq,p0.length_eq]
 refine AD (wpAny_newList ?_ (by rw[hl];exact C8 (AX h64 (by decide))))
 have hoL:(h'.push (seqObj "list" acc.toArray 0)).get? h'.objs.size=some (seqObj "list" acc.toArray 0):=AV _ rfl
 refine AD (Bp (BS slot_list_sort ⟨_,hoL,rfl⟩ entry_list_sort (list_sort_treeK strKind_oneLt hoL hS.keysOf (λv1 v2 rest e=>keyKind_strs (by rw[<-e];exact hS)) (by rw[hl];exact h64) λst' hp hs=>⟨_,rfl,?_⟩) (args_list_sort _)))
 obtain⟨ss',a1,a2,a3⟩:=sorted_out_str hS hp hs
 have I1:Inv X pins σ H {s with heap:=h',toks:=tk,drawn:=d'}:=I.step (g':=s.gens) (d':=d') (ch:=[]) (λb z=>by cases z) (λb o _ _ _ e _=>k b o e) (λb o _ _ _ e _=>⟨o.slots,k b o e⟩) (λ_ _ _ _ n=>n)
  (λb o _ e=>⟨o,k b o e⟩) (λ_ _ e=>e) (λ_ _ _ e=>e) (λb ps e=>⟨#[],by rw[e];simp⟩) (λm ⟨ob,e1,e2,hb,r⟩=>⟨ob,e1,e2,k _ ob hb,r⟩) (λb u e=>(I.hok b u e).stay (λc v _ z=>k c v z) (λ_ z=>z) λ_ _ z=>z) I.bare
 obtain⟨e,he⟩:=sortedHeap_at (out:=(arrOf st').map (·.2)) hoL
 have kp:∀b u,h'.get? b=some u->(sortedHeap (h'.push (seqObj "list" acc.toArray 0)) h'.objs.size acc ((arrOf st').map (·.2))).get? b=some u:=λb u eb=>by
  have lt:=AR eb
  rw[sortedHeap_old (Al lt) (by rw[BG];exact CP lt)]
  exact AE _ eb
 have I2:=I1.laid (a:=h'.objs.size) (o:=.lst (ss'.map V.str)) (t':=tk) kp (AM _) ⟨by rw[AA,a2.length_eq,p1.length_eq,p0.length_eq];exact C8 (AX h64 (by decide)),((arrOf st').map (·.2)).toList,e,oI a1,he⟩
 exact AO ⟨_,rfl,⟨.ref h'.objs.size,_,I2,rfl,q _ ss' (I1.hok.fresh (AM _)) ((a2.trans p1).trans p0) a3⟩⟩
end
end L2
namespace L2
open PySem PySem.Spec PyProof.Rows
open PySem.AutoSeq1 (wpAny_loadPart')
theorem vL(l b:Addr)(items items2:Array Value)(n n2:Nat)(dd:Option Addr)(sl:Array (Option Value))(h0:¬(!items.isEmpty&&CK (items.size+items2.size))=true)(h1:items.size<=sizeLine)(h2:items.size+items2.size<=sizeLine+1):
  Meets (Builtin.«list.extend» ⟨[.ref l,.ref b],[]⟩) (λ_ R s=>s.heap.get? l=some {cls:=.type "list",dict:=none,data:=.seq items n,slots:= #[]}/\s.heap.get? b=some {cls:=.type "tuple",dict:=dd,data:=.seq items2 n2,slots:=sl}/\
   R (.ok (.ret Bz)) {s with heap:=s.heap.update l (DT λx=>x++items2),toks:=s.toks}):=
 .of_wp λprog w A R s h=>by
  obtain⟨hp,g,d,tk,os⟩:=s;obtain⟨hl,hb,h⟩:=h
  have f1:=AutoSeq1.idx_int
  have f2:=AutoSeq1.sub_tuple_tuple
  have f3:=AutoSeq1.sub_list_list
  have f4:=AutoSeq1.sub_tuple_list
  have f5:=AutoSeq1.sub_list_tuple
  have hz:(items++items2).size<=sizeLine+1:=by rw[Array.size_append];exact h2
  wp_walk using(Es hl rfl (hz:=h1) (_hz':=hz)),wpAny_loadPart' hl,wpAny_loadPart' hb
  exact⟨_,rfl,h⟩
section
variable{X:Cx}
def Rx(K:AB):V->List V->Hp->VK->Prop:=λx vs H Q=>∃l b xs zs,x=.ref l/\vs=[.ref b]/\H l=some (.lst xs)/\bF K H b zs/\xs.length+zs.length<=sizeLine/\Q .non (upd H l (.lst (xs++zs)))
theorem MH(K:AB)(hK:X.K=K:=by rfl):zY X "list.extend" (Rx K):=by
 subst hK
 intro pins s σ H x vs v us Q I rx rv h
 obtain⟨l,b,xs,zs,rfl,rfl,hH,hB,hz,q⟩:=h
 cases rx
 obtain⟨u,rfl,ru⟩:=rv.one
 cases ru
 obtain⟨z,its,n,r,hl,e⟩:=I.uA hH
 obtain⟨its2,r2,⟨⟨c2,dd2,da2,sl2⟩,e2,hc2,n2,hd2⟩,z2⟩:=I.tuple hB
 simp only at hc2 hd2
 subst hc2 hd2
 have lr2:=r2.length
 have hsz:its.toArray.size+its2.toArray.size<=sizeLine:=by rw[Ai,Ai];omega
 have Mr:¬(!its.toArray.isEmpty&&CK (its.toArray.size+its2.toArray.size))=true:=by
  rw[zZ hsz,ED]
  exact An
 refine FC F.slot_list_extend ⟨_,e,rfl⟩ F.entry_list_extend (F.args_list_extend_2 _ _)
  (vL l b its.toArray its2.toArray n n2 dd2 sl2 Mr (by rw[Ai];omega) (by omega)) ⟨e,e2,?_⟩
 refine⟨.non,_,I.Mq (its':=its++its2) hH e (by simp) (r.append r2) ?_,rfl,q⟩
 rw[AK]
 omega
end
theorem abg(x y:Str)(h:(!ltCps y.cps.toList x.cps.toList)=true):x.cps.toList<=y.cps.toList:=by
 rw[Ge] at h
 exact List.not_lt.mp (by simpa using h)
theorem oM:∀(l:List Str) (p:Str),risingS p l=true->∀y∈l,p.cps.toList<=y.cps.toList
 | [],p,_,y,hy=>by cases hy
 | x::l,p,h,y,hy=>by
  have h':(!ltCps x.cps.toList p.cps.toList&&risingS x l)=true:=h
  rw[Bc] at h'
  have h1:=abg p x h'.1
  rcases Ae.mp hy with e | hy
  ·rw[e];exact h1
  ·exact List.le_trans h1 (oM l x h'.2 y hy)
theorem o6{x:Str}{l:List Str}(h:He (x::l)=true):He l=true:=by
 cases l with
 | nil=>rfl
 | cons y l=>
  have h':(!ltCps y.cps.toList x.cps.toList&&risingS y l)=true:=h
  rw[Bc] at h'
  exact h'.2
theorem XD{x y:Str}(h:x.cps.toList=y.cps.toList):x=y:=by
 obtain⟨a⟩:=x
 obtain⟨b⟩:=y
 have:a=b:=Array.toList_inj.mp h
 rw[this]
theorem ui:∀{l m:List Str},He l=true->He m=true->l.Nodup->m.Nodup->(∀y,y∈l↔y∈m)->l=m
 | [],[],_,_,_,_,_=>rfl
 | [],y::m,_,_,_,_,h=>by have:=(h y).mpr AL;cases this
 | x::l,[],_,_,_,_,h=>by have:=(h x).mp AL;cases this
 | x::l,y::m,sl,sm,nl,nm,h=>by
  rw[Bj] at nl nm
  have e:x=y:=by
   rcases Ae.mp ((h x).mp AL) with e | hx
   ·exact e
   ·rcases Ae.mp ((h y).mpr AL) with e | hy
    ·exact e.symm
    ·exact XD (List.le_antisymm (oM l x sl y hy) (oM m y sm x hx))
  subst e
  rw[ui (o6 sl) (o6 sm) nl.2 nm.2 λz=>?_]
  constructor
  ·intro hz
   rcases Ae.mp ((h z).mp (AJ _ hz)) with e | q
   ·exact absurd (e▸hz) nl.1
   ·exact q
  ·intro hz
   rcases Ae.mp ((h z).mpr (AJ _ hz)) with e | q
   ·exact absurd (e▸hz) nm.1
   ·exact q
theorem lC:∀{l:List Str} {ss:List Str},l.Nodup->(∀y∈l,y∈ss)->l.length<=ss.length
 | [],ss,_,_=>A6 _
 | x::l,ss,h,hs=>by
  rw[Bj] at h
  have hx:=hs x AL
  have:=lC (l:=l) (ss:=ss.erase x) h.2 λy hy=>(List.mem_erase_of_ne (λe:y=x=>h.1 (by rw[<-e];exact hy))).mpr (hs y (AJ _ hy))
  rw[List.length_erase_of_mem hx] at this
  have hp:0<ss.length:=List.length_pos_of_mem hx
  rw[A2]
  omega
theorem ku(x:Str)(l:List Str):inV (.str x) (l.map V.str)=decide (x∈l):=by
 induction l with
 | nil=>rfl
 | cons y l ih=>
  unfold inV at ih ⊢
  rw[Aj,Cz,ih]
  show((y == x)||_)=_
  by_cases e:y=x
  ·simp[e]
  ·have e':¬x=y:=λz=>e z.symm
   simp[e,e']
end L2
namespace L2
open PySem PySem.Spec PyProof.Rows PySem.W PySem.Builtin PySem.Builtin.ObjectAttr
end L2
namespace HT
open PySem PySem.Spec PyProof.Rows
section
variable{prog:Ah}{w:World}{A:BB}{E:Value->AN->Prop}{s:AN}
theorem rL{t sl:Addr}{items:Array Value}{vl vu:Value}{lo hi:Option Int}{Q:Value->AN->Prop}(ht:IsTup s.heap t items)(hs:s.heap.IsSliceOf sl vl vu .none)(pl:Fb vl lo)(pu:Fb vu hi)
  (hw:bx items.size 0 lo=0/\bx items.size items.size hi=items.size) (h:Q (.ref t) s):wpAny (model prog w) A (Eb (.ref t) (.ref sl)) Q E s:=by
 obtain⟨os,hos,hcs,hds⟩:=id hs
 have hTs:s.TypeIs (.ref sl) "slice":=⟨os,hos,hcs⟩
 unfold Eb
 try with_reducible refine Bp ?_
 first | refine AD (AO ?_) | skip
 refine AD (wpAny_sequenceKey ht.typeIs (by decide) ?_)
 refine AD (BO (name:=CJ "__getitem__") ht.typeIs BY
  (BS BY ht.typeIs entry_tuple_getitem ?_ (args_tuple_getitem _ _)))
 show wpAny _ _ (E9 (.ref t) >>= _) _ _ s
 refine AD (tupleItemsOf_ ht ?_)
 refine AD (Cr hTs ?_)
 rw[if_pos (by decide)]
 refine AD (m8 hs pl pu ?_)
 have hyes:(((bx items.size 0 lo:Nat):Int) == 0&&(1:Int) == 1&&(bx items.size items.size hi-bx items.size 0 lo) == items.size)=true:=by
  rw[hw.1,hw.2];simp
 show wpAny _ _ (if(((bx items.size 0 lo:Nat):Int) == 0&&(1:Int) == 1&&(bx items.size items.size hi-bx items.size 0 lo) == items.size)=true then _ else _) _ _ s
 rw[if_pos hyes]
 refine AD ?_
 unfold Builtin.Tuple.tupleIsExact
 refine AD (Cr ht.typeIs (AO ?_))
 rw[if_pos (by decide)]
 exact AD (DB (AO ⟨_,rfl,AO h⟩))
end
end HT
namespace L2
open PySem PySem.Spec PyProof.Rows
section
variable{X:Cx}
def MI(K:AB):V->Option Int->Option Int->Hp->VK->Prop:=λx lo hi H Q=>∃a xs,x=.ref a/\bF K H a xs/\
 ((HT.bx xs.length 0 lo=0/\HT.bx xs.length xs.length hi=xs.length)->Q (.ref a) H)/\
 (¬(HT.bx xs.length 0 lo=0/\HT.bx xs.length xs.length hi=xs.length)->∀p,H p=none->Q (.ref p) (upd H p (.tup (lM xs lo hi))))
theorem pU(K:AB)(hK:X.K=K:=by rfl):Le X (MI K):=by
 subst hK
 intro pins s σ H x v vl vu lo hi sl Q I rx hs pl pu h
 obtain⟨a,xs,rfl,hx,hw,q⟩:=h
 by_cases c:HT.bx xs.length 0 lo=0/\HT.bx xs.length xs.length hi=xs.length
 ·cases rx
  obtain⟨its,r,ht,hz⟩:=I.tuple hx
  have hlen:its.toArray.size=xs.length:=by rw[Ai];exact r.length.symm
  refine⟨"tuple",_,BY.lookup,ht.typeIs,?_⟩
  exact HT.rL ht hs pl pu (by rw[hlen];exact c) ⟨.ref a,H,I,rfl,hw c⟩
 ·exact W_ pins s σ H _ v vl vu lo hi sl Q I rx hs pl pu ⟨a,xs,rfl,hx,c,q c⟩
end
section
variable{X:Cx}{e:Expr}{lo hi:Option Expr}{st:Expr}{te:TE}{tl th tk:TO}{p2 pos:Pos}
def abh(K:AB)(x:V)(l u k:Option Int):Hp->VK->Prop:=λH Q=>∃a xs,l=none/\u=none/\k=some (-1)/\x=.ref a/\bM K H a xs/\∀p,H p=none->Q (.ref p) (upd H p (.lst xs.reverse))
def abi(K:AB)(te:TE)(tl th tk:TO):TE:=λσ H Q=>te σ H λx H1=>tl σ H1 λl H2=>th σ H2 λu H3=>tk σ H3 λk H4=>abh K x l u k H4 Q
theorem VG(K:AB)(he:PE X e te)(hl:PO X lo tl)(hu:PO X hi th)(hk:PO X (some st) tk)(hK:X.K=K:=by rfl):PE X (.Subscript e (.Slice lo hi (some st) p2) pos) (abi K te tl th tk):=by
 subst hK
 intro pins s σ H Q I h
 refine GD (aQ (he pins s σ H _ I h) ?_)
 rintro v s1 ⟨x,H1,I1,r1,q1⟩
 refine wpAny_Slice (aQ (hl pins s1 σ H1 _ I1 q1) ?_)
 rintro vl s2 ⟨l,H2,I2,pl,q2⟩
 refine aQ (hu pins s2 σ H2 _ I2 q2) ?_
 rintro vu s3 ⟨u,H3,I3,pu,q3⟩
 refine aQ (hk pins s3 σ H3 _ I3 q3) ?_
 rintro vk s4 ⟨k,H4,I4,pk,q4⟩
 obtain⟨a,xs,rfl,rfl,rfl,rfl,hx,q⟩:=q4
 cases pl
 cases pu
 cases pk with
 | int i t=>
  cases r1
  have I5:Inv X pins σ H4 {s4 with heap:=s4.heap.push {cls:=.type "slice",data:=.fields #[.none,.none,.int (-1) t]}}:=I4.kept (t':=s4.toks) λb ob q=>AE _ q
  obtain⟨its,r,ht,hz⟩:=I5.list hx
  have hlen:its.toArray.size=xs.length:=by rw[Ai];exact r.length.symm
  show wpAny (model X.prog X.w) X.A (Ec e (.Slice lo hi (some st) p2) (.ref a) (.ref s4.heap.objs.size)) (EP X pins σ Q) X.xe {s4 with heap:=s4.heap.push {cls:=.type "slice",data:=.fields #[.none,.none,.int (-1) t]}}
  refine tail_any (ops:=[.ref a,.ref s4.heap.objs.size]) ht.isList.typeIs list_getitem_lookup ?_ (by with_unfolding_all rfl)
  refine Fc (lo:=none) (hi:=none) (st:=some (-1)) ht.isList (HS ..) .none .none (.int _ _) (by decide) ?_ (by rw[hlen];exact hz)
  rw[PySem.W.krv_pick]
  refine⟨.ref _,_,I5.laid (o:=.lst xs.reverse) (t':=s4.toks) (λ_ _ q=>AE _ q) (AM _) ?_,rfl,q _ (I5.hok.fresh (AM _))⟩
  exact⟨by rw[B_];exact hz,_,0,pT r,AV _ rfl⟩
end
def Its(x:Str):It:=⟨λi _=>i<x.cps.size,λi H y H'=>H'=H/\∃c,x.cps[i]? =some c/\y=.str ⟨#[c]⟩,λi _=>x.cps.size<=i⟩
theorem Ry{P:Ah}{w:World}{K:AB}{tg:Expr}(it:Addr)(x:Str)(t:Tok):Turn P w K tg (Its x) [it] it (λi h=>h.IsStrIter it "str_ascii_iterator" x t i) where
 mem:=by simp
 obj:=λi h st b hb=>by
  have e:b=it:=by simpa using hb
  subst e
  obtain⟨o,e,c,d⟩:=st
  exact⟨o,e,λv z=>by rw[d] at z;cases z⟩
 keep:=λi h h' st k=>let ⟨o,ho,r⟩:=st;⟨o,k it (by simp) o ho,r⟩
 item:=by
  intro X hP hw hK hc i pins s σ H E I hf st hg
  subst hP hw hK
  obtain⟨f0,f1,f2,f3,f4,f5⟩:=hf it (by simp)
  have hg':i<x.cps.size:=hg
  refine wpAny_pyNext_ascii_item st (c:=x.cps[i]) (by simp[hg']) λh' st' sb=>?_
  have I1:Inv X pins σ H {s with heap:=h',toks:=s.toks+1}:=I.turned (λb o hb e=>(sb.2 b hb).trans e) f0 f1 f3 f4 f5
  obtain⟨o,e,c,d⟩:=id st'
  exact⟨_,rfl,vp (s:={s with heap:=h',toks:=s.toks+1}) e c d (by decide) ⟨.str ⟨#[x.cps[i]]⟩,H,I1,⟨_,rfl⟩,⟨rfl,_,by simp[hg'],rfl⟩,st',λb hb=>(hf b hb).1⟩⟩
 done:=by
  intro X hP hw hK hc i pins s σ H E I hf st hg
  subst hP hw hK
  obtain⟨f0,f1,f2,f3,f4,f5⟩:=hf it (by simp)
  have hg':x.cps.size<=i:=hg
  exact wpAny_pyNext_ascii_end (I.ok.hd hc) st (by simp[hg']) λh' eb=>⟨rfl,I.turned (t':=s.toks) (λb o hb e=>eb b o hb e) f0 f1 f3 f4 f5⟩
 self:=λ_ _ _ _ _ st h=>wpAny_pyIter_striter_ascii st h
def aes(tl:TE):TI:=λσ H R=>tl σ H λx H1=>∃z:Str,x=.str z/\z.cps.all (· <128)=true/\R (Its z) H1
section
variable{X:Cx}{tg:Expr}
theorem XE{l:Expr}{tl:TE}(hl:PE X l tl):PI X tg l (aes tl):=by
 intro pins s σ H R I h
 refine aQ (hl pins s σ H _ I h) ?_
 rintro v s1 ⟨x,H1,I1,r1,q1⟩
 obtain⟨z,rfl,ha,q⟩:=q1
 obtain⟨t,rfl⟩:=r1
 refine wpAny_pyIter_ascii ha ?_
 refine⟨s1.heap.objs.size,[s1.heap.objs.size],_,_,H1,rfl,I1.kept (t':=s1.toks) λb o e=>AE _ e,Ry _ z t,⟨_,AV _ rfl,rfl,rfl⟩,λb hb=>?_,q⟩
 have e:b=s1.heap.objs.size:=by simpa using hb
 subst e
 exact I1.m7 (AM _) (I1.hok.fresh (AM _))
end
theorem VH{z:Str}{g:TG}{tb:TS}{D:Ends}{σ:St}{H:Hp}(Pv:Nat->St->Hp->Prop)(h0:Pv 0 σ H)
  (hs:∀i c σ H,z.cps[i]? =some c->Pv i σ H->g (.str ⟨#[c]⟩) σ H λσ2 H2=>tb {D with nx:=Pv (i+1),ct:=Pv (i+1),bk:=D.nx} σ2 H2) (hd:∀σ H,Pv z.cps.size σ H->D.nx σ H):
  ∃W:Nat->Nat->St->Hp->Prop,(∃m,W 0 m σ H)/\∀i m σ H,W i m σ H->
   ((Its z).stop i H/\D.nx σ H)∨((Its z).go i H/\∃N:St->Hp->Prop,(∀σ' H',N σ' H'->∃m',m'<m/\W (i+1) m' σ' H')/\∀x H',(Its z).uc i H x H'->g x σ H' λσ2 H2=>tb {D with nx:=N,ct:=N,bk:=D.nx} σ2 H2):=by
 refine⟨λi m σ H=>m=z.cps.size-i/\i<=z.cps.size/\Pv i σ H,⟨z.cps.size,by simp,A6 _,h0⟩,?_⟩
 rintro i m σ H ⟨rfl,hi,p⟩
 by_cases hlt:i<z.cps.size
 ·refine .inr ⟨hlt,Pv (i+1),λσ' H' p'=>⟨z.cps.size-(i+1),by omega,rfl,hlt,p'⟩,λx H' y=>?_⟩
  obtain⟨rfl,c,hc,rfl⟩:=y
  exact hs i c σ _ hc p
 ·have e:i=z.cps.size:=by omega
  subst e
  exact .inl ⟨AM _,hd _ _ p⟩
section
variable{X:Cx}{e:Expr}{lo hi:Option Expr}{st:Expr}{te:TE}{tl th tk:TO}{p2 pos:Pos}
def rZ(x:Str):Str:=⟨x.cps.reverse⟩
theorem picked_rev(x:Str)(t:Tok):((slicePicked x none none (some (-1,t))).filterMap (x.cps[·]?)).toArray=x.cps.reverse:=by
 have e:slicePicked x none none (some (-1,t))=(A9 x.cps.size).reverse:=by
  have h:slicePicked x none none (some (-1,t))=sliceRange ((x.cps.size:Int)-1) (-1) (-1):=rfl
  rw[h,PySem.W.krv_sliceRange,PySem.W.krv_range]
 rw[e,List.filterMap_reverse,PySem.W.krv_all,<-Array.toList_reverse]
def abj(x:V)(l u k:Option Int):Hp->VK->Prop:=λH Q=>∃z:Str,l=none/\u=none/\k=some (-1)/\x=.str z/\z.length<=sizeLine/\Q (.str (rZ z)) H
def abk(te:TE)(tl th tk:TO):TE:=λσ H Q=>te σ H λx H1=>tl σ H1 λl H2=>th σ H2 λu H3=>tk σ H3 λk H4=>abj x l u k H4 Q
theorem VI(he:PE X e te)(hl:PO X lo tl)(hu:PO X hi th)(hk:PO X (some st) tk):PE X (.Subscript e (.Slice lo hi (some st) p2) pos) (abk te tl th tk):=by
 intro pins s σ H Q I h
 refine GD (aQ (he pins s σ H _ I h) ?_)
 rintro v s1 ⟨x,H1,I1,r1,q1⟩
 refine wpAny_Slice (aQ (hl pins s1 σ H1 _ I1 q1) ?_)
 rintro vl s2 ⟨l,H2,I2,pl,q2⟩
 refine aQ (hu pins s2 σ H2 _ I2 q2) ?_
 rintro vu s3 ⟨u,H3,I3,pu,q3⟩
 refine aQ (hk pins s3 σ H3 _ I3 q3) ?_
 rintro vk s4 ⟨k,H4,I4,pk,q4⟩
 obtain⟨z,rfl,rfl,rfl,rfl,hz,q⟩:=q4
 cases pl
 cases pu
 cases pk with
 | int i t=>
  obtain⟨t0,rfl⟩:=r1
  have I5:Inv X pins σ H4 {s4 with heap:=s4.heap.push {cls:=.type "slice",data:=.fields #[.none,.none,.int (-1) t]}}:=I4.kept (t':=s4.toks) λb ob q=>AE _ q
  show wpAny (model X.prog X.w) X.A (Ec e (.Slice lo hi (some st) p2) (.str z t0) (.ref s4.heap.objs.size)) (EP X pins σ Q) X.xe {s4 with heap:=s4.heap.push {cls:=.type "slice",data:=.fields #[.none,.none,.int (-1) t]}}
  refine tail_any (ops:=[.str z t0,.ref s4.heap.objs.size]) (FA _ _ _) Fg.lookup ?_ (by with_unfolding_all rfl)
  refine wpAny_getItem_str_slice (l:=none) (u:=none) (st:=some (-1,t)) ⟨_,AV _ rfl,rfl,rfl⟩ rfl ?_
  have e1:sliceMade z t0 none none (some (-1,t))=.str (rZ z):=by
   unfold sliceMade
   rw[picked_rev]
   rfl
  rw[e1]
  exact⟨by show z.cps.reverse.size<=sizeLine;rw[Array.size_reverse];exact hz,⟨.str _,H4,I5.tok _,⟨_,rfl⟩,q⟩⟩
end
section
variable{X:Cx}
def XF:V->List V->Hp->VK->Prop:=λx vs H Q=>∃(z y:Str) (i:Nat) (rest:List Nat),x=.str z/\vs=[.str y]/\Fy z y 0 z.length 1=i::rest/\Q (.int (i:Nat)) H
theorem Rz:zY X "str.index" XF:=by
 intro pins s σ H x vs v us Q I rx rv h
 obtain⟨z,y,i,rest,rfl,rfl,ho,q⟩:=h
 obtain⟨t,rfl⟩:=rx
 obtain⟨u,rfl,ru⟩:=rv.one
 obtain⟨t2,rfl⟩:=ru
 exact call_gives GI (FA _ _ _) PySem.F.entry_str_index (PySem.F.args_str_index_2 _ _) (gives_str_index z y t t2 i rest ho) ⟨.int _,H,I.tok _,⟨_,rfl⟩,q⟩
theorem VJ:dY X (CM .Mult) (λx y H Q=>∃(z:Str) (n:Int),x=.str z/\y=.int n/\0<=n/\n<=1000/\z.length<=1000/\Q (.str (Txt.mul z n)) H):=by
 intro pins s σ H x y v u Q I rx ry h
 obtain⟨z,n,rfl,rfl,h0,h1,h2,q⟩:=h
 obtain⟨t,rfl⟩:=rx
 obtain⟨t',rfl⟩:=ry
 refine SB.mul ⟨?_,?_,?_⟩ λt' k=>⟨.str _,H,I.tok k,⟨t',rfl⟩,q⟩
 ·have a:¬n< -(2 ^ 63:Int):=by omega
  have b:¬n ≥ 2 ^ 63:=by omega
  simp only[a,b,decide_false,Bool.or_self]
 ·intro a b c
  have e:(1000:Int)<=(2 ^ 63-1) / n:=by
   rw[GJ (by omega)]
   omega
  omega
 ·intro a b
  have h3:z.length*n.toNat<=1000*1000:=Nat.mul_le_mul h2 (by omega)
  have h4:(1000*1000:Nat)<=sizeLine:=by decide
  exact decide_eq_false (by omega)
end
section
variable{prog:Ah}{w:World}{A:BB}{E:Value->AN->Prop}{s:AN}
theorem jb{h h':Heap}{it t b:Addr}{i:Nat}(x:h.IsTupleIter it t i)(sb:Ef b h h')(n:it≠b):h'.IsTupleIter it t i:=let ⟨o,ho,r⟩:=x;⟨o,sb _ _ n ho,r⟩
theorem yp{h h':Heap}{t b:Addr}{ys:Array Value}(x:h.IsTuple t ys)(sb:Ef b h h')(n:t≠b):h'.IsTuple t ys:=let ⟨o,ho,r⟩:=x;⟨o,sb _ _ n ho,r⟩
abbrev itL (l:Addr):Obj:={cls:=.type "list_iterator",data:=.fields #[.ref l,.int 0 0]}
abbrev Ot (l:Addr):Obj:={cls:=.type "tuple_iterator",data:=.fields #[.ref l,.int 0 0]}
end
structure dJ (ps aR:List Str)(scope:Scope):Prop where
 kind:scope.kind=.function
 co:scope.isCoroutine=false
 gen:scope.isGenerator=false
 Ou:∀x∈scope.names,x.2≠.cell
 par:∀x∈ps,scope.names.lookup x=some .local
 free:∀x∈aR,scope.names.lookup x=some .free
 only:∀x,scope.names.lookup x=some .free->x∈aR
 nd:(ps++aR).Nodup
structure uH (h:Heap)(cl:List (Str×Addr))(aR:List Str)(fvs:List V):Prop where
 inj:∀x y c,cl.lookup x=some c->cl.lookup y=some c->x=y
 cell:∀x c,cl.lookup x=some c->∃v,h.IsCell c v
 vals:Bl (λx v=>∃c u,cl.lookup x=some c/\h.IsCell c (some u)/\RelV v u) aR fvs
def Ov(P:Ah)(w:World)(K:AB)(mg:Str->Option Value)(base:Heap)(N:List Str)(qual:Str)(scope:Scope)(f:Addr)(cd:Value)(cl:List (Str×Addr))(A:BB)(outer:List Env)(s:AN)(H:Hp):Cx where
 prog:=P
 w:=w
 K:=K
 mg:=mg
 base:=base
 A:=A.deeper (E1 qual scope s.heap.objs.size f cd cl)
 N:=N
 s₀:=s
 H₀:=H
 env:=E1 qual scope s.heap.objs.size f cd cl
 outer:=outer
 stack:=E1 qual scope s.heap.objs.size f cd cl::outer
 ex:=[]
 calm:=true
 fn:=λ_=>false
 pn:=[]
 xe:=λ_ _=>False
theorem VL{ps:List Str}{us:List Value}(nd:ps.Nodup)(hl:ps.length<=us.length){i:Nat}{y:Str}{u:Value}(hp:ps[i]? =some y)(hu:us[i]? =some u):(ps.zip us).reverse.lookup y=some u:=by
 have hm:(y,u)∈(ps.zip us).reverse:=by
  rw[DW]
  refine AG (i:=i) ?_
  rw[List.getElem?_zip_eq_some]
  exact⟨hp,hu⟩
 have hn:((ps.zip us).reverse.map (·.1)).Nodup:=by
  rw[Fz]
  refine(List.reverse_perm _).nodup_iff.mpr ?_
  rw[List.map_fst_zip hl]
  exact nd
 generalize (ps.zip us).reverse=l at hm hn
 induction l with
 | nil=>cases hm
 | cons p l ih=>
  rw[Aj,Bj] at hn
  rcases Ae.mp hm with e | e
  ·subst e;exact List.lookup_cons_self
  ·have:y≠p.1:=λz=>hn.1 (by rw[<-z];exact AZ.mpr ⟨_,e,rfl⟩)
   obtain⟨a,b⟩:=p
   rw[C4,show(y == a)=false from beq_false_of_ne this]
   exact ih e hn.2
theorem dR{α β:Type}{F:α->β->Prop}:∀{l:List α} {m:List β} {i:Nat} {a:α},Bl F l m->l[i]? =some a->∃b,m[i]? =some b/\F a b
 | _,_,_,_,.nil,h=>by simp at h
 | _,_,0,_,.cons r _,h=>by simp at h;subst h;exact⟨_,rfl,r⟩
 | _,_,i+1,_,.cons _ t,h=>by
  simp only[B6] at h ⊢
  exact dR t h
theorem VM{P:Ah}{w:World}{K:AB}{mg:Str->Option Value}{base:Heap}{ps aR:List Str}{qual:Str}{scope:Scope}{f:Addr}{cd:Value}{cl:List (Str×Addr)}{A:BB}{outer:List Env}{s:AN}{H:Hp}{us:List Value}{vs fvs:List V}{h1:Heap}{fo:Obj}{tk:Nat}
  (S:dJ ps aR scope) (hd:A.handled=none) (e0:wM P w K mg base A outer s H) (hl:vs.length=ps.length) (r:Vals vs us) (C:uH base cl aR fvs)
  (hns:h1.Ns s.heap.objs.size λx=>(ps.zip us).reverse.lookup x) (hsb:C9 s.heap.objs.size (s.heap.push fo) h1):
  Inv (Ov P w K mg base (ps++aR) qual scope f cd cl A outer s H) [] (vs.map some++fvs.map some) H {s with heap:=h1,toks:=tk}:=by
 have hk:∀b o,s.heap.get? b=some o->h1.get? b=some o:=λb o e=>hsb.extBut b o (Al (AR e)) (AE _ e)
 have hkb:∀b o,base.get? b=some o->h1.get? b=some o:=λb o e=>hk b o (e0.bs b o e).1
 have ud:∀b:Addr,b ∉ (Ov P w K mg base (ps++aR) qual scope f cd cl A outer s H).ex:=λb z=>absurd (show b∈([]:List Addr) from z) (by simp)
 have lf:aR.length=fvs.length:=Ag C.vals
 refine⟨⟨e0.mod,S.kind,rfl,rfl,AM _,C.inj,λy hy=>?_,λy c z=>(nomatch z),λ_=>hd,Gs e0.frames,.inr ⟨rfl,rfl⟩,λb z=>absurd z (ud b),e0.bs,e0.ua,λb _ _=>ud b,λb z=>absurd z (ud b),e0.kh,e0.zJ⟩,
  rfl,e0.bare,Un.kept hk,⟨_,hns,λi y v h1' h2 h3=>?_⟩,λy c h=>?_,e0.hok.fresh (AM _),λy c h=>?_,λp hp=>absurd (show p∈([]:List (Addr×Obj)) from hp) (by simp),e0.hok.kept hk,?_⟩
 ·have hy:scope.names.lookup y=some .cell∨scope.names.lookup y=some .free:=hy
  rcases hy with hy | hy
  ·exact absurd rfl (S.Ou _ (Br hy))
  ·have hm:=S.only y hy
   obtain⟨i,hi⟩:=BR hm
   obtain⟨v,_,c,u,hc,_⟩:=dR C.vals hi
   exact⟨c,hc⟩
 ·have xa:(ps++aR)[i]? =some y:=h1'
  by_cases hi:i<ps.length
  ·rw[Ax hi] at xa
   rw[Ax (by rw[AA];omega),AU] at h2
   obtain⟨v',hv',e⟩:=Bf.mp h2
   have e':v'=v:=AS e
   subst e'
   obtain⟨u,hu,rv⟩:=r.get hv'
   have Tz:ps.Nodup:=(CS.mp S.nd).1
   exact⟨u,rv,.inl ⟨S.par y (AG xa),VL Tz (by rw[<-hl,r.length];exact AM _) xa hu⟩⟩
  ·rw[Aq (by omega)] at xa
   rw[Aq (by rw[AA];omega),AA,hl,AU] at h2
   obtain⟨v',hv',e⟩:=Bf.mp h2
   have e':v'=v:=AS e
   subst e'
   obtain⟨v2,hv2,c,u,hc,⟨o,ho,hd'⟩,rv⟩:=dR C.vals xa
   rw[hv'] at hv2
   cases hv2
   exact⟨u,rv,.inr ⟨.inr (S.free y (AG xa)),c,hc,o,hkb _ _ ho,hd'⟩⟩
 ·obtain⟨v,o,ho,hd'⟩:=C.cell y c h
  exact⟨v,o,hkb _ _ ho,hd'⟩
 ·obtain⟨v,o,ho,hd'⟩:=C.cell y c h
  exact(e0.bs c o ho).2
 ·show _=(ps++aR).length
  rw[AK,AA,AA,AK,hl,lf]
theorem XG{P:Ah}{w:World}{K:AB}{mg:Str->Option Value}{base:Heap}{k:Nat}{f c':Addr}{name qual:Str}{params:EV}{body:Expr}{scope:Scope}{cl:List (Str×Addr)}{pm ctv:Value}{ps aR:List Str}{fvs:List V}{sp:Sp}
  (ho:base.get? f=some (PySem.W.kla_obj name qual params body scope cl pm c' ctv)) (XH:base.CodeRec (.ref c') qual) (S:dJ ps aR scope) (C:uH base cl aR fvs) (len:∀vs H Q E,sp vs H Q E->vs.length=ps.length)
  (hbody:∀(A:BB) (outer:List Env) (s:AN) (H:Hp) (vs:List V) (Q:VK) (E:XK),aK k (A.deeper (E1 qual scope s.heap.objs.size f (.ref c') cl))->sp vs H Q E->
   ∃t,PE (Ov P w K mg base (ps++aR) qual scope f (.ref c') cl A outer s H) body t/\t (vs.map some++fvs.map some) H Q):
  aO P w K mg base aW (k+1) f (PySem.W.kla_fn name qual params body scope cl pm (.ref c') ctv) ps sp:=by
 refine⟨len,λA outer s H args us vs Q E hr e0 hb r hsp=>?_⟩
 have hl:=len _ _ _ _ hsp
 have lim:s.heap.NoLimit:=e0.mod.nolimit.keeps λb o e=>(e0.bs b o e).1
 have aet:s.heap.CodeRec (.ref c') qual:=by
  obtain⟨c,oc,vs',tq,hc,hoc,hdc,hq⟩:=XH
  exact⟨c,oc,vs',tq,hc,(e0.bs _ _ hoc).1,hdc,hq⟩
 refine PySem.W.kla_callFunE hr.depth (e0.bs _ _ ho).1 rfl S.co S.gen rfl aet (hb _ _ _ _ ?_)
 have hloc:∀y∈ps.zip us,scope.names.lookup y.1=some .local:=λ⟨n,v⟩ hy=>S.par n (Dv hy).1
 refine wpAny_newFunctionEnv S.Ou hloc (λh₁ hns hsb=>⟨lim.fresh _ hsb,?_⟩) S.kind
 obtain⟨t,ht,hq⟩:=hbody A outer s H vs Q E (hr.deeper _) hsp
 have I:Inv (Ov P w K mg base (ps++aR) qual scope f (.ref c') cl A outer s H) [] (vs.map some++fvs.map some) H {s with heap:=h₁,toks:=s.toks+(ps.zip us).length}:=VM S hr.hd e0 hl r C hns hsb
 refine PySem.W.kla_codeExpr (B0 (ht [] _ _ H _ I hq) (λv s' hs=>?_) λe s' hs=>hs.elim)
 obtain⟨x,H',J,rv,q⟩:=hs
 exact⟨x,H',J.os,J.bare,J.base,J.hok,rv,q⟩
section
variable{X:Cx}{x:Str}{p pos:Pos}{e:Expr}{es:List Expr}{t:TA}{k:Nat}{f:Addr}{fd:Av}{ps:List Str}{sp:Sp}
def XI(i:Nat)(f:Addr)(sp:Sp)(t:TA):TE:=λσ H Q=>σ[i]? =some (some (.ref f))/\t σ H λvs H1=>sp vs H1 Q E0
theorem Io(F:aO X.prog X.w X.K X.mg X.base aW k f fd ps sp){i:Nat}{o:Obj}(ho:X.base.get? f=some o)(hof:o.data=.func fd)(hr:aK k X.A)(hb:∀us:List Value,us.length=ps.length->Hb fd ⟨us,[]⟩=pure (ps.zip us))
  (hN:X.N[i]? =some x) (hv:K7 X.env.scope x) (ha:PA X (e::es) t) (hdb:(x == ("__debug__":Str))=false:=by decide) (hcd:(x == ("__classdict__":Str))=false:=by decide)
  (he:BE (e::es) X.env=(false,eval e X.env)::BE es X.env:=by rfl) (hpl:(D8 pos (BE es X.env)).any (·.1)=false:=by rfl):
  PE X (.Call (.Name x p) (e::es) [] pos) (XI i f sp t):=by
 intro pins s σ H Q I h
 obtain⟨hi,h⟩:=h
 obtain⟨m,hn,hl⟩:=I.loc
 obtain⟨u,r,l⟩:=hl i x (.ref f) hN hi hv
 obtain rfl:u=BF f:=r
 have fin:wpAny (model X.prog X.w) X.A (callWith pos (.ref f) [] (D8 pos (BE (e::es) X.env)) []) (EP X pins σ Q) X.xe s:=by
  have h0:wpAny (model X.prog X.w) X.A (spliced (D8 pos (BE (e::es) X.env))) (λus s₁=>s₁.heap.get? f=some o/\wpAny (model X.prog X.w) X.A (call (.ref f) ([]++us)) (EP X pins σ Q) X.xe s₁) X.xe s:=by
   refine aQ (ha pos pins s σ H _ I h) ?_
   rintro us s1 ⟨vs,H1,I1,r,q⟩
   refine⟨I1.bk _ _ ho,?_⟩
   exact NU (ds:=[]) (vA:=[]) F hr (Binds.all hb) .nil az I1 r (by rw[A8];exact q)
  rw[he] at h0 ⊢
  refine PySem.W.callWith_of (P:=λh=>h.get? f=some o) ?_ (λh hf=>⟨.frame,.inl rfl,(PySem.W.Looks.ld (part:=none) hf).andThen ?_⟩) (DS h0)
  ·show((false||(D8 pos (BE es X.env)).any (·.1))||false)=false
   rw[hpl];rfl
  ·rw[hof]
   exact .now
 rcases l with⟨hk,hm⟩ | ⟨hk,c,hc,hcell⟩
 ·exact B2 (E4 (wpAny_loadName_local I.ok.kind hk hn hm fin) hdb)
 ·rcases hk with hk | hk
  ·exact B2 (E4 (wpAny_loadName_cell I.ok.kind hk hc hcell fin) hdb)
  ·exact B2 (E4 (wpAny_loadName_free I.ok.kind hk hc hcell fin hcd) hdb)
end
def Ip(f:Addr)(o:Obj):HO:=.ext λh=>h.get? f=some o
def yq(c:Addr)(qual:Str):HO:=.ext λh=>h.CodeRec (.ref c) qual
section
variable{P:Ah}{w:World}{H:Hp}{h:Heap}
theorem Ow{f:Addr}{o:Obj}(e:h.get? f=some o):bN P w H h f (Ip f o):=
 ⟨e,⟨o,e⟩,λh1 h2 q k=>k o q⟩
theorem XJ{c:Addr}{qual:Str}(e:h.CodeRec (.ref c) qual):bN P w H h c (yq c qual):=by
 refine⟨e,?_,λh1 h2 q k=>?_⟩
 ·obtain⟨c',o,vs,t,e1,e2,_⟩:=e
  cases e1
  exact⟨o,e2⟩
 ·obtain⟨c',o,vs,t,e1,e2,r⟩:=q
  cases e1
  exact⟨c,o,vs,t,rfl,k o e2,r⟩
end
def Tab(H:Hp)(T:Addr)(L:List (Pos×Str)):Prop:=
 ∃ps:Array Value,H T=some (.ke ps)/\TriplesOk ps.toList/\∀p∈L,DX p.1 ps.toList=none∨∃c,DX p.1 ps.toList=some (.ref c)/\H c=some (yq c p.2)
theorem Tab.same{H H':Hp}{T:Addr}{L:List (Pos×Str)}(x:Tab H T L)(s:Same H H'):Tab H' T L:=by
 obtain⟨ps,h1,h2,h3⟩:=x
 refine⟨ps,s _ _ h1,h2,λp hp=>?_⟩
 rcases h3 p hp with z | ⟨c,z,q⟩
 ·exact .inl z
 ·exact .inr ⟨c,z,s _ _ q⟩
theorem MJ{p q:Pos}{c:Value}:∀(l:List Value),TriplesOk l->∀d,DX p (l++[A3 q.line,A3 q.col,c])=some d->DX p l=some d∨(DX p l=none/\p.line=q.line/\p.col=q.col/\d=c):=by
 intro l
 fun_induction TriplesOk l with
 | case1=>
  intro _ d h
  simp only[Eu,DX,A3] at h
  split at h
  ·rename_i hc
   simp at hc
   cases h
   exact .inr ⟨rfl,by omega,by omega,rfl⟩
  ·cases h
 | case2 a t b u x rest ih=>
  intro hl d h
  simp only[List.cons_append,DX] at h ⊢
  split at h
  ·rename_i hc;rw[if_pos hc];exact .inl h
  ·rename_i hc;rw[if_neg hc];exact ih hl d h
 | case3 l h1 h2=>intro h;exact h.elim
def Apart(L:List (Pos×Str)):Prop:=∀p∈L,∀q∈L,p.1.line=q.1.line->p.1.col=q.1.col->p=q
theorem Tab.grown{H H':Hp}{T c':Addr}{L:List (Pos×Str)}{ps:Array Value}{q:Pos×Str}(hq:q∈L)(ap:Apart L)(h2:TriplesOk ps.toList)(h3:∀p∈L,DX p.1 ps.toList=none∨∃c,DX p.1 ps.toList=some (.ref c)/\H c=some (yq c p.2))
  (hT:H' T=some (.ke (ps++ #[A3 q.1.line,A3 q.1.col,.ref c']))) (hc:H' c'=some (yq c' q.2)) (k:∀b φ,H b=some (.ext φ)->H' b=some (.ext φ)):Tab H' T L:=by
 have e:(ps++ #[A3 q.1.line,A3 q.1.col,.ref c']).toList=ps.toList++[A3 q.1.line,A3 q.1.col,.ref c']:=by simp
 refine⟨_,hT,by rw[e];exact TriplesOk_snoc _ _ _ _ h2,λp hp=>?_⟩
 rw[e]
 cases z:DX p.1 (ps.toList++[A3 q.1.line,A3 q.1.col,.ref c']) with
 | none=>exact .inl rfl
 | some d=>
  rcases MJ _ h2 d z with y | ⟨_,y1,y2,y3⟩
  ·rcases h3 p hp with n | ⟨c,n,r⟩
   ·rw[n] at y;cases y
   ·rw[n] at y;cases y
    exact .inr ⟨c,rfl,k _ _ r⟩
  ·have:=ap p hp q hq y1 y2
   subst this
   subst y3
   exact .inr ⟨c',rfl,hc⟩
section
variable{X:Cx}{pos:Pos}{params:EV}{body:Expr}{scope:Scope}{c T:Addr}{clos:List (Str×Addr)}{L:List (Pos×Str)}{bm:Addr}{ob:Obj}
abbrev lamO (X:Cx)(params:EV)(body:Expr)(scope:Scope)(clos:List (Str×Addr))(c':Addr)(ctv:Value):Obj:=PySem.W.kla_obj "<lambda>" (X.env.qual++"<lambda>") params body scope clos ((X.mg "__name__").getD .none) c' ctv
def XM(X:Cx)(params:EV)(body:Expr)(scope:Scope)(clos:List (Str×Addr))(T:Addr)(L:List (Pos×Str)):TE:=λσ H Q=>
 Tab H T L/\∀f c' ctv H',H f=none->H' f=some (Ip f (lamO X params body scope clos c' ctv))->H' c'=some (yq c' (X.env.qual++"<lambda>"))->Tab H' T L->KB T H H'->Q (.ref f) H'
def eG(mg:Str->Option Value)(base:Heap):Prop:=
 ∃bm o,mg "__builtins__"=some (.ref bm)/\bm≠GA/\base.get? bm=some o/\o.cls=.type "module"/\o.dict=some GA/\o.data=.plain
theorem XN(hcode:X.env.code=.ref c)(C:EI X.base c T)(hB:eG X.mg X.base)(hcl:HU scope X.env=pure clos)(hdef:defaultsOf params X.env=([],[]))(hL:(pos,X.env.qual++"<lambda>")∈L)(ap:Apart L)(hfs:X.ex=[]):
  PE X (.Lambda params body scope pos) (XM X params body scope clos T L):=by
 intro pins s σ H Q I ⟨⟨ps,hT,ht,htab⟩,h⟩
 refine PySem.W.kla_eval hdef ?_
 have TU:s.heap.get? T=some (Bn ps):=I.hok T _ hT
 have hg:s.heap.Ns AY X.mg:=I.ok.mod.glob.keeps I.bk
 have hgT:AY≠T:=λq=>by
  obtain⟨o,es,ep,e,hd,_⟩:=hg
  rw[q,TU] at e;cases e;cases hd
 have TV:s.heap.BuiltinsAt X.mg T:=by
  obtain⟨bm,o,h1,h2,h3,h4,h5,h6⟩:=hB
  refine⟨bm,o,h1,h2,λq=>?_,λq=>?_,I.bk _ _ h3,h4,h5,h6⟩
  ·obtain⟨o',es,ep,e,hd,_⟩:=I.ok.mod.glob
   rw[q,e] at h3;cases h3;rw[hd] at h6;cases h6
  ·have:=I.bk _ _ h3
   rw[q,TU] at this;cases this;cases h4
 have hCs:=C.keeps I.bk
 rcases htab _ hL with hn | ⟨c',hc',hHc⟩
 ·refine PySem.W.kla_makeFunction (mg:=X.mg) hcl I.ok.glob hg hcode hCs TU ht hn hgT TV λc' ctv h' tk hx hge hlt hrec htb=>?_
  have nc:H c'=none:=I.hok.fresh hge
  have szh:s.heap.objs.size<=h'.objs.size:=C8 (Ay hge hlt)
  have nf:H h'.objs.size=none:=I.hok.fresh szh
  have fc:h'.objs.size≠c':=CH hlt
  have Tc:T≠c':=aA hT nc
  have Tf:T≠h'.objs.size:=aA hT nf
  have fT:=C1 Tf
  have cT:=C1 Tc
  have keep:∀b o,b≠T->s.heap.get? b=some o->(h'.push (lamO X params body scope clos c' ctv)).get? b=some o:=λb o hb e=>AE _ (hx b o hb e)
  let H':Hp:=upd (upd (upd H T (.ke (ps++ #[A3 pos.line,A3 pos.col,.ref c']))) c' (yq c' (X.env.qual++"<lambda>"))) h'.objs.size (Ip h'.objs.size (lamO X params body scope clos c' ctv))
  have eT:H' T=some (.ke (ps++ #[A3 pos.line,A3 pos.col,.ref c'])):=by show upd _ _ _ _=_;rw[aB Tf,aB Tc,af]
  have ec:H' c'=some (yq c' (X.env.qual++"<lambda>")):=by show upd _ _ _ _=_;rw[aB fc.symm,af]
  have ef:H' h'.objs.size=some (Ip h'.objs.size (lamO X params body scope clos c' ctv)):=af
  have eo:∀b,b≠T->b≠c'->b≠h'.objs.size->H' b=H b:=λb h1 h2 h3=>by show upd _ _ _ _=_;rw[aB h3,aB h2,aB h1]
  have kb:KB T H H':=λb o e hb=>by rw[eo b hb (aA e nc) (aA e nf)];exact e
  have hnew:∀b o,s.heap.get? b=some o->b≠c'/\b≠h'.objs.size:=λb o e=>⟨Al (AX (AR e) hge),Al (AX (AR e) szh)⟩
  have XO:=Tab.grown (H:=H) (H':=H') hL ap ht htab eT ec λb φ e=>kb b _ e λz=>by rw[z,hT] at e;cases e
  have hok':dW X.prog X.w H' (h'.push (lamO X params body scope clos c' ctv)):=λb u e=>by
   by_cases b1:b=T
   ·subst b1
    rw[eT] at e;cases e
    exact AE _ htb
   by_cases b2:b=c'
   ·subst b2
    rw[ec] at e;cases e
    exact XJ (hrec.push _)
   by_cases b3:b=h'.objs.size
   ·subst b3
    rw[ef] at e;cases e
    exact Ow (AV _ rfl)
   rw[eo b b1 b2 b3] at e
   refine(I.hok b u e).stay (λd v hd q=>keep d v ?_ q) (λd q=>kb d _ q ?_) λd xs q=>kb d _ q ?_
   ·rintro rfl
    rcases hd with z | z
    ·exact b1 z.symm
    ·rw[hT] at z;cases z
   ·rintro rfl;rw[hT] at q;cases q
   ·rintro rfl;rw[hT] at q;cases q
  refine⟨.ref h'.objs.size,H',?_,rfl,h _ _ _ _ nf ef ec XO kb⟩
  have ne_T:∀b,H b=none->b≠T:=λb n z=>by rw[z,hT] at n;cases n
  refine I.un ⟨λb o e n _ _=>keep b o (ne_T b n) e,λb o e n _ _=>⟨o.slots,keep b o (ne_T b n) e⟩,λb o e n _=>by rw[eo b (ne_T b n) (hnew b o e).1 (hnew b o e).2];exact n,λb o e _=>?_,λb xs e=>kb b _ e λz=>?_,λb o u e=>kb b _ e λz=>?_,λb qs e=>?_⟩ hok'
  ·by_cases hb:b=T
   ·subst hb;exact⟨_,AE _ htb⟩
   ·exact⟨o,keep b o hb e⟩
  ·rw[z,hT] at e;cases e
  ·rw[z,hT] at e;cases e
  ·by_cases hb:b=T
   ·subst hb
    rw[hT] at e;cases e
    exact⟨_,eT⟩
   ·exact⟨#[],by rw[kb b _ e hb];simp⟩
 ·refine PySem.W.kla_makeFunctionHit (mg:=X.mg) hcl I.ok.glob hg hcode hCs TU ht hc' TV λctv h' tk hk hsz=>?_
  have nf:H h'.objs.size=none:=I.hok.fresh hsz
  have keep:∀b o,s.heap.get? b=some o->(h'.push (lamO X params body scope clos c' ctv)).get? b=some o:=λb o e=>AE _ (hk b o e)
  have kb:Same H (upd H h'.objs.size (Ip h'.objs.size (lamO X params body scope clos c' ctv))):=λb o e=>by rw[aB (aA e nf)];exact e
  refine⟨.ref h'.objs.size,upd H h'.objs.size (Ip h'.objs.size (lamO X params body scope clos c' ctv)),I.laid keep hsz (Ow (AV _ rfl)),rfl,h _ c' ctv _ nf af (kb _ _ hHc) (Tab.same ⟨ps,hT,ht,htab⟩ kb) λb o e _=>kb b o e⟩
end
def dA(D:List Addr)(H:Hp):Hp:=λb=>if b∈D then none else H b
def nz(D:List Addr)(H H2:Hp):Hp:=λb=>if b∈D then H b else H2 b
theorem pV{D:List Addr}{H:Hp}{b:Addr}(h:b∈D):dA D H b=none:=if_pos h
theorem jx{D:List Addr}{H:Hp}{b:Addr}(h:b ∉ D):dA D H b=H b:=if_neg h
theorem Ls{D:List Addr}{H H2:Hp}{b:Addr}(h:b∈D):nz D H H2 b=H b:=if_pos h
theorem gN{D:List Addr}{H H2:Hp}{b:Addr}(h:b ∉ D):nz D H H2 b=H2 b:=if_neg h
def wide(h:Heap)(H:Hp)(fs:List Addr):Heap:=PySem.W.hideAll (m6 h H) fs
theorem Ox(h:Heap)(H:Hp)(fs:List Addr):(wide h H fs).objs.size=h.objs.size:=(Gj _ _).trans (xK _ _)
theorem uI{h:Heap}{H:Hp}{fs:List Addr}{b:Addr}{o:Obj}(e:h.get? b=some o)(n:H b=none)(nf:b ∉ fs):(wide h H fs).get? b=some o:=G_ _ (zG e n) nf
theorem VN{h:Heap}{H:Hp}{fs:List Addr}{b:Addr}{o:Obj}(e:(wide h H fs).get? b=some o):h.get? b=some o/\H b=none:=K6 (HP fs e)
theorem Oy{h:Heap}{H:Hp}{fs:List Addr}{b:Addr}(hb:b∈fs):(wide h H fs).get? b=none:=Gk fs hb
theorem funFrames_base{h base base':Heap}:∀{l:List Env},h.FunFrames base l->(∀b∈frs l,base'.get? b=none)->h.FunFrames base' l
 | [],_,_=>trivial
 | env::r,⟨hk,⟨L,o,hf,hn,ho,hd⟩,hr⟩,k=>by
  have e:frs (env::r)=L::frs r:=by unfold frs;rw[Df,hf]
  exact⟨hk,⟨L,o,hf,k L (by rw[e];exact AL),ho,hd⟩,funFrames_base hr λb hb=>k b (by rw[e];exact AJ _ hb)⟩
structure Wide (X:Cx)(σ:St)(D:List Addr)(H:Hp)(base':Heap):Prop where
 sub:∀b o,X.base.get? b=some o->base'.get? b=some o
 mod:Mod X.K X.mg base'
 ext:∀a φ,a∈D->H a=some (.ext φ)->φ base'
 val:∀(i:Nat) (x:Str) (v:V),X.N[i]? =some x->σ[i]? =some (some v)->X.env.scope.names.lookup x=some .cell->∃c u,X.env.cells.lookup x=some c/\base'.IsCell c (some u)/\RelV v u
 cell:∀x c,X.env.cells.lookup x=some c->∃v,base'.IsCell c v
 inj:∀x y c,X.env.cells.lookup x=some c->X.env.cells.lookup y=some c->x=y
section
variable{X:Cx}{k:Nat}{f:Addr}{fd:Av}{ps:List Str}{sp:Sp}{pins:List (Addr×Obj)}{σ:St}{H:Hp}{s:AN}{D:List Addr}
theorem Lu(I:Inv X pins σ H s)(hfn:∀x,X.fn x=true)(hD:∀a∈D,∃φ,H a=some (.ext φ)):Wide X σ D H (wide s.heap (dA D H) (frs X.stack)):=by
 have nD:∀b,H b=none->b ∉ D:=λb n z=>by obtain⟨φ,e⟩:=hD b z;rw[n] at e;cases e
 have nfr:∀b o,X.base.get? b=some o->b ∉ frs X.stack:=λb o e z=>by
  rcases Ae.mp (I.rN b z) with q | q
  ·have:=AR e
   rw[q] at this
   exact absurd (AX this (A5 I.ok.ua I.ok.above)) (BQ _)
  ·exact I.ok.WG e q
 have sub:∀b o,X.base.get? b=some o->(wide s.heap (dA D H) (frs X.stack)).get? b=some o:=λb o e=>
  uI (I.bs b o e).1 (by rw[jx (nD b (I.bs b o e).2)];exact(I.bs b o e).2) (nfr b o e)
 have cellK:∀x c v,X.env.cells.lookup x=some c->s.heap.IsCell c v->(wide s.heap (dA D H) (frs X.stack)).IsCell c v:=λx c v e ⟨o,ho,hd⟩=>by
  refine⟨o,uI ho (by rw[jx (nD c (I.iN x c e))];exact I.iN x c e) λz=>?_,hd⟩
  rcases Ae.mp (I.rN c z) with q | q
  ·exact I.xM x c e q
  ·obtain⟨_,o',ho',_⟩:=I.ok.kh.mem q
   exact absurd (AX (AR ho') (I.ok.cab x c (hfn x) e)) (BQ _)
 refine⟨sub,⟨I.ok.mod.t9.keeps sub,I.ok.mod.glob.keeps sub,?_,I.ok.mod.nolimit.keeps sub⟩,λa φ ha e=>?_,λi x v h1 h2 h3=>?_,λx c e=>?_,I.ok.inj⟩
 ·obtain⟨mb,h1,h2⟩:=I.ok.mod.blt
  exact⟨mb,h1.keeps sub,h2⟩
 ·obtain⟨p,⟨o,ho⟩,st⟩:=I.hok a _ e
  refine st _ _ p λo' e'=>uI e' (pV ha) λz=>?_
  rw[I.pJ a z] at e;cases e
 ·obtain⟨m,_,hl⟩:=I.loc
  obtain⟨u,r,l⟩:=hl i x v h1 h2 (.inr (.inl h3))
  rcases l with⟨q,_⟩ | ⟨_,c,e,z⟩
  ·have q':X.env.scope.names.lookup x=some .local:=q
   rw[h3] at q';cases q'
  ·exact⟨c,u,e,cellK x c _ e z,r⟩
 ·obtain⟨v,z⟩:=I.cell x c e
  exact⟨v,cellK x c v e z⟩
theorem VO{Q:VK}{us:List Value}{vs:List V}(I:Inv X pins σ H s)(hfn:∀x,X.fn x=true)(hD:∀a∈D,∃φ,H a=some (.ext φ))(F:aO X.prog X.w X.K X.mg (wide s.heap (dA D H) (frs X.stack)) aW k f fd ps sp)(hr:aK k X.A)
  (hb:Binds X.K fd ps []) (r:Vals vs us) (h:sp vs (dA D H) (λv H2=>(∀b∈D,H2 b=none)->Q v (nz D H H2)) E0):wpAny (model X.prog X.w) X.A (call (.ref f) us) (EP X pins σ Q) X.xe s:=by
 have W:=Lu I hfn hD
 have hl:(us++[]).length=ps.length:=by rw[A8,<-r.length];exact F.len _ _ _ _ h
 have vM:∀b u,H b=some u->(∀φ,u≠.ext φ)->dA D H b=some u:=λb u e ne=>by
  rw[jx λz=>?_];exact e
  obtain⟨φ,q⟩:=hD b z
  rw[e] at q;cases q;exact ne φ rfl
 have uU:∀b u,dA D H b=some u->b ∉ D/\H b=some u:=λb u e=>by
  by_cases hb:b∈D
  ·rw[pV hb] at e;cases e
  ·rw[jx hb] at e;exact⟨hb,e⟩
 have aeu:dW X.prog X.w (dA D H) s.heap:=λb u e=>(I.hok b u (uU b u e).2).stay (λ_ _ _ q=>q) (λd q=>vM d _ q λφ z=>nomatch z) λd xs q=>vM d _ q λφ z=>nomatch z
 have nU:∀b,H b=none->dA D H b=none:=λb n=>by
  by_cases hb:b∈D
  ·exact pV hb
  ·rw[jx hb];exact n
 have e0:wM X.prog X.w X.K X.mg (wide s.heap (dA D H) (frs X.stack)) X.A X.stack s (dA D H):=
  ⟨I.ok.frames,W.mod,λb o e=>VN e,Nat.le_of_eq (Ox _ _ _),funFrames_base I.stack λb hb=>Oy hb,λb hb=>nU b (I.pJ b hb),aeu,I.bare⟩
 refine wpAny_call (EA (F.run X.A X.stack s (dA D H) ⟨us,[]⟩ us vs _ _ hr e0 (by have:=hb s us I.i8 hl;rwa [A8] at this) r h) λr s' hq=>?_)
 cases r with
 | error e=>exact hq.elim
 | ok fl=>
  cases fl with
  | next=>exact Bb hq
  | brk=>exact Bb hq
  | cont=>exact Bb hq
  | ret u=>
   obtain⟨v,H2,os,bare,un,hok,r,q⟩:=hq
   have inD:∀b,b∈D->∃φ o,H b=some (.ext φ)/\s.heap.get? b=some o/\s'.heap.get? b=some o/\H2 b=none:=λb hb=>by
    obtain⟨φ,e⟩:=hD b hb
    obtain⟨p,⟨o,ho⟩,st⟩:=I.hok b _ e
    refine⟨φ,o,e,ho,un.keep b o ho (pV hb) (λz=>?_) (by simp),un.free b o ho (pV hb) (by simp)⟩
    rw[I.pJ b z] at e;cases e
   have nd2:∀b u,H2 b=some u->b ∉ D:=λb u e z=>by obtain⟨_,_,_,_,_,n⟩:=inD b z;rw[n] at e;cases e
   have aev:dW X.prog X.w (nz D H H2) s'.heap:=λb u e=>by
    by_cases hb:b∈D
    ·rw[Ls hb] at e
     obtain⟨φ,o,e1,ho,ho',_⟩:=inD b hb
     rw[e1] at e;cases e
     obtain⟨p,_,st⟩:=I.hok b _ e1
     exact⟨st _ _ p λo2 e2=>by rw[ho] at e2;cases e2;exact ho',⟨o,ho'⟩,st⟩
    ·rw[gN hb] at e
     exact(hok b u e).stay (λ_ _ _ q=>q) (λd q=>by rw[gN (nd2 d _ q)];exact q) λd xs q=>by rw[gN (nd2 d _ q)];exact q
   have unR:Un (frs X.stack) [] H (nz D H H2) s.heap s'.heap:=by
    have nD:∀b,H b=none->b ∉ D:=λb n z=>by obtain⟨φ,e⟩:=hD b z;rw[n] at e;cases e
    refine⟨λb o e n h1 h2=>un.keep b o e (nU b n) h1 h2,λb o e n h1 h2=>un.slot b o e (nU b n) h1 h2,λb o e n h2=>by rw[gN (nD b n)];exact un.free b o e (nU b n) h2,un.there,λb xs e=>?_,λb o u e=>?_,λb qs e=>?_⟩
    ·have e1:=vM b _ e λφ z=>nomatch z
     rw[gN (uU b _ e1).1];exact un.tups b xs e1
    ·have e1:=vM b _ e λφ z=>nomatch z
     rw[gN (uU b _ e1).1];exact un.mZ b o u e1
    ·have e1:=vM b _ e λφ z=>nomatch z
     rw[gN (uU b _ e1).1];exact un.m_ b qs e1
   exact I.after ⟨v,_,os,bare,unR,aev,r,q λb hb=>by obtain⟨_,_,_,_,_,n⟩:=inD b hb;exact n⟩
end
section
variable{X:Cx}{x:Str}{p pos:Pos}{e:Expr}{es:List Expr}{t:TA}{k:Nat}{f:Addr}{fd:Av}{ps:List Str}
def XQ(X:Cx)(k:Nat)(f:Addr)(fd:Av)(ps:List Str)(t:TA):TE:=λσ H Q=>t σ H λvs H1=>∃D:List Addr,(∀a∈D,∃φ,H1 a=some (.ext φ))/\
 ∀base':Heap,Wide X σ D H1 base'->∃sp:Sp,aO X.prog X.w X.K X.mg base' aW k f fd ps sp/\sp vs (dA D H1) (λv H2=>(∀b∈D,H2 b=none)->Q v (nz D H1 H2)) E0
theorem RA(hfn:∀x,X.fn x=true)(hr:aK k X.A)(hg:Gl X x)(hm:X.mg x=some (.ref f))(hk:AH X.K (.ref f)=true)(hb:Binds X.K fd ps [])
  (ha:PA X (e::es) t) (hdb:(x == ("__debug__":Str))=false:=by decide) (he:BE (e::es) X.env=(false,eval e X.env)::BE es X.env:=by rfl) (hpl:(D8 pos (BE es X.env)).any (·.1)=false:=by rfl):
  PE X (.Call (.Name x p) (e::es) [] pos) (XQ X k f fd ps t):=by
 intro pins s σ H Q I h
 refine B2 (wK I hg hm ?_ hdb)
 refine HQ (h₀:=X.base) I.ok.mod.t9 hk (aQ (ha pos pins s σ H _ I h) ?_) he hpl
 rintro us s1 ⟨vs,H1,I1,r,D,hD,q⟩
 refine⟨I1.i8,?_⟩
 obtain⟨sp,F,hsp⟩:=q _ (Lu I1 hfn hD)
 exact VO I1 hfn hD F hr hb r hsp
end
def tR(ts:List Addr)(H:Hp):Prop:=(∀b,H b=none∨(∃o xs,H b=some (.eZ o (.lst xs)))∨(b∈ts/\H b=some (.ke #[])))/\∀b∈ts,H b=some (.ke #[])
theorem tR.tab{ts:List Addr}{H:Hp}{T:Addr}{L:List (Pos×Str)}(x:tR ts H)(h:T∈ts):Tab H T L:=⟨#[],x.2 T h,trivial,λp _=>.inl rfl⟩
theorem Oz{P:Ah}{w:World}{K:AB}{mg mb:Str->Option Value}{CX:rV}{k:Nat}{fa a:Addr}{fd:Av}{x:Str}{sp:Sp}{s₁:AN}{vs:List Value}{ns:List Int}{ts:List Addr}
  (KX:K.In s₁.heap) (hns:s₁.heap.Ns AY mg) (hb:s₁.heap.Ns GA mb) (hbb:∀x:Str,x≠"__name__"->mb x=BN x) (hlim:s₁.heap.NoLimit) (hg:s₁.gens= #[])
  (ha:s₁.heap.get? a=some {cls:=.type "list",data:=.seq vs.toArray}) (hi:GC vs ns) (hl:ns.length<=sizeLine) (hr:aK k G6)
  (hts:∀T∈ts,(∃c,EI s₁.heap c T)/\s₁.heap.get? T=some (Bn #[])/\K.lookup T=none) (TV:eG mg s₁.heap)
  (F:∀base:Heap,K.In base->base.Ns AY mg->eG mg base->aO P w K mg base CX k fa fd [x] sp) (hbind:∀(s:AN) (u:Value),Ha s fd ⟨[u],[]⟩ [(x,u)])
  (hsp:∀H:Hp,tR ts H->bM K H a (ns.map V.int)->sp [.ref a] H (λv _=>v=.bl true) λ_ _ _=>False)
  (hCX:∀H e s',CX [] H s₁ (λ_ _ _=>False) e s'->False):
  Ea (model P w) G6 (.call (.ref fa) ⟨[.ref a],[]⟩) (λr s'=>r=.ok (.ret (.bool true))/\OldK s₁.heap s'.heap/\s'.os=s₁.os/\FT s'.gens) s₁:=by
 have rv:=xY hi
 have lenV:=hi.length
 have aT:a ∉ ts:=λz=>by
  have:=(hts a z).2.1
  rw[ha] at this;cases this
 have core:∀H:Hp,tR ts H->bM K H a (ns.map V.int)->dW P w H s₁.heap->(∀b,H b≠none->b=a∨b∈ts)->(H a≠none->K.lookup a=none)->
   Ea (model P w) G6 (.call (.ref fa) ⟨[.ref a],[]⟩) (λr s'=>r=.ok (.ret (.bool true))/\OldK s₁.heap s'.heap/\s'.os=s₁.os/\FT s'.gens) s₁:=by
  intro H hO hS hok hA hK
  have xb:∀{b:Addr} {o:Obj},s₁.heap.get? b=some o->H b=none->(m6 s₁.heap H).get? b=some o:=λe n=>zG e n
  have ud:∀{b:Addr} {o:Obj},s₁.heap.get? b=some o->o≠{cls:=.type "list",data:=.seq vs.toArray}->o≠Bn #[]->H b=none:=λ{b o} e d1 d2=>by
   cases q:H b with
   | none=>rfl
   | some u=>
    rcases hA b (by rw[q];simp) with e' | e'
    ·subst e'
     rw[ha] at e;cases e
     exact absurd rfl d1
    ·have:=(hts b e').2.1
     rw[e] at this;cases this
     exact absurd rfl d2
  have TX:∀{b:Addr} {m:Str->Option Value},s₁.heap.Ns b m->(m6 s₁.heap H).Ns b m:=λ{b m} ⟨o,es,ep,e,d,r⟩=>⟨o,es,ep,xb e (ud e (λz=>by rw[z] at d;cases d) λz=>by rw[z] at d;cases d),d,r⟩
  have hKb:K.In (m6 s₁.heap H):=λb o e=>xb (KX b o e) (by
   cases q:H b with
   | none=>rfl
   | some u=>
    rcases hA b (by rw[q];simp) with e' | e'
    ·subst e'
     rw[hK (by rw[q];simp)] at e;cases e
    ·rw[(hts b e').2.2] at e;cases e)
  have hBb:eG mg (m6 s₁.heap H):=by
   obtain⟨bm,o,h1,h2,h3,h4,h5,h6⟩:=TV
   exact⟨bm,o,h1,h2,xb h3 (ud h3 (λz=>by rw[z] at h4;exact absurd (Value.type.inj h4) (by decide)) λz=>by rw[z] at h4;cases h4),h4,h5,h6⟩
  have hM:Mod K mg (m6 s₁.heap H):=⟨hKb,TX hns,⟨mb,TX hb,hbb⟩,let ⟨mc,h1,h2⟩:=hlim;⟨mc,TX h1,h2⟩⟩
  have e0:wM P w K mg (m6 s₁.heap H) G6 [] s₁ H:=⟨rfl,hM,λb o e=>K6 e,Nat.le_of_eq (xK _ _),trivial,λb hb=>absurd (show b∈([]:List Addr) from hb) (by simp),hok,.of_eq hg⟩
  refine EA ((F _ hKb (TX hns) hBb).run G6 [] s₁ H ⟨[.ref a],[]⟩ [.ref a] [.ref a] _ _ hr e0 (hbind s₁ (.ref a)) (.cons rfl .nil) (hsp H hO hS)) λr s' h=>?_
  cases r with
  | error e=>exact(hCX H e s' h).elim
  | ok fl=>
   cases fl with
   | next=>exact Bb h
   | brk=>exact Bb h
   | cont=>exact Bb h
   | ret u=>
    obtain⟨v,H',os,bare,un,hok',r',q⟩:=h
    have q':v=.bl true:=q
    subst q'
    obtain rfl:u=Hv true:=r'
    refine⟨rfl,⟨λb o e=>?_,λb o e=>un.there b o e (by simp)⟩,os,bare⟩
    cases q:H b with
    | none=>exact .inl (un.keep b o e q (by intro z;exact absurd (show b∈([]:List Addr) from z) (by simp)) (by simp))
    | some u=>
     rcases hO.1 b with z | ⟨ob,xs,z⟩ | ⟨hb,z⟩
     ·rw[q] at z;cases z
     ·have z2:=un.mZ b ob _ z
      obtain⟨e1,_⟩:=hok b _ z
      obtain⟨e2,_⟩:=hok' b _ z2
      rw[e] at e1;cases e1
      exact .inl e2
     ·obtain⟨more,z2⟩:=un.m_ b _ z
      have e2:s'.heap.get? b=some (Bn (#[]++more)):=hok' b _ z2
      obtain⟨⟨c,hc⟩,e3,_⟩:=hts b hb
      have e4:o=Bn #[]:=by rw[e] at e3;exact AS e3
      subst e4
      exact .inr (.inl ⟨(hc.tab e3).isCodeTable,rfl, #[],more,rfl,e2⟩)
 have tne:∀T∈ts,T≠a:=λT hT z=>aT (z▸hT)
 cases hk:K.lookup a with
 | some o=>
  have e:=KX a o hk
  rw[ha] at e
  cases e
  refine core (λb=>if b∈ts then some (.ke #[]) else none) ⟨λb=>?_,λb hb=>if_pos hb⟩ (.inr ⟨_,vs.toArray,_,hk,rfl,rfl,rfl,by rw[Ai,lenV];exact hl,by simpa using rv⟩) (λb u z=>?_) (λb z=>?_) λz=>absurd (if_neg aT) z
  ·by_cases hb:b∈ts
   ·exact .inr (.inr ⟨hb,if_pos hb⟩)
   ·exact .inl (if_neg hb)
  ·by_cases hb:b∈ts
   ·have z':=(if_pos hb).symm.trans z
    cases z'
    exact(hts b hb).2.1
   ·have z':=(if_neg hb).symm.trans z
    cases z'
  ·by_cases hb:b∈ts
   ·exact .inr hb
   ·exact absurd (if_neg hb) z
 | none=>
  have eA:∀b,b=a->(if b∈ts then some (HO.ke #[]) else if b=a then some (HO.eZ {cls:=.type "list",data:=.seq vs.toArray} (.lst (ns.map V.int))) else none)=some (HO.eZ {cls:=.type "list",data:=.seq vs.toArray} (.lst (ns.map V.int))):=λb hb=>by
   rw[if_neg (hb▸aT),if_pos hb]
  have eN:∀b,b ∉ ts->b≠a->(if b∈ts then some (HO.ke #[]) else if b=a then some (HO.eZ {cls:=.type "list",data:=.seq vs.toArray} (.lst (ns.map V.int))) else none)=none:=λb h1 h2=>by
   rw[if_neg h1,if_neg h2]
  refine core (λb=>if b∈ts then some (.ke #[]) else if b=a then some (.eZ {cls:=.type "list",data:=.seq vs.toArray} (.lst (ns.map V.int))) else none) ⟨λb=>?_,λb hb=>if_pos hb⟩ (.inl (.inr ⟨{cls:=.type "list",data:=.seq vs.toArray},eA a rfl⟩)) (λb u z=>?_) (λb z=>?_) λ_=>hk
  ·by_cases hb:b∈ts
   ·exact .inr (.inr ⟨hb,if_pos hb⟩)
   by_cases hb2:b=a
   ·exact .inr (.inl ⟨_,_,eA b hb2⟩)
   ·exact .inl (eN b hb hb2)
  ·by_cases hb:b∈ts
   ·have z':=(if_pos hb).symm.trans z
    cases z'
    exact(hts b hb).2.1
   by_cases hb2:b=a
   ·have z':=(eA b hb2).symm.trans z
    cases z'
    subst hb2
    exact⟨ha,by rw[AA];exact hl,vs,_,rv,ha⟩
   ·have z':=(eN b hb hb2).symm.trans z
    cases z'
  ·by_cases hb:b∈ts
   ·exact .inr hb
   by_cases hb2:b=a
   ·exact .inl hb2
   ·exact absurd (eN b hb hb2) z
theorem RB{l:GW}{n k:Nat}{q:Ah}{loose:List Str}{XP:(Str->Option Value)->Heap->Prop}{YP:World->Heap->Prop}{d:DefRec}{K:Gw->AB}{sp:World->List Addr->Sp}{x:Str}
  (hn:l.most=some n) (hn2:n<=sizeLine) (hdf:d.params.defaults=[]) (hr:aK k G6)
  (hY:∀(w:World) (h:Heap),YP w h->(K w.params).In h)
  (F:∀(w:World) (mg:Str->Option Value) (fa:Addr) (h:Heap),(K w.params).In h->h.Ns AY mg->mg d.name=some (.ref fa)->YP w h->
   ∃(fd:Av) (ts:List Addr),(∀T∈ts,(∃c,EI h c T)/\h.get? T=some (Bn #[])/\(K w.params).lookup T=none)/\(∀(s:AN) (u:Value),Ha s fd ⟨[u],[]⟩ [(x,u)])/\
    ∀base:Heap,(K w.params).In base->base.Ns AY mg->eG mg base->aO l.prog w (K w.params) mg base aW k fa fd [x] (sp w ts))
  (hsp:∀(w:World) (H:Hp) (a:Addr) (ns:List Int) (ts:List Addr),ns.length<=n->tR ts H->bM (K w.params) H a (ns.map V.int)->sp w ts [.ref a] H (λv _=>v=.bl true) λ_ _ _=>False):
  PySem.W.WalkO q loose XP YP l.row.toRowW d [] (λf vs=>Hw f vs):=by
 refine Att.KD hn hdf λw s₀ s₁ mg mb fa o pm cd doc a vs ns G Y ho hd hcd hmg hobj hints hlen hg=>?_
 have KX:=hY w _ Y
 obtain⟨fd,ts,h1,hb,hF⟩:=F w mg fa _ KX G.T.g hmg Y
 obtain⟨bm,ob,b1,b2,b3,b4⟩:=G.T.bmain
 exact Oz KX G.T.g G.T.b G.T.builtins G.T.nolimit hg hobj hints (A5 hlen hn2) hr h1 ⟨bm,ob,b1,b2,b3,b4⟩ hF hb (λH hO hS=>hsp w H a ns ts hlen hO hS) λH e s'=>id
theorem pW:E_ (.type "list") "keys"=pure none:=by rw[DF,CB];kernel_rfl
section
variable{P:Ah}{w:World}{A:BB}{E:Value->AN->Prop}{s:AN}
theorem Iq{a:Addr}{xs:Array Value}{k:Nat}{Q:Option Value->AN->Prop}(hx:s.heap.get? a=some {cls:=.type "list",data:=.seq xs k})(hA:A.handled=none)
  (h:∀h' tk,(∀b o,s.heap.get? b=some o->h'.get? b=some o)->Q none {s with heap:=h',toks:=tk}):wpAny (model P w) A (getAttr? (.ref a) "keys") Q E s:=by
 obtain⟨hp,g,d,tk,os⟩:=s
 have hT:∀tk',(⟨hp,g,d,tk',os⟩:AN).TypeIs (.ref a) "list":=λ_=>⟨_,hx,rfl⟩
 have f1:=sub_AttributeError
 have f3:=Dm.lookup
 have f4:=Dm.bind (.ref a)
 have f5:=am_list_getattr_none
 have f6:=pW
 unfold getAttr? getAttrBy? getAttrBy
 repeat (any_goals (first | assumption | exact hT _ | ((with_reducible show wpAny _ _ (call (Value.builtin "list.__getattribute__") _ _) _ _ _);refine FC Dm (hT _) am_entry_list_getattribute (F.args_list_getattribute_2 _ _) (meets_getattribute_miss_list a xs k #[] "keys" _ pW (by decide+kernel) (by size_fits)) ⟨hx,hA,λh' tk' e hx'=>?_⟩) | wp_step))
 obtain⟨t',u',he⟩:=hx'.there
 show wpAny _ _ (D4 _ _ _ _ _ _ _) _ _ _
 unfold D4
 repeat (any_goals (first | assumption | wp_step))
 exact h _ _ hx'.keeps
end
theorem mL:entryFor table "dict.update.loop"=some Builtin.«dict.update.loop» :=entryFor_of_tree (by kernel_rfl)
theorem eE:plainId "dict.update.loop"=true:=by decide+kernel
section
variable{P:Ah}{w:World}{A:BB}{R:Result->AN->Prop}{I D:Addr}{fp wr:List Addr}{G:Array Gm->Array Gm->Prop}{n:Nat}{Pv:Nat->Value->Prop}{St:Nat->AN->Prop}
def VP(P:Ah)(w:World)(h:Heap)(D:Addr)(wr:List Addr)(Pv:Nat->Value->Prop)(more:List (Key×Value)):Prop:=∀i v,Pv i v->∃p k key u o m,v=.ref p/\more[i]? =some (k,u)/\(bf P w).is k key=true/\h.get? p=some o/\o.cls=.type "tuple"/\o.data=.seq #[key,u] m/\p≠D/\p ∉ wr
theorem yr(W:WalksS P w A.in1 I fp wr G n Pv St)(hDf:D ∉ fp)(more:List (Key×Value))(hml:more.length=n)(hb:n<sizeLine):
  ∀(k i:Nat) (j:Int) (s:AN),n-i=k->i<=n->St i s->VP P w s.heap D wr Pv more->s.heap.DictOf (bf P w) D (GG [] (more.take i))->
   (∀s',Moved (D::wr) G s s'->s'.heap.DictOf (bf P w) D (GG [] more)->R (.ok (.ret .none)) s')->
   Ea (model P w) A (.builtin "dict.update.loop" ⟨[.ref D,.ref I,A3 j,.none],[]⟩) R s:=by
 have hDw:D ∉ wr:=λz=>hDf (W.sub _ z)
 have sub:∀b∈wr,b∈D::wr:=λb z=>AJ _ z
 intro k
 induction k with
 | zero=>
  intro i j s hk hi st hp hd hR
  have e:i=n:=by omega
  subst e
  refine CU mL ?_
  rw[B5 eE]
  show wpAny (model P w) A.in1 (DH (.ref I) >>= _) _ _ s
  refine AD (W.done s _ _ st λs' mv=>?_)
  show wpAny (model P w) A.in1 (Builtin.Dict.addKeywords D [] >>= _) _ _ s'
  refine AD (AO ?_)
  refine AO (hR s' (mv.mono sub) ?_)
  obtain⟨o,es,ep,ho,r⟩:=hd
  rw[Bg (by omega)] at r
  exact⟨o,es,ep,mv.heap D o hDw ho,r⟩
 | succ k ih=>
  intro i j s hk hi st hp hd hR
  have lt:i<n:=by omega
  refine CU mL ?_
  rw[B5 eE]
  show wpAny (model P w) A.in1 (DH (.ref I) >>= _) _ _ s
  refine AD (W.item i s _ _ lt st λv s' hv st' mv=>?_)
  obtain⟨p,kk,key,u,o,m,rfl,em,hkey,ho,hc,hdat,pD,pw⟩:=hp i v hv
  have ho':=mv.heap p o pw ho
  have hd':s'.heap.DictOf (bf P w) D (GG [] (more.take i)):=by
   obtain⟨od,es,ep,hod,r⟩:=hd
   exact⟨od,es,ep,mv.heap D od hDw hod,r⟩
  have hT:s'.TypeIs (.ref p) "tuple":=⟨o,ho',hc⟩
  have hl:(GG [] (more.take i)).length<=sizeLine:=by
   have:=merged_length_le ([]:List (Key×Value)) (more.take i)
   rw[Ao] at this
   simp at this
   omega
  refine AD (Bp ?_)
  refine AD (wpAny_tryCatch ?_)
  unfold Builtin.Dict.pairItems
  refine AD (Cr hT ?_)
  show wpAny _ _ (G7 (.ref p) >>= _) _ _ _
  refine AD (CO ho' hdat (AO ?_))
  show wpAny _ _ (holding [key,u] (dictSet D key u)) _ _ _
  refine Bp (wpAny_dictSet_pairs (hsz:=hl) hkey hd' λh' hd2 hs=>?_)
  refine AO ⟨CY eE _,ih (i+1) (j+1) _ (by omega) lt (W.frame _ s' h' _ st' (B' _) λb hb o q=>(hs.2 b (λz=>hDf (z▸hb))).trans q) (λi2 v2 hv2=>?_) ?_ λs2 mv2 d2=>?_⟩
  ·obtain⟨p2,k2,key2,u2,o2,m2,e1,e2,e3,e4,e5,e6,e7,e8⟩:=hp i2 v2 hv2
   exact⟨p2,k2,key2,u2,o2,m2,e1,e2,e3,(hs.2 p2 e7).trans (mv.heap p2 o2 e8 e4),e5,e6,e7,e8⟩
  ·show h'.DictOf (bf P w) D (GG [] (more.take (i+1)))
   rw[merged_take_succ [] more i (kk,u) em]
   exact hd2
  ·exact hR s2 (Ho W.gtrans ((mv.mono sub).then_heap (B' _) λb o hb q=>(hs.2 b (λz=>hb (z▸AL))).trans q) mv2) d2
end
section
variable{P:Ah}{w:World}{A:BB}{E:Value->AN->Prop}{s:AN}
theorem yZ{l:Addr}{its:Array Value}{nl:Nat}{more:List (Key×Value)}{Q:Value->AN->Prop}(hh:A.handled=none)(hl:s.heap.get? l=some {cls:=.type "list",data:=.seq its nl})
  (hp:∀(i:Nat) (v:Value),its[i]? =some v->∃p k key u o m,v=.ref p/\more[i]? =some (k,u)/\(bf P w).is k key=true/\s.heap.get? p=some o/\o.cls=.type "tuple"/\o.data=.seq #[key,u] m) (hml:more.length=its.size) (hb:its.size<sizeLine)
  (h:∀h' tk,h'.DictOf (bf P w) s.heap.objs.size (GG [] more)->(∀b o,s.heap.get? b=some o->h'.get? b=some o)->Q (.ref s.heap.objs.size) {s with heap:=h',toks:=tk}):
  wpAny (model P w) A (call (.type "dict") [.ref l]) Q E s:=by
 refine Gz (Q₁:=λobj s₁=>obj=.ref s.heap.objs.size/\s₁={s with heap:=s.heap.push {cls:=.type "dict",data:=.dict #[]}}) F.kt_called_dict (F.kt_typeCall_dict_1 _) F.entry_dict_init (kt_code_dict_new _ ⟨rfl,rfl⟩) ?_
 rintro obj s₁ ⟨rfl,rfl⟩
 have hnew:(s.heap.push {cls:=.type "dict",data:=.dict #[]}).DictOf (bf P w) s.heap.objs.size []:=Ep s.heap
 have hl1:(s.heap.push {cls:=.type "dict",data:=.dict #[]}).get? l=some {cls:=.type "list",data:=.seq its nl}:=AE _ hl
 have lS:l<s.heap.objs.size:=AR hl
 refine⟨hnew.typeIs,F.args_dict_init_2 _ _,?_⟩
 unfold Builtin.«dict.__init__»
 refine AD ?_
 unfold Fj
 refine AD (wpAny_notOrdered_dict hnew.typeIs ?_)
 show wpAny _ _ (pure (s.heap.objs.size,[BF l])) _ _ _
 refine AO ?_
 show wpAny _ _ (C6 "dict.__init__" s.heap.objs.size (.ref l) [] .none) _ _ _
 unfold C6
 refine AD (Cr (show Fi {s with heap:=s.heap.push {cls:=.type "dict",data:=.dict #[]}} (.ref l) "list" from⟨_,hl1,rfl⟩) ?_)
 rw[if_pos (by decide)]
 refine AD (Iq hl1 (by simp[hh]) λh1 tk1 k1=>?_)
 rw[show(none:Option Value).isNone=true from rfl,if_pos rfl]
 refine AD (DB ?_)
 have hl2:h1.IsList l its:=⟨_,k1 _ _ hl1,rfl,nl,rfl⟩
 refine AD (D9 hl2 ?_)
 refine AO ⟨CY eE _,?_⟩
 have XR:l<h1.objs.size:=AR (k1 _ _ hl1)
 have yj:l≠h1.objs.size:=Al XR
 have Ir:s.heap.objs.size<h1.objs.size:=by
  obtain⟨o,es,ep,ho,_⟩:=hnew
  exact AR (k1 _ _ ho)
 have nf:s.heap.objs.size ∉ [h1.objs.size,l]:=by
  simp only[Ae,Bq,or_false,not_or]
  exact⟨Al Ir,CH lS⟩
 have hh3:A.in1.in1.handled=none:=by simp[hh]
 refine yr ((Walks.list hh3 _ l yj its).toS) nf more hml hb (its.size-0) 0 0 _ (by omega) (A6 _) ⟨⟨_,AV _ rfl,rfl,rfl⟩,hl2.push _⟩ (λi v hv=>?_) ?_ λs' mv hd=>?_
 ·obtain⟨p,k,key,u,o,m,e1,e2,e3,e4,e5,e6⟩:=hp i v hv
  have lp:=AR e4
  refine⟨p,k,key,u,o,m,e1,e2,e3,AE _ (k1 _ _ (AE _ e4)),e5,e6,Al lp,λz=>?_⟩
  have e9:p=h1.objs.size:=AW.mp z
  rw[e9] at lp
  exact absurd (CL lp Ir) (BQ _)
 ·show Heap.DictOf _ _ _ (GG [] (more.take 0))
  obtain⟨o,es,ep,ho,r⟩:=hnew
  exact⟨o,es,ep,AE _ (k1 _ _ ho),r⟩
 ·obtain⟨h',g',d',tk',os'⟩:=s'
  have eg:g'=s.gens:=mv.gens
  have ed:d'=s.drawn:=mv.drawn
  have eo:os'=s.os:=mv.os
  subst eg ed eo
  refine⟨rfl,h h' tk' hd λb o e=>mv.heap b o (λz=>?_) (AE _ (k1 _ _ (AE _ e)))⟩
  have lb:=AR e
  simp only[Ae,Bq,or_false] at z
  rcases z with z | z
  ·rw[z] at lb;exact BQ _ lb
  ·rw[z] at lb;exact BQ _ (CL lb Ir)
end
section
variable{X:Cx}
def XS:List V->Hp->VK->Prop:=λvs H Q=>∃(l:Addr) (ps:List Addr) (kvs:List (Key×V)),vs=[.ref l]/\H l=some (.lst (ps.map V.ref))/\Bl (λ(p:Addr) (q:Key×V)=>H p=some (.tup [kV q.1,q.2])) ps kvs/\kvs.length<sizeLine/\∀D,H D=none->Q (.ref D) (upd H D (.dK (bL [] kvs)))
theorem qu(hA:X.A.handled=none):cY X (.type "dict") XS:=by
 intro pins s σ H xs us Q I r h
 obtain⟨l,ps,kvs,rfl,hl,hp,hb,q⟩:=h
 obtain⟨u,rfl,ru⟩:=vals1 r
 cases ru
 obtain⟨z,its,n,rv,e⟩:=I.hok l _ hl
 have key:∀(ps:List Addr) (kvs:List (Key×V)) (its:List Value),Bl (λ(p:Addr) (q:Key×V)=>H p=some (.tup [kV q.1,q.2])) ps kvs->Vals (ps.map V.ref) its->
   ∃more:List (Key×Value),KV kvs more/\∀(i:Nat) (v:Value),its[i]? =some v->∃p k key u o m,v=.ref p/\more[i]? =some (k,u)/\(bf X.prog X.w).is k key=true/\s.heap.get? p=some o/\o.cls=.type "tuple"/\o.data=.seq #[key,u] m:=by
  intro ps kvs its a
  induction a generalizing its with
  | nil=>intro b;cases b;exact⟨[],.nil,λi v hv=>by simp at hv⟩
  | @cons p q ps kvs h t ih=>
   intro b
   cases b with
   | cons rp rt=>
    obtain⟨more,m1,m2⟩:=ih _ rt
    obtain⟨z2,its2,rb,o,ho,hc,m,hd⟩:=I.hok p _ h
    cases rb with
    | cons r1 r2=>
     cases r2 with
     | cons r2 r3=>
      cases r3
      cases(show _=BF p from rp)
      refine⟨(q.1,_)::more,.cons ⟨rfl,r2⟩ m1,λi v hv=>?_⟩
      cases i with
      | zero=>
       have e:BF p=v:=by simpa using hv
       exact⟨p,q.1,_,_,o,m,e.symm,rfl,mQ r1,ho,hc,hd⟩
      | succ i=>exact m2 i v (by simpa using hv)
 obtain⟨more,m1,m2⟩:=key ps kvs its hp rv
 have len1:more.length=its.length:=by rw[<-Ag m1,<-Ag hp,<-rv.length,AA]
 have len2:its.length=kvs.length:=by rw[<-len1,<-Ag m1]
 refine yZ (nl:=n) (its:=its.toArray) (more:=more) hA e (λi v hv=>m2 i v (by simpa using hv)) (by simpa using len1) (by rw[Ai,len2];exact hb) λh' tk dd kp=>?_
 have bg:(s.heap.objs.size == Ba)=false:=beq_eq_false_iff_ne.mpr (C1 (Al I.big))
 have hz:(bL [] kvs).length<=sizeLine:=by
  have h1:=gY kvs []
  rw[DD] at h1
  omega
 exact⟨.ref s.heap.objs.size,_,I.laid (a:=s.heap.objs.size) (o:=.dK (bL [] kvs)) (t':=tk) kp (AM _) ⟨hz,bg,_,m1.merge .nil,dd⟩,rfl,q _ (I.hok.fresh (AM _))⟩
end
section
variable{X:Cx}{o e f:Expr}{apos cpos:Pos}{td ty tx:TE}
def XT(tk tv:TE):TE:=λσ H Q=>∀p,H p=none->tk σ (upd H p (.dT [])) λx H1=>tv σ H1 λy H2=>H2 p=some (.dT [])/\∃b ks,x=.ref b/\H2 b=some (.tup (ks.map kV))/\Q (.ref p) (upd H2 p (.dT [(ks,y)]))
theorem RC{pos:Pos}{k v:Expr}{tk tv:TE}(hu:X.A.units<cLine)(hk:PE X k tk)(hv:PE X v tv):PE X (.Dict [some k] [v] pos) (XT tk tv):=by
 intro pins s σ H Q I q
 have hn:=I.hok.fresh (AM s.heap.objs.size)
 have I1:=I.laid (a:=s.heap.objs.size) (o:=.dT []) (h':=s.heap.push {cls:=.type "dict",data:=.dict #[]}) (t':=s.toks) (λ_ _ q=>AE _ q) (AM _) (Hz s.heap I.big)
 have hall:([some k]:List (Option Expr)).all (·.isSome)=true:=rfl
 have hl:([some k]:List (Option Expr)).length=[v].length:=rfl
 rw[arm_eval_Dict,zip_pairTrees [some k] [v] X.env pos hall hl,dictDisplay_pairs _ (λz=>by
  have:=pairTrees_length [some k] [v] X.env pos hall hl
  rw[z] at this;cases this) (by rw[pairTrees_length [some k] [v] X.env pos hall hl];show 1<17;decide)]
 refine AD (HJ (AD ?_))
 unfold subDict
 refine AD (wpAny_alloc ?_)
 refine AD (Bp ?_)
 rw[if_pos (by rw[pairTrees_length [some k] [v] X.env pos hall hl];show 1<=15;decide)]
 have hp:Li X pos [some k] [v] [(tk,tv)]:=ni hk hv wU
 refine AD (aQ (hp pins _ σ _ (λps H2=>match ps with | [(x,y)]=>H2 s.heap.objs.size=some (.dT [])/\∃b ks,x=.ref b/\H2 b=some (.tup (ks.map kV))/\Q (.ref s.heap.objs.size) (upd H2 s.heap.objs.size (.dT [(ks,y)])) | _=>False) I1 (q _ hn)) λws s2 ⟨ps,H2,I2,rel,q2⟩=>?_)
 cases rel with
 | nil=>exact Bb q2
 | @cons p0 w0 ps' ws' r0 rt=>
  cases rt with
  | cons r1 rt1=>exact Bb q2
  | nil=>
   obtain⟨e,b,ks,eb,hb,q3⟩:=q2
   obtain⟨x0,y0⟩:=p0
   obtain⟨kv,vv⟩:=w0
   cases eb
   cases(show kv=BF b from r0.1)
   obtain⟨z,hd,xs,rx,dd⟩:=TH I2.hok e
   cases rx
   refine Bp (AD ?_)
   rw[Er]
   refine AD (AD (wpAny_dictSet_heap (knd:=ET (bf X.prog X.w)) (k:=ks) (xs:=[]) (show(ET (bf X.prog X.w)).room X.A from hu) (ng I2.hok hb) dd (λh' nh hs=>AO ?_) (A6 _)))
   dsimp only
   rw[G3]
   refine AO (AO (AO (AO ?_)))
   obtain⟨q',es,ep,hq,h2,h3,h4,_,h5⟩:=nh
   have new:bN X.prog X.w (upd H2 s.heap.objs.size (.dT [(ks,y0)])) h' s.heap.objs.size (.dT [(ks,y0)]):=by
    refine⟨by show 1<=sizeLine;decide,hd,_,(KT.put (.nil:KT H2 [] []) ks hb r0.2).keeps λc ys ec=>?_,q',es,ep,hq,h2,h3,h4,h5⟩
    rw[aB (fE ec e (λz=>nomatch z))]
    exact ec
   exact⟨.ref s.heap.objs.size,_,mW I2 (by rw[e];exact BU) hs ⟨q',hq⟩ new,rfl,q3⟩
end
theorem XU{c:TT}{tb:TS}{D:Ends}{σ:St}{H:Hp}(W:Nat->St->Hp->Prop)(h0:∃m,W m σ H)
  (hs:∀m σ H,W m σ H->c σ H λb H1=>if b=true then tb {D with nx:=λσ' H'=>∃m',m'<m/\W m' σ' H',ct:=λσ' H'=>∃m',m'<m/\W m' σ' H',bk:=D.nx} σ H1 else D.nx σ H1)
  (mono:∀σ H Q Q',(∀b H1,Q b H1->Q' b H1)->c σ H Q->c σ H Q'):pL c tb D σ H:=by
 refine⟨W,h0,λm σ H w=>mono σ H _ _ (λb H1 q=>?_) (hs m σ H w)⟩
 cases b with
 | true=>exact⟨_,λσ' H' p=>p,q⟩
 | false=>exact q
structure nA (K:AB)(x qual:Str)(st:Stmt)(f:Addr)(fd:Av)(cd:Value):Prop where
 ex:∃(oc:Value) (od:Option Addr) (dV kV doc pm:Value) (an:Option Addr) (ct:Value) (osl:Array (Option Value)),
  fd=Ad x qual (aH st) (aG st) (ah st) dV kV doc pm an cd ct/\K.lookup f=some ⟨oc,od,.func fd,osl⟩/\Af K cd qual=true
 kp:AH K (.ref f)=true
section
variable{P:Ah}{w:World}{K:AB}{mg:Str->Option Value}{base:Heap}
theorem nA.ok{x qual:Str}{st:Stmt}{f:Addr}{fd:Av}{cd:Value}{N ps:List Str}{k:Nat}{sp:Sp}(F:nA K x qual st f fd cd)(S:aP N ps (ah st))(len:∀vs H Q E,sp vs H Q E->vs.length=ps.length)
  (hbody:∀(A:BB) (outer:List Env) (s:AN) (H:Hp) (vs:List V) (Q:VK) (E:XK),aK k (A.deeper (Em qual (ah st) s.heap.objs.size f cd))->sp vs H Q E->
   ∃t,oB (jR aW P w K mg base N qual (ah st) f cd A outer s H E).ub (aG st) t/\t {nx:=λ_ H'=>Q .non H',rt:=Q} (start N vs) H):aO P w K mg base aW (k+1) f fd ps sp:=by
 obtain⟨oc,od,dV,kV,doc,pm,an,ct,osl,rfl,lk,hcd⟩:=F.ex
 refine TC lk hcd S len λA outer s H vs Q E hr hsp=>?_
 obtain⟨t,h,q⟩:=hbody A outer s H vs Q E hr hsp
 exact⟨t,h.ub,q⟩
theorem mX{x qual:Str}{st:Stmt}{f:Addr}{oc:Value}{od an:Option Addr}{osl:Array (Option Value)}{dV kV doc pm cd ct:Value}(l:K.lookup f=some ⟨oc,od,.func (Ad x qual (aH st) (aG st) (ah st) dV kV doc pm an cd ct),osl⟩)
  (c:Af K cd qual=true) (k:AH K (.ref f)=true):nA K x qual st f (Ad x qual (aH st) (aG st) (ah st) dV kV doc pm an cd ct) cd:=⟨⟨oc,od,dV,kV,doc,pm,an,ct,osl,rfl,l,c⟩,k⟩
end
section
variable{X:Cx}{pos:Pos}{params:EV}{body:Expr}{scope:Scope}{c T:Addr}{clos:List (Str×Addr)}{L:List (Pos×Str)}
theorem jD(hcode:X.env.code=.ref c)(hC:Ca X.K c T=true)(hB:eG X.mg X.base)(hcl:HU scope X.env=pure clos)(hdef:defaultsOf params X.env=([],[]))(hL:(pos,X.env.qual++"<lambda>")∈L)(ap:Apart L)(hfs:X.ex=[]):
  PE X (.Lambda params body scope pos) (XM X params body scope clos T L):=λpins s σ H Q I h=>XN hcode (C3 I.ok.mod.t9 hC) hB hcl hdef hL ap hfs pins s σ H Q I h
theorem oN{K:AB}{c T:Addr}{od:Option Addr}{vs:Array Value}{sl:Array (Option Value)}(lc:K.lookup c=some ⟨.type "code",od,.fields vs,sl⟩)
  (e:((match (vs[11]? :Option Value) with | some (.ref P')=>P' == T | _=>false)&&(match vs.getD 18 .none with | .str _ _=>true | _=>false)&&(match vs.getD 7 .none with | .int _ _=>true | _=>false)&&
   (match vs.getD 9 .none with | .bool _=>true | _=>false)&&(match vs.getD 10 .none with | .int _ _=>true | _=>false)&&c != T)=true):Ca K c T=true:=by
 unfold Ca
 rw[lc]
 exact e
end
def kvsOf{α κ:Type}(key:α->κ)(xs:List α):List (κ×V):=xs.zipIdx.map λp=>(key p.1,V.int ((p.2:Nat):Int))
section
variable{α κ:Type}[DecidableEq κ]{key:α->κ}
theorem yt(xs:List α):(kvsOf key xs).length=xs.length:=by unfold kvsOf;rw[AA,List.length_zipIdx]
theorem qv(xs:List α)(x:α):kvsOf key (xs++[x])=kvsOf key xs++[(key x,V.int ((xs.length:Nat):Int))]:=by
 unfold kvsOf
 rw[List.zipIdx_append,AI]
 simp
theorem r_:∀{kvs:List (κ×V)} {k:κ},(∀p∈kvs,p.1≠k)->aZ kvs k=none
 | [],_,_=>rfl
 | p::r,k,h=>by rw[bR (h p AL)];exact r_ λq hq=>h q (AJ _ hq)
theorem jW(inj:∀a b,key a=key b->a=b){xs:List α}{x:α}(h:x ∉ xs):aZ (kvsOf key xs) (key x)=none:=by
 refine r_ λp hp e=>h ?_
 unfold kvsOf at hp
 obtain⟨q,hq,rfl⟩:=AZ.mp hp
 obtain⟨y,i⟩:=q
 have:=(List.mem_zipIdx hq).2.2
 have e':=inj _ _ e
 rw[<-e',this]
 exact C5 ..
theorem nB{kvs more:List (κ×V)}{k:κ}(h:aZ kvs k=none):aZ (kvs++more) k=aZ more k:=by
 induction kvs with
 | nil=>rfl
 | cons p r ih=>
  by_cases e:p.1=k
  ·rw[bY e] at h;cases h
  ·rw[bR e] at h
   show aZ (p::(r++more)) k=_
   rw[bR e];exact ih h
theorem uJ{kvs more:List (κ×V)}{k:κ}{v:V}(h:aZ kvs k=some v):aZ (kvs++more) k=some v:=by
 induction kvs with
 | nil=>cases h
 | cons p r ih=>
  by_cases e:p.1=k
  ·rw[bY e] at h
   show aZ (p::(r++more)) k=_
   rw[bY e];exact h
  ·rw[bR e] at h
   show aZ (p::(r++more)) k=_
   rw[bR e];exact ih h
theorem qw(inj:∀a b,key a=key b->a=b):∀(n:Nat) {xs:List α} {i:Nat} {x:α},xs.length=n->xs.Nodup->xs[i]? =some x->aZ (kvsOf key xs) (key x)=some (.int ((i:Nat):Int))
 | 0,xs,i,x,hl,_,h=>by
  have:=(AF.mp h).1
  omega
 | n+1,xs,i,x,hl,nd,h=>by
  rcases List.eq_nil_or_concat xs with rfl | ⟨ys,y,e⟩
  ·simp at hl
  rw[List.concat_eq_append] at e
  subst e
  rw[qv]
  have hy:y ∉ ys:=λz=>((CS.mp nd).2.2 y z y (AW.mpr rfl)) rfl
  by_cases hi:i<ys.length
  ·rw[Ax hi] at h
   exact uJ (qw inj n (by simpa using hl) (CS.mp nd).1 h)
  ·have hb:=(AF.mp h).1
   rw[AK] at hb
   have hi2:i=ys.length:=by simp at hb;omega
   subst hi2
   rw[Aq (AM _),B9] at h
   have:=AS h
   subst this
   rw[nB (jW inj hy)]
   exact bY rfl
end
structure xc (α:Type) where
 Rep:α->V->Hp->Prop
 Num:Hp->Addr->List α->Prop
 same:∀{x:α} {v:V} {H H':Hp},Rep x v H->bj H H'->Rep x v H'
 keep:∀{H H':Hp} {D:Addr} {xs:List α},Num H D xs->H' D=H D->Num H' D xs
 isD:∀{H:Hp} {D:Addr} {xs:List α},Num H D xs->∃o,H D=some o/\(∀l,o≠.lst l)/\(∀l,o≠.tup l)
 there:∀{H:Hp} {D:Addr} {xs:List α} {i:Nat} {x:α} {v:V},Num H D xs->Rep x v H->xs.Nodup->xs[i]? =some x->km H D v (some (.int ((i:Nat):Int)))
 miss:∀{H:Hp} {D:Addr} {xs:List α} {x:α} {v:V},Num H D xs->Rep x v H->x ∉ xs->km H D v none
 put:∀{H:Hp} {D:Addr} {xs:List α} {x:α} {v:V},Num H D xs->Rep x v H->x ∉ xs->xs.length<sizeLine->∃H',jU H D v (.int ((xs.length:Nat):Int)) H'/\KB D H H'/\Num H' D (xs++[x])
 xf:∀{X:Cx} {pos kpos cpos:Pos} {x:Str} {i j:Nat},X.A.units+1<cLine->PE X (.Name x kpos) (Md i)->PE X (.Constant (.int 0) j cpos) (tC (.int 0))->PE X (.Dict [some (.Name x kpos)] [.Constant (.int 0) j cpos] pos)
  (λσ H Q=>∃y v,σ[i]? =some (some v)/\Rep y v H/\∀D H',H D=none->Same H H'->Num H' D [y]->Q (.ref D) H')
theorem VQ(a b:Nat)(h:(Du (a:Int):Key)=Du (b:Int)):a=b:=by injection h with h;omega
def o7(l:List Nat):List Key:=l.map λ(x:Nat)=>(Du (x:Int):Key)
theorem uK(a b:List Nat)(h:o7 a=o7 b):a=b:=by
 unfold o7 at h
 induction a generalizing b with
 | nil=>cases b with
  | nil=>rfl
  | cons y b=>cases h
 | cons x a ih=>cases b with
  | nil=>cases h
  | cons y b=>
   rw[Aj,Aj] at h
   injection h with h1 h2
   rw[VQ _ _ h1,ih b h2]
theorem tS(l:List Nat):(o7 l).map kV=(l.map λ(x:Nat)=>V.int (x:Int)):=by unfold o7;rw[BL];rfl
def o8:xc (List Nat) where
 Rep:=λx v H=>∃p,v=.ref p/\H p=some (.tup (x.map λ(z:Nat)=>V.int (z:Int)))
 Num:=λH D xs=>H D=some (.dT (kvsOf o7 xs))
 same:=λ{x v H H'} ⟨p,e,h⟩ k=>⟨p,e,k _ _ h⟩
 keep:=λh e=>e.trans h
 isD:=λh=>⟨_,h,(λl z=>by cases z),(λl z=>by cases z)⟩
 there:=λ{H D xs i x v} h ⟨p,r,hp⟩ nd e=>by
  subst r
  exact .inr ⟨_,o7 x,p,.inl h,rfl,by rw[tS];exact hp,(qw uK _ rfl nd e).symm⟩
 miss:=λ{H D xs x v} h ⟨p,r,hp⟩ n=>by
  subst r
  exact .inr ⟨_,o7 x,p,.inl h,rfl,by rw[tS];exact hp,(jW uK n).symm⟩
 put:=λ{H D xs x v} h ⟨p,r,hp⟩ n hl=>by
  subst r
  refine⟨_,jU.t (k:=o7 x) h (by rw[tS];exact hp) (by rw[yt];exact hl),KB.write,?_⟩
  rw[af,kj _ (jW uK n),qv]
 xf:=λ{X pos kpos cpos x i j} hu h1 h2 pins s σ H Q I q=>by
  obtain⟨y,v,hv,⟨p,rfl,hp⟩,q⟩:=q
  refine RC (Nat.lt_of_succ_lt hu) h1 h2 pins s σ H Q I λD hD=>⟨_,hv,?_⟩
  have sD:=Same.new (o:=.dT []) hD
  refine⟨af,p,o7 y,rfl,by rw[tS];exact sD _ _ hp,q D _ hD (sD.kbn hD KB.write) ?_⟩
  rw[af];rfl
theorem dJ.mk'{ps aR:List Str}{scope:Scope}(h1:scope.kind=.function)(h2:scope.isCoroutine=false)(h3:scope.isGenerator=false)(h4:∀x∈scope.names,x.2≠.cell)(h5:∀x∈ps,scope.names.lookup x=some .local)(h6:∀x∈aR,scope.names.lookup x=some .free)
  (h7:∀p∈scope.names,p.2=.free->p.1∈aR) (h8:(ps++aR).Nodup):dJ ps aR scope:=⟨h1,h2,h3,h4,h5,h6,λx e=>h7 (x,.free) (Br e) rfl,h8⟩
def FnAt(P:Ah)(w:World)(K:AB)(mg:Str->Option Value)(base:Heap)(k:Nat)(f:Addr)(n:Nat)(sp:Sp):Prop:=
 ∃(o:Obj) (fd:Av) (ps:List Str),base.get? f=some o/\o.data=.func fd/\ps.length=n/\(∀us:List Value,us.length=ps.length->Hb fd ⟨us,[]⟩=pure (ps.zip us))/\aO P w K mg base aW k f fd ps sp
theorem yu{D:List Addr}{H1 H2:Hp}(s:Same (dA D H1) H2):Same H1 (nz D H1 H2):=λb o e=>by
 by_cases hb:b∈D
 ·rw[Ls hb];exact e
 ·rw[gN hb];exact s _ _ (by rw[jx hb];exact e)
theorem ky{D:List Addr}{H:Hp}{b:Addr}{o:HO}(hD:∀a∈D,∃φ,H a=some (.ext φ))(e:H b=some o)(hn:∀φ,o≠.ext φ):dA D H b=some o:=by
 rw[jx λz=>?_]
 ·exact e
 ·obtain⟨φ,q⟩:=hD b z
  rw[e] at q
  exact hn φ (AS q)
def vN(c:Addr)(v:V):HO:=.ext λh=>∃u,h.IsCell c (some u)/\RelV v u
theorem RD{P:Ah}{w:World}{H:Hp}{h:Heap}{c:Addr}{v:V}{u:Value}(e:h.IsCell c (some u))(r:RelV v u):bN P w H h c (vN c v):=
 ⟨⟨u,e,r⟩,(let ⟨o,ho,_⟩:=e;⟨o,ho⟩),λh1 h2 ⟨u,⟨o,ho,hd⟩,r⟩ k=>⟨u,⟨o,k o ho,hd⟩,r⟩⟩
def jX(cs:List (Addr×V))(H:Hp):Hp:=λb=>match cs.lookup b with
 | some v=>some (vN b v)
 | none=>H b
theorem Lv{cs:List (Addr×V)}{H:Hp}{b:Addr}{v:V}(h:cs.lookup b=some v):jX cs H b=some (vN b v):=by unfold jX;rw[h]
theorem uL{cs:List (Addr×V)}{H:Hp}{b:Addr}(h:cs.lookup b=none):jX cs H b=H b:=by unfold jX;rw[h]
theorem jE{cs:List (Addr×V)}{H:Hp}(h:∀c v,cs.lookup c=some v->H c=none):Same H (jX cs H):=λb o e=>by
 cases q:cs.lookup b with
 | none=>rw[uL q];exact e
 | some v=>rw[h b v q] at e;cases e
def jF(X:Cx)(σ:St)(cs:List (Addr×V)):Prop:=∀c v,cs.lookup c=some v->∃(i:Nat) (x:Str),X.N[i]? =some x/\σ[i]? =some (some v)/\X.env.scope.names.lookup x=some .cell/\X.env.cells.lookup x=some c
section
variable{X:Cx}{pins:List (Addr×Obj)}{σ:St}{H:Hp}{s:AN}{cs:List (Addr×V)}
theorem jF.free(C:jF X σ cs)(I:Inv X pins σ H s):∀c v,cs.lookup c=some v->H c=none:=λc v e=>by
 obtain⟨i,x,_,_,_,h⟩:=C c v e
 exact I.iN x c h
theorem jF.hok(C:jF X σ cs)(I:Inv X pins σ H s):dW X.prog X.w (jX cs H) s.heap:=λb u e=>by
 have sm:=jE (C.free I)
 cases q:cs.lookup b with
 | some v=>
  rw[Lv q] at e
  cases e
  obtain⟨i,x,h1,h2,h3,h4⟩:=C b v q
  obtain⟨m,_,hl⟩:=I.loc
  obtain⟨u,r,l⟩:=hl i x v h1 h2 (.inr (.inl h3))
  rcases l with⟨z,_⟩ | ⟨_,c,e,z⟩
  ·have z':X.env.scope.names.lookup x=some .local:=z
   rw[h3] at z';cases z'
  ·rw[h4] at e;cases e
   exact RD z r
 | none=>
  rw[uL q] at e
  exact(I.hok b u e).stay (λ_ _ _ z=>z) (λd z=>sm _ _ z) λd xs z=>sm _ _ z
theorem jF.un(C:jF X σ cs)(I:Inv X pins σ H s)(hfn:∀x,X.fn x=true)(hex:X.ex=[]):Un X.fs [] X.H₀ (jX cs H) X.s₀.heap s.heap:=by
 have B:=I.base
 rw[hex] at B
 have sm:=jE (C.free I)
 refine⟨B.keep,B.slot,λb o e n hx=>?_,B.there,λb xs e=>sm _ _ (B.tups b xs e),λb o xs e=>sm _ _ (B.mZ b o xs e),λb ps e=>?_⟩
 ·cases q:cs.lookup b with
  | none=>rw[uL q];exact B.free b o e n hx
  | some v=>
   obtain⟨i,x,_,_,_,h4⟩:=C b v q
   exact absurd (AX (AR e) (I.ok.cab x b (hfn x) h4)) (BQ _)
 ·obtain⟨m,z⟩:=B.m_ b ps e
  exact⟨m,sm _ _ z⟩
end
abbrev TB:=(St->V->Hp->Prop)->St->Hp->Prop
def SPR(X:Cx)(pins:List (Addr×Obj))(R:St->V->Hp->Prop)(f:Flow)(s':AN):Prop:=
 match f with
 | .ret u=>∃v σ' H',Inv X pins σ' H' s'/\RelV v u/\R σ' v H'
 | _=>False
def qx(X:Cx)(st:List Stmt)(t:TB):Prop:=
 ∀(pins:List (Addr×Obj)) (s:AN) (σ:St) (H:Hp) (R:St->V->Hp->Prop),Inv X pins σ H s->t R σ H->wpAny (model X.prog X.w) X.A (execs st X.env) (SPR X pins R) X.xe s
section
variable{X:Cx}{st:Stmt}{rest:List Stmt}{t:TS}{u:TB}{e:Expr}{te:TE}{pos:Pos}
theorem vO(he:PE X e te):qx X [.Return (some e) pos] (λR σ H=>te σ H (R σ)):=by
 intro pins s σ H R I h
 refine EU (wpAny_Return_some (aQ (he pins s σ H _ I h) ?_))
 rintro v s1 ⟨x,H1,I1,r1,q1⟩
 exact⟨x,σ,H1,I1,r1,q1⟩
theorem cH(h1:PS X st t)(h2:qx X rest u):qx X (st::rest) (λR σ H=>t {nx:=u R,rt:=λ_ _=>False} σ H):=by
 intro pins s σ H R I h
 refine EU (aQ (h1 pins s σ H {nx:=u R,rt:=λ_ _=>False} I h) λf s1 q=>?_)
 cases f with
 | next=>
  obtain⟨σ',H',I',q⟩:=q
  exact h2 pins s1 σ' H' R I' q
 | ret v=>obtain⟨_,_,_,_,_,z⟩:=q;exact z.elim
 | brk=>obtain⟨_,_,_,z⟩:=q;exact z.elim
 | cont=>obtain⟨_,_,_,z⟩:=q;exact z.elim
theorem qx.ub{st:List Stmt}(h:qx X.ub st u):qx X st u:=λpins s σ H R I hw=>
 B0 (h pins s σ H R (I.wish _) hw) (λf s' q=>by
  cases f with
  | ret v=>obtain⟨x,σ',H',J,r,z⟩:=q;exact⟨x,σ',H',J.jP,r,z⟩
  | next=>exact q
  | brk=>exact q
  | cont=>exact q) λ_ _ z=>Bb z
end
theorem nA.okR{P:Ah}{w:World}{K:AB}{mg:Str->Option Value}{base:Heap}{x qual:Str}{st:Stmt}{f:Addr}{fd:Av}{cd:Value}{N ps:List Str}{k:Nat}{sp:Sp}(F:nA K x qual st f fd cd)(S:aP N ps (ah st))(len:∀vs H Q E,sp vs H Q E->vs.length=ps.length)
  (hbody:∀(A:BB) (outer:List Env) (s:AN) (H:Hp) (vs:List V) (Q:VK) (E:XK),(∀x y c,(Em qual (ah st) s.heap.objs.size f cd).cells.lookup x=some c->(Em qual (ah st) s.heap.objs.size f cd).cells.lookup y=some c->x=y)->aK k (A.deeper (Em qual (ah st) s.heap.objs.size f cd))->sp vs H Q E->
   ∃t,qx (jR aW P w K mg base N qual (ah st) f cd A outer s H E).ub (aG st) t/\t (λσ v H2=>∃cs,jF (jR aW P w K mg base N qual (ah st) f cd A outer s H E) σ cs/\((∀c v,cs.lookup c=some v->H2 c=none)->Q v (jX cs H2))) (start N vs) H):aO P w K mg base aW (k+1) f fd ps sp:=by
 obtain⟨oc,od,dV,kV,doc,pm,an,ct,osl,rfl,lk,hcd⟩:=F.ex
 refine⟨len,λA outer s H args us vs Q E hr e0 hb r hsp=>?_⟩
 have hl:=len _ _ _ _ hsp
 have KX:K.In s.heap:=e0.mod.t9.keeps λb o e=>(e0.bs b o e).1
 have lim:s.heap.NoLimit:=e0.mod.nolimit.keeps λb o e=>(e0.bs b o e).1
 have hkind:∀y∈ps.zip us,(ah st).names.lookup y.1=some .local∨((ah st).names.lookup y.1=some .cell/\((cellsFrom (s.heap.objs.size+1) (ah st).names []).lookup y.1).isSome=true):=λ⟨n,v⟩ hy=>by
  rcases S.par n (Dv hy).1 with q | q
  ·exact .inl q
  ·exact .inr ⟨q,EB _ _ _ (.inl q)⟩
 refine codeAny_call_function hr.depth (KX _ _ lk) rfl S.co S.gen rfl (HR KX hcd) (hb _ _ _ _ ?_)
 refine E7 S.kind hkind λenv he s1 x=>?_
 subst he
 refine⟨lim.keeps x.toInCall.keep,codeAny_func ?_⟩
 have I:Inv (jR aW P w K mg base N qual (ah st) f cd A outer s H E) [] (start N vs) H s1:=xV S hr.hd e0 hl r x
 obtain⟨t,ht,hq⟩:=hbody A outer s H vs Q E I.ok.inj (hr.deeper _) hsp
 refine B0 (ht.ub [] s1 (start N vs) H _ I hq) (λfl s' hs=>?_) λe s' hs=>hs
 cases fl with
 | ret u=>
  obtain⟨v,σ',H',J,rv,cs,C,q⟩:=hs
  exact⟨v,jX cs H',J.os,J.bare,C.un J (λ_=>rfl) rfl,C.hok J,rv,q (C.free J)⟩
 | next=>exact Bb hs
 | brk=>exact Bb hs
 | cont=>exact Bb hs
structure MK (K:AB)(mg:Str->Option Value)(base:Heap)(D:List Addr)(H:Hp)(base':Heap):Prop where
 sub:∀b o,base.get? b=some o->base'.get? b=some o
 mod:Mod K mg base'
 ext:∀a φ,a∈D->H a=some (.ext φ)->φ base'
theorem Wide.b{X:Cx}{σ:St}{D:List Addr}{H:Hp}{base':Heap}(W:Wide X σ D H base'):MK X.K X.mg X.base D H base':=⟨W.sub,W.mod,W.ext⟩
def dM(P:Ah)(w:World)(K:AB)(mg:Str->Option Value)(base:Heap)(H:Hp)(D:List Addr)(k:Nat)(f:Addr)(n:Nat)(sp:Sp):Prop:=∀base',MK K mg base D H base'->FnAt P w K mg base' k f n sp
theorem dM.same{P:Ah}{w:World}{K:AB}{mg:Str->Option Value}{base:Heap}{H H':Hp}{D:List Addr}{k:Nat}{f:Addr}{n:Nat}{sp:Sp}(F:dM P w K mg base H D k f n sp)(k':∀b φ,b∈D->H b=some (.ext φ)->H' b=some (.ext φ)):dM P w K mg base H' D k f n sp:=
 λbase' W=>F base' ⟨W.sub,W.mod,λa φ ha e=>W.ext a φ ha (k' a φ ha e)⟩
theorem dM.lam{X:Cx}{D:List Addr}{H:Hp}{params:EV}{body:Expr}{scope:Scope}{clos:List (Str×Addr)}{c' f:Addr}{ctv:Value}{ps aR:List Str}{fvs:List V}{k:Nat}{sp:Sp}
  (hf:H f=some (Ip f (lamO X params body scope clos c' ctv))) (hfD:f∈D) (hc:H c'=some (yq c' (X.env.qual++"<lambda>"))) (hcD:c'∈D) (S:dJ ps aR scope) (aew:∀x y c,X.env.cells.lookup x=some c->X.env.cells.lookup y=some c->x=y) (sub:∀p∈clos,X.env.cells.lookup p.1=some p.2/\p.1∈aR)
  (vals:Bl (λ(x:Str) (v:V)=>∃c,clos.lookup x=X.env.cells.lookup x/\X.env.cells.lookup x=some c/\c∈D/\H c=some (vN c v)) aR fvs)
  (hb:∀(us:List Value),us.length=ps.length->Hb (PySem.W.kla_fn "<lambda>" (X.env.qual++"<lambda>") params body scope clos ((X.mg "__name__").getD .none) (.ref c') ctv) ⟨us,[]⟩=pure (ps.zip us)) (len:∀vs H Q E,sp vs H Q E->vs.length=ps.length)
  (hbody:∀(base':Heap),MK X.K X.mg X.base D H base'->∀(A:BB) (outer:List Env) (s:AN) (H:Hp) (vs:List V) (Q:VK) (E:XK),aK k (A.deeper (E1 (X.env.qual++"<lambda>") scope s.heap.objs.size f (.ref c') clos))->sp vs H Q E->
   ∃t,PE (Ov X.prog X.w X.K X.mg base' (ps++aR) (X.env.qual++"<lambda>") scope f (.ref c') clos A outer s H) body t/\t (vs.map some++fvs.map some) H Q):dM X.prog X.w X.K X.mg X.base H D (k+1) f ps.length sp:=λbase' W=>by
 have ho:base'.get? f=some (lamO X params body scope clos c' ctv):=W.ext f _ hfD hf
 have XH:base'.CodeRec (.ref c') (X.env.qual++"<lambda>"):=W.ext c' _ hcD hc
 have vals':Bl (λ(x:Str) (v:V)=>∃c u,clos.lookup x=some c/\base'.IsCell c (some u)/\RelV v u) aR fvs:=Paired.rM vals λx v ⟨c,h0,h1,h2,h3⟩=>by
  obtain⟨u,e,r⟩:=W.ext c _ h2 h3
  exact⟨c,u,h0.trans h1,e,r⟩
 have sub':∀x c,clos.lookup x=some c->X.env.cells.lookup x=some c/\x∈aR:=λx c e=>sub (x,c) (Br e)
 have C:uH base' clos aR fvs:=by
  refine⟨λx y c h1 h2=>aew x y c (sub' x c h1).1 (sub' y c h2).1,λx c h=>?_,vals'⟩
  obtain⟨i,hi⟩:=BR (sub' x c h).2
  obtain⟨v,_,c2,u,h1,h2,_⟩:=dR vals' hi
  rw[h] at h1;cases h1
  exact⟨_,h2⟩
 exact⟨_,_,ps,ho,rfl,rfl,hb,XG ho XH S C len (hbody base' W)⟩
theorem Iu{α β:Type}[BEq α][LawfulBEq α]:∀{l:List (α×β)} {a:α} {b:β},l.lookup a=some b->(a,b)∈l
 | (x,y)::l,a,b,h=>by
  rw[C4] at h
  by_cases e:a=x
  ·subst e
   rw[beq_self_eq_true] at h
   cases h
   exact AL
  ·rw[show(a == x)=false from beq_false_of_ne e] at h
   exact AJ _ (Iu h)
structure uj (X:Cx)(σ:St)(l:List (Nat×Str×Addr×V)):Prop where
 at':∀q∈l,X.N[q.1]? =some q.2.1/\σ[q.1]? =some (some q.2.2.2)/\X.env.scope.names.lookup q.2.1=some .cell/\X.env.cells.lookup q.2.1=some q.2.2.1
 nd:(l.map (·.2.1)).Nodup
def jY(l:List (Nat×Str×Addr×V)):List (Addr×V):=l.map λq=>(q.2.2.1,q.2.2.2)
theorem uj.cells{X:Cx}{σ:St}{l:List (Nat×Str×Addr×V)}(C:uj X σ l):jF X σ (jY l):=λc v h=>by
 obtain⟨q,hq,e⟩:=AZ.mp (show(c,v)∈jY l from Iu h)
 cases e
 obtain⟨h1,h2,h3,h4⟩:=C.at' q hq
 exact⟨q.1,q.2.1,h1,h2,h3,h4⟩
theorem pX{α β:Type}[BEq α][LawfulBEq α]:∀{l:List (α×β)} {a:α} {b:β},(a,b)∈l->∃b',l.lookup a=some b'
 | (x,y)::l,a,b,h=>by
  rw[C4]
  by_cases e:a=x
  ·subst e;rw[beq_self_eq_true];exact⟨y,rfl⟩
  ·rw[show(a == x)=false from beq_false_of_ne e]
   rcases Ae.mp h with z | z
   ·cases z;exact absurd rfl e
   ·exact pX z
theorem Lw:∀{l:List (Nat×Str×Addr×V)},(l.map (·.2.1)).Nodup->∀q∈l,∀p∈l,q.2.1=p.2.1->q=p
 | [],_=>λ_ h=>by cases h
 | x::l,nd=>λq hq p hp e=>by
  rw[Aj,Bj] at nd
  rcases Ae.mp hq with z | z
  ·rcases Ae.mp hp with y | y
   ·rw[z,y]
   ·exact absurd (AZ.mpr ⟨p,y,by rw[<-e,z]⟩) nd.1
  ·rcases Ae.mp hp with y | y
   ·exact absurd (AZ.mpr ⟨q,z,by rw[e,y]⟩) nd.1
   ·exact Lw nd.2 q z p y e
theorem uj.look{X:Cx}{σ:St}{l:List (Nat×Str×Addr×V)}(C:uj X σ l)(inj:∀x y c,X.env.cells.lookup x=some c->X.env.cells.lookup y=some c->x=y){q:Nat×Str×Addr×V}(hq:q∈l):(jY l).lookup q.2.2.1=some q.2.2.2:=by
 obtain⟨v,hv⟩:=pX (l:=jY l) (AZ.mpr ⟨q,hq,rfl⟩)
 obtain⟨p,hp,e⟩:=AZ.mp (show(q.2.2.1,v)∈jY l from Iu hv)
 injection e with e1 e2
 have:=Lw C.nd q hq p hp (inj _ _ _ (C.at' q hq).2.2.2 (by rw[<-e1];exact(C.at' p hp).2.2.2))
 rw[hv,<-e2,this]
theorem uj.got{X:Cx}{σ:St}{l:List (Nat×Str×Addr×V)}(C:uj X σ l)(inj:∀x y c,X.env.cells.lookup x=some c->X.env.cells.lookup y=some c->x=y)(H:Hp){q:Nat×Str×Addr×V}(hq:q∈l):jX (jY l) H q.2.2.1=some (vN q.2.2.1 q.2.2.2):=Lv (C.look inj hq)
section
variable{X:Cx}
def abl(K:AB):List V->Hp->VK->Prop:=λxs H Q=>∃(a:Addr) (ns:List Int),xs=[.ref a]/\bM K H a (ns.map V.int)/\ns≠[]/\∀m:Int,m∈ns->(∀x∈ns,m<=x)->Q (.int m) H
theorem OA(K:AB)(hc:X.calm=true)(hK:X.K=K:=by rfl):cY X (.builtin "min") (abl K):=by
 subst hK
 intro pins s σ H xs us Q I r h
 obtain⟨a,ns,rfl,hq,hne,q⟩:=h
 obtain⟨u,rfl,ru⟩:=vals1 r
 cases ru
 obtain⟨its,rv,p,_⟩:=I.list hq
 have hi:GC its ns:=intsAre_of rv
 obtain⟨xs,e⟩:=hi.allInts.items
 have hns:ns=xs.toList.map (·.1):=by rw[<-hi.numsOf,<-nums_intItems,<-e]
 have hsz:0<xs.size:=by
  rcases FI xs.size with z | z
  ·have:xs.toList=[]:=Eg (by rw[A_];exact z)
   exact absurd (by rw[hns,this];rfl) hne
  ·exact z
 have hl:=p.isList
 rw[e] at hl
 refine min_intList (I.ok.hd hc) hl hsz λv h' tk hv hk=>?_
 obtain⟨t,rfl⟩:=intItems_at hv
 obtain⟨h1,h2⟩:=argBest_lt (numAt xs) (xs.size-1)
 have na:∀j,j<xs.size->ns[j]? =some (numAt xs j):=λj hj=>by
  rw[hns,AU,BZ,numAt,BW hj]
  rfl
 refine⟨.int _,H,I.kept hk,⟨t,rfl⟩,q _ (AG (na _ (by omega))) λx hx=>?_⟩
 obtain⟨i,hi'⟩:=BR hx
 have hlt:i<xs.size:=by
  have:=(AF.mp hi').1
  rw[hns,AA,A_] at this
  exact this
 rw[na i hlt] at hi'
 have e3:=AS hi'
 rw[<-e3]
 exact h2 i (by omega)
end
theorem aU{t u:TS}{D:Ends}{σ:St}{H:Hp}(h:∀R:St->Hp->Prop,R=u D->t {D with nx:=R} σ H):qh t u D σ H:=h _ rfl
theorem r6{t u:TS}{D:Ends}{σ:St}{H:Hp}(Pv:St->Hp->Prop)(h1:∀σ H,Pv σ H->u D σ H)(h2:∀R:St->Hp->Prop,(∀σ H,Pv σ H->R σ H)->t {D with nx:=R} σ H):qh t u D σ H:=h2 _ h1
def zC(J:It)(g:TG)(tb:TS)(D:Ends)(σ:St)(H:Hp):Prop:=∃W:Nat->Nat->St->Hp->Prop,(∃m,W 0 m σ H)/\∀i m σ H,W i m σ H->
 (J.stop i H/\D.nx σ H)∨(J.go i H/\∃N:St->Hp->Prop,(∀σ' H',N σ' H'->∃m',m'<m/\W (i+1) m' σ' H')/\∀x H',J.uc i H x H'->g x σ H' λσ2 H2=>tb {D with nx:=N,ct:=N,bk:=D.nx} σ2 H2)
theorem OB{K:AB}{a:Addr}{xs:List V}{g:TG}{tb:TS}{D:Ends}{σ:St}{H:Hp}(Pv:Nat->St->Hp->Prop)(h0:Pv 0 σ H)(hl:∀i σ H,i<=xs.length->Pv i σ H->bM K H a xs)
  (hs:∀i x σ H (N:St->Hp->Prop),(∀σ H,Pv (i+1) σ H->N σ H)->xs[i]? =some x->Pv i σ H->g x σ H λσ2 H2=>tb {D with nx:=N,ct:=N,bk:=D.nx} σ2 H2) (hd:∀σ H,Pv xs.length σ H->D.nx σ H):zC (zO K a) g tb D σ H:=
 jv Pv h0 hl (λi x σ H e p=>hs i x σ H _ (λ_ _ z=>z) e p) hd
theorem Iv{K:AB}{a:Addr}{xs:List V}{g:TG}{tb:TS}{D:Ends}{σ:St}{H:Hp}(Pv:Nat->St->Hp->Prop)(h0:Pv 0 σ H)(hl:∀i σ H,i<=xs.length->Pv i σ H->bF K H a xs)
  (hs:∀i x σ H (N:St->Hp->Prop),(∀σ H,Pv (i+1) σ H->N σ H)->xs[i]? =some x->Pv i σ H->g x σ H λσ2 H2=>tb {D with nx:=N,ct:=N,bk:=D.nx} σ2 H2) (hd:∀σ H,Pv xs.length σ H->D.nx σ H):zC (zP K a) g tb D σ H:=
 K' Pv h0 hl (λi x σ H e p=>hs i x σ H _ (λ_ _ z=>z) e p) hd
theorem mR{lo:Int}{n:Nat}{g:TG}{tb:TS}{D:Ends}{σ:St}{H:Hp}(Pv:Nat->St->Hp->Prop)(h0:Pv 0 σ H)
  (hs:∀i σ H (N:St->Hp->Prop),(∀σ H,Pv (i+1) σ H->N σ H)->i<n->Pv i σ H->g (.int (lo+i)) σ H λσ2 H2=>tb {D with nx:=N,ct:=N,bk:=D.nx} σ2 H2) (hd:∀σ H,Pv n σ H->D.nx σ H):zC (vq lo n) g tb D σ H:=
 lA (lo:=lo) Pv h0 (λi σ H e p=>hs i σ H _ (λ_ _ z=>z) e p) hd
theorem OC{d:Addr}{ob:Obj}{kvs:List (Key×V)}{g:TG}{tb:TS}{D:Ends}{σ:St}{H:Hp}(Pv:Nat->St->Hp->Prop)(h0:Pv 0 σ H)(hl:∀i σ H,i<=kvs.length->Pv i σ H->H d=some (.eZ ob (.dK kvs)))
  (hs:∀i k v σ H (N:St->Hp->Prop),(∀σ H,Pv (i+1) σ H->N σ H)->kvs[i]? =some (k,v)->Pv i σ H->g (kV k) σ H λσ2 H2=>tb {D with nx:=N,ct:=N,bk:=D.nx} σ2 H2) (hd:∀σ H,Pv kvs.length σ H->D.nx σ H):zC (Lo d ob kvs) g tb D σ H:=
 Rj Pv h0 hl (λi k v σ H e p=>hs i k v σ H _ (λ_ _ z=>z) e p) hd
theorem xg{c:TT}{tb:TS}{D:Ends}{σ:St}{H:Hp}(W:Nat->St->Hp->Prop)(h0:∃m,W m σ H)
  (hs:∀m σ H (N:St->Hp->Prop),(∀σ' H' m',m'<m->W m' σ' H'->N σ' H')->W m σ H->c σ H λb H1=>if b=true then tb {D with nx:=N,ct:=N,bk:=D.nx} σ H1 else D.nx σ H1)
  (mono:∀σ H Q Q',(∀b H1,Q b H1->Q' b H1)->c σ H Q->c σ H Q'):pL c tb D σ H:=XU W h0 (λm σ H w=>hs m σ H _ (λ_ _ m' h w'=>⟨m',h,w'⟩) w) mono
theorem RE{K:AB}{a b:Addr}{xs ys:List V}{g:TG}{tt:TT}{te:TE}{D:Addr}{σ:St}{H:Hp}{R:Hp->Prop}(Pv:Nat->St->Hp->Prop)(hlen:xs.length=ys.length)(h0:Pv 0 σ H)(hl:∀i σ H,i<=xs.length->Pv i σ H->bM K H a xs/\bM K H b ys)
  (hs:∀i x y p σ H,xs[i]? =some x->ys[i]? =some y->Pv i σ H->H p=none->g (.ref p) σ (upd H p (.tup [x,y])) λσ2 H2=>tt σ2 H2 λb H3=>if b=true then te σ2 H3 λy H4=>∃ys,H4 D=some (.lst ys)/\ys.length<sizeLine/\Pv (i+1) σ2 (upd H4 D (.lst (ys++[y]))) else Pv (i+1) σ2 H3)
  (hd:∀σ H,Pv xs.length σ H->R H):qo (Xt K a b) g tt te D σ H R:=by
 refine⟨λi m σ H=>m=xs.length-i/\i<=xs.length/\Pv i σ H,⟨xs.length,by simp,A6 _,h0⟩,?_⟩
 rintro i m σ H ⟨rfl,hi,p⟩
 obtain⟨q1,q2⟩:=hl i σ H hi p
 by_cases hlt:i<xs.length
 ·refine .inr ⟨⟨xs,ys,xs[i],ys[i]'(by omega),q1,q2,by simp[hlt],by simp[hlen▸hlt]⟩,Pv (i+1),λσ' H' p'=>⟨xs.length-(i+1),by omega,rfl,hlt,p'⟩,λv H' y=>?_⟩
  obtain⟨x,y,p',e1,e2,e3,rfl,rfl⟩:=y
  exact hs i x y p' σ H (e1 xs q1) (e2 ys q2) p e3
 ·have e:i=xs.length:=by omega
  subst e
  exact .inl ⟨⟨xs,ys,q1,q2,.inl (AM _)⟩,hd σ H p⟩
def xh(P:Ah)(w:World)(H:Hp)(a:Addr)(y:V)(o:Option V):Prop:=∀(X:Cx) (pins:List (Addr×Obj)) (σ:St) (s:AN) (u:Value),X.prog=P->X.w=w->Inv X pins σ H s->RelV y u->s.TypeIs (.ref a) "dict"/\
 ∀(A:BB) (E:Value->AN->Prop),A.units+1<cLine->
  (∀(v:V) (Q:Value->AN->Prop),o=some v->(∀w' s',Inv X pins σ H s'->RelV v w'->Q w' s')->wpAny (model X.prog X.w) A (Eb (.ref a) u) Q E s)/\
  (∀Q:Value->AN->Prop,(∀s',Inv X pins σ H s'->Q (.bool o.isSome) s')->wpAny (model X.prog X.w) A (Bu .In u (.ref a)) Q E s)/\
  ∀Q:Value->AN->Prop,(∀s',Inv X pins σ H s'->Q (.bool (!o.isSome)) s')->wpAny (model X.prog X.w) A (Bu .NotIn u (.ref a)) Q E s
def ML(P:Ah)(w:World)(H:Hp)(a:Addr)(y v:V)(H':Hp):Prop:=∀(X:Cx) (pins:List (Addr×Obj)) (σ:St) (s:AN) (u r:Value),X.prog=P->X.w=w->Inv X pins σ H s->RelV y u->RelV v r->
 ∀(A:BB) (E:Value->AN->Prop) (Q:Unit->AN->Prop),A.units+1<cLine->(∀s',Inv X pins σ H' s'->Q () s')->wpAny (model X.prog X.w) A (setItem (.ref a) u r) Q E s
theorem km.toS{P:Ah}{w:World}{H:Hp}{a:Addr}{y:V}{o:Option V}(g:km H a y o):xh P w H a y o:=λ_ _ _ _ _ _ _ I ry=>
 ⟨ug I g,λ_ _ hu=>⟨λ_ _ e h=>yb hu I (e▸g) ry h,λ_ h=>aej hu I g ry h,λ_ h=>Vy hu I g ry h⟩⟩
theorem jU.toS{P:Ah}{w:World}{H H':Hp}{a:Addr}{y v:V}(g:jU H a y v H'):ML P w H a y v H':=λ_ _ _ _ _ _ _ _ I ry rv _ _ _ hu h=>yc hu I g ry rv h
def abm(P:Ah)(w:World)(td ty:TE):TE:=λσ H Q=>td σ H λx H1=>ty σ H1 λy H2=>∃a v,x=.ref a/\xh P w H2 a y (some v)/\Q v H2
def VR(P:Ah)(w:World)(ty td:TE):TE:=λσ H Q=>ty σ H λy H1=>td σ H1 λx H2=>∃a o,x=.ref a/\xh P w H2 a y o/\Q (.bl (!o.isSome)) H2
def abn(P:Ah)(w:World)(td ty tv:TE):TS:=λD σ H=>tv σ H λv H1=>td σ H1 λx H2=>ty σ H2 λy H3=>∃a H4,x=.ref a/\ML P w H3 a y v H4/\D.nx σ H4
section
variable{X:Cx}{P:Ah}{w:World}{o i e value:Expr}{pos pos' tpos:Pos}{td ty tv:TE}
theorem VS(hu:X.A.units+1<cLine)(ho:PE X o td)(hi:PE X i ty)(hs:Q6 i)(hP:X.prog=P:=by rfl)(hw:X.w=w:=by rfl):PE X (.Subscript o i pos) (abm P w td ty):=by
 intro pins s σ H Q I h
 refine Lh FL.lookup hs (aQ (ho pins s σ H _ I h) ?_)
 rintro u s1 ⟨x,H1,I1,rx,q1⟩
 refine aQ (hi pins s1 σ H1 _ I1 q1) ?_
 rintro iv s2 ⟨y,H2,I2,ry,a,v,ex,g,q2⟩
 subst ex
 obtain rfl:u=BF a:=rx
 obtain⟨t1,g1⟩:=g X pins σ s2 iv hP hw I2 ry
 exact⟨t1,(g1 _ _ hu).1 v _ rfl λw' s3 I3 jS=>⟨v,H2,I3,jS,q2⟩⟩
theorem OD(hu:X.A.units+1<cLine)(hi:PE X i ty)(ho:PE X o td)(hP:X.prog=P:=by rfl)(hw:X.w=w:=by rfl):PC X .NotIn i o (VR P w ty td):=by
 intro pins s σ H Q I h
 refine aQ (hi pins s σ H _ I h) ?_
 rintro iv s1 ⟨y,H1,I1,ry,q1⟩
 refine aQ (ho pins s1 σ H1 _ I1 q1) ?_
 rintro u s2 ⟨x,H2,I2,rx,a,ov,ex,g,q2⟩
 subst ex
 obtain rfl:u=BF a:=rx
 obtain⟨t1,g1⟩:=g X pins σ s2 iv hP hw I2 ry
 exact(g1 _ _ hu).2.2 _ λs3 I3=>⟨.bl (!ov.isSome),H2,I3,rfl,q2⟩
theorem VT(hu:X.A.units+1<cLine)(ho:PE X o td)(hi:PE X i ty)(hv:PE X value tv)(hs:G5 value (some (.Subscript o i pos')) pos.line X.env=pure false)(hP:X.prog=P:=by rfl)(hw:X.w=w:=by rfl):
  PS X (.Assign [.Subscript o i pos'] value pos) (abn P w td ty tv):=by
 intro pins s σ H D I h
 refine wpAny_Assign_Subscript (aQ (hv pins s σ H _ I h) ?_) hs
 rintro r s1 ⟨v,H1,I1,rv,q1⟩
 refine aQ (ho pins s1 σ H1 _ I1 q1) ?_
 rintro u s2 ⟨x,H2,I2,rx,q2⟩
 refine aQ (hi pins s2 σ H2 _ I2 q2) ?_
 rintro iv s3 ⟨y,H3,I3,ry,a,H4,ex,g,q3⟩
 subst ex
 obtain rfl:u=BF a:=rx
 exact g X pins σ s3 iv r hP hw I3 ry rv _ _ _ hu λs4 I4=>⟨σ,H4,I4,q3⟩
end
structure oO (P:Ah)(w:World)(α:Type) where
 Rep:α->V->Hp->Prop
 Num:Hp->Addr->List α->Prop
 same:∀{x:α} {v:V} {H H':Hp},Rep x v H->bj H H'->Rep x v H'
 keep:∀{H H':Hp} {D:Addr} {xs:List α},Num H D xs->H' D=H D->Num H' D xs
 isD:∀{H:Hp} {D:Addr} {xs:List α},Num H D xs->∃o,H D=some o/\(∀l,o≠.lst l)/\(∀l,o≠.tup l)
 there:∀{H:Hp} {D:Addr} {xs:List α} {i:Nat} {x:α} {v:V},Num H D xs->Rep x v H->xs.Nodup->xs[i]? =some x->xh P w H D v (some (.int ((i:Nat):Int)))
 miss:∀{H:Hp} {D:Addr} {xs:List α} {x:α} {v:V},Num H D xs->Rep x v H->x ∉ xs->xh P w H D v none
 put:∀{H:Hp} {D:Addr} {xs:List α} {x:α} {v:V},Num H D xs->Rep x v H->x ∉ xs->xs.length<sizeLine->∃H',ML P w H D v (.int ((xs.length:Nat):Int)) H'/\KB D H H'/\Num H' D (xs++[x])
 xf:∀{X:Cx} {pos kpos cpos:Pos} {x:Str} {i j:Nat},X.A.units+1<cLine->PE X (.Name x kpos) (Md i)->PE X (.Constant (.int 0) j cpos) (tC (.int 0))->X.prog=P->X.w=w->PE X (.Dict [some (.Name x kpos)] [.Constant (.int 0) j cpos] pos)
  (λσ H Q=>∃y v,σ[i]? =some (some v)/\Rep y v H/\∀D H',H D=none->Same H H'->Num H' D [y]->Q (.ref D) H')
def xc.toS{α:Type}(P:Ah)(w:World)(R:xc α):oO P w α where
 Rep:=R.Rep
 Num:=R.Num
 same:=R.same
 keep:=R.keep
 isD:=R.isD
 there:=λh r nd e=>(R.there h r nd e).toS
 miss:=λh r n=>(R.miss h r n).toS
 put:=λh r n hl=>let ⟨H',g,k,z⟩:=R.put h r n hl;⟨H',g.toS,k,z⟩
 xf:=λhu h1 h2 _ _=>R.xf hu h1 h2
def TY:Option Int->Value->Bool
 | none,.none=>true
 | some i,v=>FQ i v
 | _,_=>false
theorem fG{k:Option Int}{v:Value}(h:TY k v=true):(k=none/\v=Bz)∨∃i t,k=some i/\v=Fm i t:=by
 cases k with
 | none=>
  cases v with
  | none=>exact .inl ⟨rfl,rfl⟩
  | _=>exact absurd h (by simp[TY])
 | some i=>
  obtain⟨t,e⟩:=Value.isInt_shape (k:=i) (v:=v) (by simpa[TY] using h)
  exact .inr ⟨i,t,rfl,e⟩
def oH(w:World):Option Int->Int
 | none=>PySem.W.hashW w.params .none
 | some i=>hashInt i
def MM(prog:Ah)(w:World):PySem.KeyKind prog w (Option Int) where
 is:=TY
 hash:=oH w
 inj:=λv a b ha hb=>by
  rcases fG ha with⟨rfl,rfl⟩ | ⟨i,t,rfl,rfl⟩
  ·rcases fG hb with⟨rfl,_⟩ | ⟨j,u,_,e⟩
   ·rfl
   ·exact nomatch e
  ·rcases fG hb with⟨_,e⟩ | ⟨j,u,rfl,e⟩
   ·exact nomatch e
   ·injection e with e1 _;rw[e1]
 byValue:=λk v h=>by
  rcases fG h with⟨rfl,rfl⟩ | ⟨i,t,rfl,rfl⟩<;>rfl
 pyHash:=λhv h=>by
  rcases fG hv with⟨rfl,rfl⟩ | ⟨i,t,rfl,rfl⟩
  ·exact PySem.W.pyHash_slot (T:="NoneType") rfl PySem.F.slot_NoneType_hash PySem.F.entry_NoneType_hash (PySem.F.args_NoneType_hash_1 _) (beq_builtin_none _) (.inl rfl) (AD (AO (AD (wpAny_mkInt (AO ⟨_,_,rfl,h⟩)))))
  ·exact wpAny_pyHash_int h
 eqBool:=λ{A E s a b u v Q} hu hv h=>by
  rcases fG hu with⟨rfl,rfl⟩ | ⟨i,t,rfl,rfl⟩
  ·rcases fG hv with⟨rfl,rfl⟩ | ⟨j,u,rfl,rfl⟩
   ·exact GU _ _ _ _ _ (by simpa using h)
   ·exact G' j u _ _ _ _ (by simpa using h)
  ·rcases fG hv with⟨rfl,rfl⟩ | ⟨j,u,rfl,rfl⟩
   ·exact HA i t _ _ _ _ (by simpa using h)
   ·refine wpAny_eqBool_int ?_
    have e:decide ((some i:Option Int)=some j)=(i == j):=by
     by_cases z:i=j
     ·subst z;simp
     ·rw[decide_eq_false (λy=>z (AS y))];exact(beq_eq_false_iff_ne.mpr z).symm
    rw[<-e];exact h
 «strs» :=λk x t v h=>by
  rcases fG h with⟨_,e⟩ | ⟨_,_,_,e⟩<;>exact nomatch e
def oV:Option Int->V
 | none=>.non
 | some i=>.int i
theorem vP{P:Ah}{w:World}{k:Option Int}{u:Value}(r:RelV (oV k) u):(MM P w).is k u=true:=by
 cases k with
 | none=>cases(show u=Bz from r);rfl
 | some i=>obtain⟨t,rfl⟩:=(show ∃t,u=Fm i t from r);show FQ i (.int i t)=true;simp[FQ]
def dO(P:Ah)(w:World)(a:Addr)(kvs:List (Option Int×V)):Heap->Prop:=λh=>kvs.length<=sizeLine/\(a == Ba)=false/\∃vs,KV kvs vs/\h.DictOf (MM P w) a vs
theorem Iw{P:Ah}{w:World}{H:Hp}{h:Heap}{a:Addr}{kvs:List (Option Int×V)}(d:dO P w a kvs h):bN P w H h a (.ext (dO P w a kvs)):=
 ⟨d,let ⟨_,_,_,_,o,_,_,e,_⟩:=d;⟨o,e⟩,λ_ _ ⟨z,y,vs,r,o,es,ep,e,t⟩ k=>⟨z,y,vs,r,o,es,ep,k o e,t⟩⟩
section
variable{X:Cx}{pins:List (Addr×Obj)}{σ:St}{H:Hp}{s:AN}{a:Addr}{kvs:List (Option Int×V)}
theorem MN(I:Inv X pins σ H s)(e:H a=some (.ext (dO X.prog X.w a kvs))):dO X.prog X.w a kvs s.heap:=(show bN X.prog X.w H s.heap a (.ext (dO X.prog X.w a kvs)) from I.hok a _ e).1
end
theorem XW{P:Ah}{w:World}{H:Hp}{a:Addr}{kvs:List (Option Int×V)}{k:Option Int}(e:H a=some (.ext (dO P w a kvs))):xh P w H a (oV k) (aZ kvs k):=by
 intro X pins σ s u hP hw I ry
 subst hP hw
 obtain⟨z,hd,vs,rel,dd⟩:=MN I e
 refine⟨dd.typeIs,λA E hu=>⟨λv Q l h=>?_,λQ h=>?_,λQ h=>?_⟩⟩
 ·obtain⟨w',hw,jS⟩:=iu.some_of (v:=v) (o:=GF vs k) (by rw[<-l];exact rel.val k)
  exact wpAny_getItem_of (vP ry) dd.mapOf hw (h w' _ (I.tok _) jS)
 ·refine wpAny_in_of (vP ry) hd dd.mapOf ?_
  rw[<-(rel.val k).iz]
  exact h _ (I.tok _)
 ·refine wpAny_notIn_of (vP ry) hd dd.mapOf ?_
  rw[<-(rel.val k).iz]
  exact h _ (I.tok _)
theorem aex{P:Ah}{w:World}{H:Hp}{a:Addr}{kvs:List (Option Int×V)}{k:Option Int}{v:V}(e:H a=some (.ext (dO P w a kvs)))(l:kvs.length<sizeLine):ML P w H a (oV k) v (upd H a (.ext (dO P w a (putK kvs k v)))):=by
 intro X pins σ s u r hP hw I ry rv A E Q hu h
 subst hP hw
 obtain⟨z,hd,vs,rel,dd⟩:=MN I e
 have hz:vs.length<=sizeLine:=by rw[<-rel.length];exact z
 have hl:(putK kvs k v).length<=sizeLine:=by have:=i' kvs k v;omega
 refine wpAny_setItem_pairs (hsz:=hz) (vP ry) dd λh' nh hs=>h _ ?_
 have he:∃q,h'.get? a=some q:=let ⟨q,_,_,hq,_⟩:=nh;⟨q,hq⟩
 exact mW I (by rw[e];exact BU) hs he (Iw ⟨hl,hd,_,rel.put k rv,nh⟩)
theorem RF{P:Ah}{w:World}{H:Hp}(h:Heap)(hb:Ba<h.objs.size):bN P w H (h.push {cls:=.type "dict",data:=.dict #[]}) h.objs.size (.ext (dO P w h.objs.size [])):=
 Iw ⟨A6 _,beq_eq_false_iff_ne.mpr (C1 (Al hb)),[],.nil,Ep h⟩
def XX(P:Ah)(w:World)(tk tv:TE):TE:=λσ H Q=>∀p,H p=none->tk σ (upd H p (.ext (dO P w p []))) λx H1=>tv σ H1 λy H2=>H2 p=some (.ext (dO P w p []))/\∃k,x=oV k/\Q (.ref p) (upd H2 p (.ext (dO P w p [(k,y)])))
theorem RG{X:Cx}{P:Ah}{w:World}{pos:Pos}{k v:Expr}{tk tv:TE}(hk:PE X k tk)(hv:PE X v tv)(hP:X.prog=P)(hw:X.w=w):PE X (.Dict [some k] [v] pos) (XX P w tk tv):=by
 subst hP hw
 intro pins s σ H Q I q
 have hn:=I.hok.fresh (AM s.heap.objs.size)
 have I1:=I.laid (a:=s.heap.objs.size) (o:=.ext (dO X.prog X.w s.heap.objs.size [])) (h':=s.heap.push {cls:=.type "dict",data:=.dict #[]}) (t':=s.toks) (λ_ _ q=>AE _ q) (AM _) (RF s.heap I.big)
 have hp:Li X pos [some k] [v] [(tk,tv)]:=ni hk hv wU
 refine wpAny_Dict_walk (knd:=MM X.prog X.w) rfl rfl (λz=>nomatch z) (show 1<=15 by decide) (aQ (hp pins _ σ _ (λps H2=>match ps with | [(x,y)]=>H2 s.heap.objs.size=some (.ext (dO X.prog X.w s.heap.objs.size []))/\∃k,x=oV k/\Q (.ref s.heap.objs.size) (upd H2 s.heap.objs.size (.ext (dO X.prog X.w s.heap.objs.size [(k,y)]))) | _=>False) I1 (q _ hn)) λws s2 ⟨ps,H2,I2,rel,q2⟩=>?_)
 cases rel with
 | nil=>exact Bb q2
 | @cons p0 w0 ps' ws' r0 rt=>
  cases rt with
  | cons r1 rt1=>exact Bb q2
  | nil=>
   obtain⟨x0,y0⟩:=p0
   obtain⟨kv,vv⟩:=w0
   obtain⟨e,kk,ek,q3⟩:=q2
   subst ek
   obtain⟨z,hd,vs0,rx,dd⟩:=MN I2 e
   cases rx
   refine⟨[(kk,vv)],⟨vP r0.1,rfl,BU⟩,dd,λh' nh hs=>⟨.ref s.heap.objs.size,_,?_,rfl,q3⟩⟩
   have he:∃q,h'.get? s.heap.objs.size=some q:=let ⟨q,_,_,hq,_⟩:=nh;⟨q,hq⟩
   exact mW I2 (by rw[e];exact BU) hs he (Iw ⟨by show 1<=sizeLine;decide,hd,_,.cons ⟨rfl,r0.2⟩ .nil,nh⟩)
theorem Iy{α:Type}(a b:α)(h:id a=id b):a=b:=h
def Iz(P:Ah)(w:World):oO P w (Option Int) where
 Rep:=λx v _=>v=oV x
 Num:=λH D xs=>H D=some (.ext (dO P w D (kvsOf id xs)))
 same:=λh _=>h
 keep:=λh e=>e.trans h
 isD:=λh=>⟨_,h,(λl z=>by cases z),(λl z=>by cases z)⟩
 there:=λ{H D xs i x v} h r nd e=>by
  subst r
  have:=XW (k:=x) h
  rw[show aZ (kvsOf id xs) x=some (.int ((i:Nat):Int)) from qw Iy _ rfl nd e] at this
  exact this
 miss:=λ{H D xs x v} h r n=>by
  subst r
  have:=XW (k:=x) h
  rw[show aZ (kvsOf id xs) x=none from jW Iy n] at this
  exact this
 put:=λ{H D xs x v} h r n hl=>by
  subst r
  refine⟨_,aex (k:=x) h (by rw[yt];exact hl),KB.write,?_⟩
  rw[af,kj _ (show aZ (kvsOf id xs) x=none from jW Iy n),qv]
  rfl
 xf:=λ{X pos kpos cpos x i j} hu h1 h2 hP hw pins s σ H Q I q=>by
  obtain⟨y,v,hv,rfl,q⟩:=q
  refine RG h1 h2 hP hw pins s σ H Q I λp hp=>⟨_,hv,?_⟩
  refine⟨af,y,rfl,q p _ hp ((Same.new hp).kbn hp KB.write) ?_⟩
  rw[af];rfl
theorem oP:E_ (.type "tuple") "keys"=pure none:=by rw[DF,CB];kernel_rfl
section
variable{P:Ah}{w:World}{A:BB}{E:Value->AN->Prop}{s:AN}
theorem y_{a:Addr}{xs:Array Value}{k:Nat}{sl:Array (Option Value)}{Q:Option Value->AN->Prop}(hx:s.heap.get? a=some ⟨.type "tuple",none,.seq xs k,sl⟩)(hA:A.handled=none)
  (h:∀h' tk,(∀b o,s.heap.get? b=some o->h'.get? b=some o)->Q none {s with heap:=h',toks:=tk}):wpAny (model P w) A (getAttr? (.ref a) "keys") Q E s:=by
 obtain⟨hp,g,d,tk,os⟩:=s
 have hT:∀tk',(⟨hp,g,d,tk',os⟩:AN).TypeIs (.ref a) "tuple":=λ_=>⟨_,hx,rfl⟩
 have f1:=sub_AttributeError
 have f3:=De.lookup
 have f4:=De.bind (.ref a)
 have f5:=am_tuple_getattr_none
 have f6:=oP
 unfold getAttr? getAttrBy? getAttrBy
 repeat (any_goals (first | assumption | exact hT _ | ((with_reducible show wpAny _ _ (call (Value.builtin "tuple.__getattribute__") _ _) _ _ _);refine FC De (hT _) am_entry_tuple_getattribute (F.args_tuple_getattribute_2 _ _) (meets_getattribute_miss_tuple a xs k sl "keys" _ oP (by decide+kernel) (by size_fits)) ⟨hx,hA,λh' tk' e hx'=>?_⟩) | wp_step))
 obtain⟨t',u',he⟩:=hx'.there
 show wpAny _ _ (D4 _ _ _ _ _ _ _) _ _ _
 unfold D4
 repeat (any_goals (first | assumption | wp_step))
 exact h _ _ hx'.keeps
theorem xi{l:Addr}{its:Array Value}{nl:Nat}{sl:Array (Option Value)}{more:List (Key×Value)}{Q:Value->AN->Prop}(hh:A.handled=none)(hl:s.heap.get? l=some ⟨.type "tuple",none,.seq its nl,sl⟩)
  (hp:∀(i:Nat) (v:Value),its[i]? =some v->∃p k key u o m,v=.ref p/\more[i]? =some (k,u)/\(bf P w).is k key=true/\s.heap.get? p=some o/\o.cls=.type "tuple"/\o.data=.seq #[key,u] m) (hml:more.length=its.size) (hb:its.size<sizeLine)
  (h:∀h' tk,h'.DictOf (bf P w) s.heap.objs.size (GG [] more)->(∀b o,s.heap.get? b=some o->h'.get? b=some o)->Q (.ref s.heap.objs.size) {s with heap:=h',toks:=tk}):
  wpAny (model P w) A (call (.type "dict") [.ref l]) Q E s:=by
 refine Gz (Q₁:=λobj s₁=>obj=.ref s.heap.objs.size/\s₁={s with heap:=s.heap.push {cls:=.type "dict",data:=.dict #[]}}) F.kt_called_dict (F.kt_typeCall_dict_1 _) F.entry_dict_init (kt_code_dict_new _ ⟨rfl,rfl⟩) ?_
 rintro obj s₁ ⟨rfl,rfl⟩
 have hnew:(s.heap.push {cls:=.type "dict",data:=.dict #[]}).DictOf (bf P w) s.heap.objs.size []:=Ep s.heap
 have hl1:(s.heap.push {cls:=.type "dict",data:=.dict #[]}).get? l=some ⟨.type "tuple",none,.seq its nl,sl⟩:=AE _ hl
 have lS:l<s.heap.objs.size:=AR hl
 refine⟨hnew.typeIs,F.args_dict_init_2 _ _,?_⟩
 unfold Builtin.«dict.__init__»
 refine AD ?_
 unfold Fj
 refine AD (wpAny_notOrdered_dict hnew.typeIs ?_)
 show wpAny _ _ (pure (s.heap.objs.size,[BF l])) _ _ _
 refine AO ?_
 show wpAny _ _ (C6 "dict.__init__" s.heap.objs.size (.ref l) [] .none) _ _ _
 unfold C6
 refine AD (Cr (show Fi {s with heap:=s.heap.push {cls:=.type "dict",data:=.dict #[]}} (.ref l) "tuple" from⟨_,hl1,rfl⟩) ?_)
 rw[if_pos (by decide)]
 refine AD (y_ hl1 (by simp[hh]) λh1 tk1 k1=>?_)
 rw[show(none:Option Value).isNone=true from rfl,if_pos rfl]
 refine AD (DB ?_)
 have hl2:h1.IsTuple l its:=⟨_,k1 _ _ hl1,rfl,nl,rfl⟩
 refine AD (E6 hl2 ?_)
 refine AO ⟨CY eE _,?_⟩
 have XR:l<h1.objs.size:=AR (k1 _ _ hl1)
 have yj:l≠h1.objs.size:=Al XR
 have Ir:s.heap.objs.size<h1.objs.size:=by
  obtain⟨o,es,ep,ho,_⟩:=hnew
  exact AR (k1 _ _ ho)
 have nf:s.heap.objs.size ∉ [h1.objs.size,l]:=by
  simp only[Ae,Bq,or_false,not_or]
  exact⟨Al Ir,CH lS⟩
 have hh3:A.in1.in1.handled=none:=by simp[hh]
 refine yr ((Walks.tuple hh3 _ l yj its).toS) nf more hml hb (its.size-0) 0 0 _ (by omega) (A6 _) ⟨⟨_,AV _ rfl,rfl,rfl⟩,hl2.push _⟩ (λi v hv=>?_) ?_ λs' mv hd=>?_
 ·obtain⟨p,k,key,u,o,m,e1,e2,e3,e4,e5,e6⟩:=hp i v hv
  have lp:=AR e4
  refine⟨p,k,key,u,o,m,e1,e2,e3,AE _ (k1 _ _ (AE _ e4)),e5,e6,Al lp,λz=>?_⟩
  have e9:p=h1.objs.size:=AW.mp z
  rw[e9] at lp
  exact absurd (CL lp Ir) (BQ _)
 ·show Heap.DictOf _ _ _ (GG [] (more.take 0))
  obtain⟨o,es,ep,ho,r⟩:=hnew
  exact⟨o,es,ep,AE _ (k1 _ _ ho),r⟩
 ·obtain⟨h',g',d',tk',os'⟩:=s'
  have eg:g'=s.gens:=mv.gens
  have ed:d'=s.drawn:=mv.drawn
  have eo:os'=s.os:=mv.os
  subst eg ed eo
  refine⟨rfl,h h' tk' hd λb o e=>mv.heap b o (λz=>?_) (AE _ (k1 _ _ (AE _ e)))⟩
  have lb:=AR e
  simp only[Ae,Bq,or_false] at z
  rcases z with z | z
  ·rw[z] at lb;exact BQ _ lb
  ·rw[z] at lb;exact BQ _ (CL lb Ir)
end
section
variable{X:Cx}
def XY:List V->Hp->VK->Prop:=λvs H Q=>∃(l:Addr) (ps:List Addr) (kvs:List (Key×V)),vs=[.ref l]/\H l=some (.tup (ps.map V.ref))/\Bl (λ(p:Addr) (q:Key×V)=>H p=some (.tup [kV q.1,q.2])) ps kvs/\kvs.length<sizeLine/\∀D,H D=none->Q (.ref D) (upd H D (.dK (bL [] kvs)))
theorem qy(hA:X.A.handled=none):cY X (.type "dict") XY:=by
 intro pins s σ H xs us Q I r h
 obtain⟨l,ps,kvs,rfl,hl,hp,hb,q⟩:=h
 obtain⟨u,rfl,ru⟩:=vals1 r
 cases ru
 obtain⟨⟨z,o0,ho0,hd0⟩,its,rv,⟨o1,ho1,hc1,n,hd1⟩⟩:=I.hok l _ hl
 rw[ho0] at ho1
 cases ho1
 obtain⟨amE,dd0,amA,sl0⟩:=o0
 simp only at hc1 hd1 hd0
 subst hc1 hd1 hd0
 have e:=ho0
 have key:∀(ps:List Addr) (kvs:List (Key×V)) (its:List Value),Bl (λ(p:Addr) (q:Key×V)=>H p=some (.tup [kV q.1,q.2])) ps kvs->Vals (ps.map V.ref) its->
   ∃more:List (Key×Value),KV kvs more/\∀(i:Nat) (v:Value),its[i]? =some v->∃p k key u o m,v=.ref p/\more[i]? =some (k,u)/\(bf X.prog X.w).is k key=true/\s.heap.get? p=some o/\o.cls=.type "tuple"/\o.data=.seq #[key,u] m:=by
  intro ps kvs its a
  induction a generalizing its with
  | nil=>intro b;cases b;exact⟨[],.nil,λi v hv=>by simp at hv⟩
  | @cons p q ps kvs h t ih=>
   intro b
   cases b with
   | cons rp rt=>
    obtain⟨more,m1,m2⟩:=ih _ rt
    obtain⟨z2,its2,rb,o,ho,hc,m,hd⟩:=I.hok p _ h
    cases rb with
    | cons r1 r2=>
     cases r2 with
     | cons r2 r3=>
      cases r3
      cases(show _=BF p from rp)
      refine⟨(q.1,_)::more,.cons ⟨rfl,r2⟩ m1,λi v hv=>?_⟩
      cases i with
      | zero=>
       have e:BF p=v:=by simpa using hv
       exact⟨p,q.1,_,_,o,m,e.symm,rfl,mQ r1,ho,hc,hd⟩
      | succ i=>exact m2 i v (by simpa using hv)
 obtain⟨more,m1,m2⟩:=key ps kvs its hp rv
 have len1:more.length=its.length:=by rw[<-Ag m1,<-Ag hp,<-rv.length,AA]
 have len2:its.length=kvs.length:=by rw[<-len1,<-Ag m1]
 refine xi (nl:=n) (its:=its.toArray) (more:=more) hA e (λi v hv=>m2 i v (by simpa using hv)) (by simpa using len1) (by rw[Ai,len2];exact hb) λh' tk dd kp=>?_
 have bg:(s.heap.objs.size == Ba)=false:=beq_eq_false_iff_ne.mpr (C1 (Al I.big))
 have hz:(bL [] kvs).length<=sizeLine:=by
  have h1:=gY kvs []
  rw[DD] at h1
  omega
 exact⟨.ref s.heap.objs.size,_,I.laid (a:=s.heap.objs.size) (o:=.dK (bL [] kvs)) (t':=tk) kp (AM _) ⟨hz,bg,_,m1.merge .nil,dd⟩,rfl,q _ (I.hok.fresh (AM _))⟩
end
section
variable{prog:Ah}{w:World}{A:BB}{E:Value->AN->Prop}{s:AN}
theorem OE{z TI TO i1 i2 l1 l2:Addr}{k:Nat}{xs ys:Array Value}{x y a b:Value}{Q:Value->AN->Prop}(D:G0 z TI TO i1 i2 l1 l2)(gz:IsZip s.heap z TI TO .none)(gI:Cm s.heap TI (.ref i1) (.ref i2))(gO:Cm s.heap TO a b)
  (g1:s.heap.IsTupleIter i1 l1 k) (g2:s.heap.IsListIter i2 l2 k) (m1:s.heap.IsTuple l1 xs) (m2:s.heap.IsList l2 ys) (ex:xs[k]? =some x) (ey:ys[k]? =some y)
  (q:∀h',IsZip h' z TI TO (A3 s.heap.objs.size)->Cm h' TO x y->h'.IsTupleIter i1 l1 (k+1)->h'.IsListIter i2 l2 (k+1)->Cm h' s.heap.objs.size x y->h'.objs.size=s.heap.objs.size+1->
   (∀c o,c≠z->c≠TO->c≠i1->c≠i2->s.heap.get? c=some o->h'.get? c=some o)->Q (.ref s.heap.objs.size) {s with heap:=h'}):
  wpAny (model prog w) A (Builtin.«zip.__next__» ⟨[.ref z],[]⟩) (λfin s'=>∃v,fin=.done (.ret v)/\Q v s') E s:=by
 show wpAny _ _ (field (.ref z) 2 >>= _) _ _ _;refine AD (Bt gz rfl (x:=.bool false) rfl ?_)
 show wpAny _ _ (field (.ref z) 3 >>= _) _ _ _;refine AD (Bt gz rfl (x:=.ref TI) rfl ?_);refine AD (CO gI rfl ?_)
 show wpAny _ _ (Bx (.ref z) >>= _) _ _ _;refine AD ?_;unfold Bx
 refine AD (Bt gz rfl (x:=.none) rfl (AO ?_));simp only[if_true];refine AD (DB ?_)
 refine AD (Bt gz rfl (x:=.ref TO) rfl ?_);refine AD (Bh gz (by simp) λh1 z1 s1=>?_)
 replace z1:IsZip h1 z TI TO .ellipsis:=z1
 refine AD ?_;simp only[List.zipIdx_cons,List.zipIdx_nil,Er,G3];refine AD (AD (HK ?_))
 show wpAny _ _ (Be (.ref i1) >>= _) _ _ _;refine AD (KJ (jb g1 s1.extBut D.i1z) (yp m1 s1.extBut D.l1z) ex λh2 it2 s2=>AO ?_)
 have O2:Cm h2 TO a b:=s2.extBut _ _ D.TOi1 (s1.extBut _ _ D.TOz gO)
 refine AD (CO O2 rfl ?_);refine AD (wpAny_updateSeq_pair O2 λh3 O3 s3=>?_)
 replace O3:Cm h3 TO x b:=O3
 refine AD (wpAny_letGo (AO ?_));refine AD (AD (HK ?_))
 show wpAny _ _ (Be (.ref i2) >>= _) _ _ _;refine AD (wpAny_nextOf_list_item (((g2.extBut s1.extBut D.i2z).extBut s2.extBut D.i12.symm).extBut s3.extBut D.TOi2.symm) (((m2.extBut s1.extBut D.l2z).extBut s2.extBut D.l2i1).extBut s3.extBut D.l2TO) ey λh4 it4 s4=>AO ?_)
 have O4:Cm h4 TO x b:=s4.extBut _ _ D.TOi2 O3
 refine AD (CO O4 rfl ?_);refine AD (wpAny_updateSeq_pair O4 λh5 O5 s5=>?_)
 replace O5:Cm h5 TO x y:=O5
 refine AD (wpAny_letGo (AO (AO ?_)));refine AD (CO O5 rfl ?_);refine AD (wpAny_newTuple ?_)
 have sz:h5.objs.size=s.heap.objs.size:=by rw[s5.1,s4.1,s3.1,s2.1,s1.1]
 have z5:IsZip h5 z TI TO .ellipsis:=s5.extBut _ _ D.TOz.symm (s4.extBut _ _ D.i2z.symm (s3.extBut _ _ D.TOz.symm (s2.extBut _ _ D.i1z.symm z1)))
 have k5:∀c o,c≠z->c≠TO->c≠i1->c≠i2->s.heap.get? c=some o->h5.get? c=some o:=λc o c1 c2 c3 c4 e=>s5.extBut _ _ c2 (s4.extBut _ _ c4 (s3.extBut _ _ c2 (s2.extBut _ _ c3 (s1.extBut _ _ c1 e))))
 have a5:h5.IsTupleIter i1 l1 (k+1):=jb (jb (jb it2 s3.extBut D.TOi1.symm) s4.extBut D.i12) s5.extBut D.TOi1.symm
 have b5:h5.IsListIter i2 l2 (k+1):=it4.extBut s5.extBut D.TOi2.symm
 have zlt:z<h5.objs.size:=AR z5
 show wpAny _ _ (Di (.ref z) (.ref h5.objs.size) >>= _) _ _ _
 refine AD ?_;unfold Di
 have z6:IsZip (h5.push {cls:=.type "tuple",data:=.seq #[x,y]}) z TI TO .ellipsis:=AE _ z5
 refine AD (Bh z6 (by simp) λh7 z7 s7=>?_)
 replace z7:IsZip h7 z TI TO (A3 h5.objs.size):=z7
 refine Bh z7 (by simp) λh8 z8 s8=>?_
 replace z8:IsZip h8 z TI TO (A3 h5.objs.size):=z8
 have up:∀c o,c≠z->h5.get? c=some o->h8.get? c=some o:=λc o c1 e=>s8.extBut _ _ c1 (s7.extBut _ _ c1 (AE _ e))
 have T8:Cm h8 h5.objs.size x y:=s8.extBut _ _ (CH zlt) (s7.extBut _ _ (CH zlt) (AV _ rfl))
 have e8:h8.objs.size=h5.objs.size+1:=by rw[s8.1,s7.1,BG]
 rw[sz] at z8 T8 e8
 refine AO ⟨_,rfl,?_⟩;show Q (.ref h5.objs.size) _;rw[sz]
 exact q h8 z8 (up _ _ D.TOz O5) (let ⟨o,ho,r⟩:=a5;⟨o,up _ _ D.i1z ho,r⟩) (b5.at λo e=>up _ o D.i2z e) T8 e8 λc o c1 c2 c3 c4 e=>up c o c1 (k5 c o c1 c2 c3 c4 e)
theorem RH{z TI TO i1 i2 l1 l2:Addr}{k:Nat}{xs ys:Array Value}{a b:Value}{Q:Fin->AN->Prop}(hh:A.handled=none)(D:G0 z TI TO i1 i2 l1 l2)(gz:IsZip s.heap z TI TO .none)(gI:Cm s.heap TI (.ref i1) (.ref i2))(gO:Cm s.heap TO a b)
  (g1:s.heap.IsTupleIter i1 l1 k) (g2:s.heap.IsListIter i2 l2 k) (m1:s.heap.IsTuple l1 xs) (m2:s.heap.IsList l2 ys) (ex:xs[k]? =none)
  (q:∀h' e,(∀c o,c≠z->c≠TO->c≠i1->c≠i2->s.heap.get? c=some o->h'.get? c=some o)->(∃o,h'.get? e=some o/\o.cls=.type "StopIteration")->E (.ref e) {s with heap:=h'}):
  wpAny (model prog w) A (Builtin.«zip.__next__» ⟨[.ref z],[]⟩) Q E s:=by
 show wpAny _ _ (field (.ref z) 2 >>= _) _ _ _;refine AD (Bt gz rfl (x:=.bool false) rfl ?_)
 show wpAny _ _ (field (.ref z) 3 >>= _) _ _ _;refine AD (Bt gz rfl (x:=.ref TI) rfl ?_);refine AD (CO gI rfl ?_)
 show wpAny _ _ (Bx (.ref z) >>= _) _ _ _;refine AD ?_;unfold Bx
 refine AD (Bt gz rfl (x:=.none) rfl (AO ?_));simp only[if_true];refine AD (DB ?_)
 refine AD (Bt gz rfl (x:=.ref TO) rfl ?_);refine AD (Bh gz (by simp) λh1 z1 s1=>?_)
 replace z1:IsZip h1 z TI TO .ellipsis:=z1
 refine AD ?_;simp only[List.zipIdx_cons,List.zipIdx_nil,Er,G3];refine AD (AD (HK ?_))
 show wpAny _ _ (Be (.ref i1) >>= _) _ _ _;refine AD (KL hh (jb g1 s1.extBut D.i1z) (yp m1 s1.extBut D.l1z) ex λh2 e s2 he=>?_)
 obtain⟨oe,hoe,hce⟩:=he
 have z2:IsZip h2 z TI TO .ellipsis:=s2 _ _ D.i1z.symm z1
 have nez:e≠z:=λx=>by subst x;rw[z2] at hoe;cases hoe;simp at hce
 refine Bh z2 (by simp) λh3 _ s3=>q h3 e (λc o c1 _ c3 _ x=>s3.extBut _ _ c1 (s2 _ _ c3 (s1.extBut _ _ c1 x))) ⟨oe,s3.extBut _ _ nez hoe,hce⟩
theorem OG{z TI TO i1 i2 l1 l2:Addr}{k:Nat}{xs ys:Array Value}{x y a b:Value}{Q:Option Value->AN->Prop}(D:G0 z TI TO i1 i2 l1 l2)(gz:IsZip s.heap z TI TO .none)(gI:Cm s.heap TI (.ref i1) (.ref i2))(gO:Cm s.heap TO a b)
  (g1:s.heap.IsTupleIter i1 l1 k) (g2:s.heap.IsListIter i2 l2 k) (m1:s.heap.IsTuple l1 xs) (m2:s.heap.IsList l2 ys) (ex:xs[k]? =some x) (ey:ys[k]? =some y)
  (q:∀h',IsZip h' z TI TO (A3 s.heap.objs.size)->Cm h' TO x y->h'.IsTupleIter i1 l1 (k+1)->h'.IsListIter i2 l2 (k+1)->Cm h' s.heap.objs.size x y->h'.objs.size=s.heap.objs.size+1->
   (∀c o,c≠z->c≠TO->c≠i1->c≠i2->s.heap.get? c=some o->h'.get? c=some o)->Q (some (.ref s.heap.objs.size)) {s with heap:=h'}):wpAny (model prog w) A (DH (.ref z)) Q E s:=by
 have ty:s.TypeIs (.ref z) "zip":=⟨_,gz,rfl⟩
 unfold DH
 exact AD (Dl (BO (name:=CJ "__next__") ty DK (BS DK ty GK (OE D gz gI gO g1 g2 m1 m2 ex ey λh' a1 a2 a3 a4 a5 a6 a7=>AO (q h' a1 a2 a3 a4 a5 a6 a7)) (F_ _))))
theorem MO{z TI TO i1 i2 l1 l2:Addr}{k:Nat}{xs ys:Array Value}{a b:Value}{Q:Option Value->AN->Prop}(hh:A.handled=none)(D:G0 z TI TO i1 i2 l1 l2)(gz:IsZip s.heap z TI TO .none)(gI:Cm s.heap TI (.ref i1) (.ref i2))(gO:Cm s.heap TO a b)
  (g1:s.heap.IsTupleIter i1 l1 k) (g2:s.heap.IsListIter i2 l2 k) (m1:s.heap.IsTuple l1 xs) (m2:s.heap.IsList l2 ys) (ex:xs[k]? =none)
  (q:∀h',(∀c o,c≠z->c≠TO->c≠i1->c≠i2->s.heap.get? c=some o->h'.get? c=some o)->Q none {s with heap:=h'}):wpAny (model prog w) A (DH (.ref z)) Q E s:=by
 have ty:s.TypeIs (.ref z) "zip":=⟨_,gz,rfl⟩
 unfold DH
 refine AD (Dl (BO (name:=CJ "__next__") ty DK (BS DK ty GK (RH hh D gz gI gO g1 g2 m1 m2 ex λh' e hk he=>?_) (F_ _))))
 obtain⟨o,ho,hc⟩:=he
 exact AD (EX (T:="StopIteration") (b:=true) ⟨o,ho,hc⟩ isSubtype_stop (AO (q _ hk)))
abbrev OH (h:Heap)(l1 l2:Addr):Heap:=(h.push (Ot l1)).push (itL l2)
abbrev T_ (h:Heap)(l1 l2:Addr):Heap:=(OH h l1 l2).push {cls:=.type "tuple",data:=.seq #[.ref h.objs.size,.ref (h.push (Ot l1)).objs.size]}
abbrev OI (h:Heap)(l1 l2:Addr):Heap:=(T_ h l1 l2).push {cls:=.type "tuple",data:=.seq #[.none,.none]}
abbrev yv (h:Heap)(l1 l2:Addr):Heap:=(OI h l1 l2).push {cls:=.type "zip",data:=.fields #[.none,.bool false,.bool false,.ref (OH h l1 l2).objs.size,.ref (T_ h l1 l2).objs.size]}
theorem MP(l1 l2:Addr)(xs ys:Array Value):Meets (Builtin.«zip.__new__» ⟨[.type "zip",.ref l1,.ref l2],[]⟩) (λ_ R s=>s.heap.IsTuple l1 xs/\s.heap.IsList l2 ys/\R (.ok (.ret (.ref (OI s.heap l1 l2).objs.size))) {s with heap:=yv s.heap l1 l2}):=
 .of_wp λprog w A R s h=>by
  obtain⟨hp,g,d,tk,os⟩:=s;obtain⟨m1,m2,h⟩:=h
  have hsub:=PySem.sub_zip
  have L1:Heap.IsTuple (Shared.heap ⟨hp,g,d,tk,os⟩) l1 xs:=m1
  have L2:Heap.IsList (Shared.heap ⟨hp.push (Ot l1),g,d,tk,os⟩) l2 ys:=let ⟨o,ho,r⟩:=m2;⟨o,AE _ ho,r⟩
  wp_walk using E6 L1,D9 L2
  exact⟨_,rfl,h⟩
theorem OJ{l1 l2:Addr}{xs ys:Array Value}{Q:Value->AN->Prop}(m1:s.heap.IsTuple l1 xs)(m2:s.heap.IsList l2 ys)
  (q:∀h',IsZip h' (s.heap.objs.size+4) (s.heap.objs.size+2) (s.heap.objs.size+3) .none->Cm h' (s.heap.objs.size+2) (.ref s.heap.objs.size) (.ref (s.heap.objs.size+1))->
   Cm h' (s.heap.objs.size+3) .none .none->h'.IsTupleIter s.heap.objs.size l1 0->h'.IsListIter (s.heap.objs.size+1) l2 0->
   (∀c o,s.heap.get? c=some o->h'.get? c=some o)->Q (.ref (s.heap.objs.size+4)) {s with heap:=h'}):wpAny (model prog w) A (call (.type "zip") [.ref l1,.ref l2]) Q E s:=by
 refine callType_new PySem.F.called_zip (by decide) (PySem.F.typeCall_zip_2 _ _) (PySem.F.newCall_zip_2 _ _) (λobj=>PySem.F.args_object_init_3 obj _ _) PySem.F.entry_zip_new (MP l1 l2 xs ys) ⟨m1,m2,?_⟩
 have e1:(s.heap.push (Ot l1)).objs.size=s.heap.objs.size+1:=BG ..
 have e2:(OH s.heap l1 l2).objs.size=s.heap.objs.size+2:=by rw[BG,e1]
 have e3:(T_ s.heap l1 l2).objs.size=s.heap.objs.size+3:=by rw[BG,e2]
 have e4:(OI s.heap l1 l2).objs.size=s.heap.objs.size+4:=by rw[BG,e3]
 have p5:(yv s.heap l1 l2).get? (OI s.heap l1 l2).objs.size=some _:=AV _ rfl
 have up:∀{c:Addr} {o:Obj},(OI s.heap l1 l2).get? c=some o->(yv s.heap l1 l2).get? c=some o:=λx=>AE _ x
 have p4:(yv s.heap l1 l2).get? (T_ s.heap l1 l2).objs.size=some _:=up (AV _ rfl)
 have p3:(yv s.heap l1 l2).get? (OH s.heap l1 l2).objs.size=some _:=up (AE _ (AV _ rfl))
 have XZ:∀{c:Addr} {o:Obj},(OH s.heap l1 l2).get? c=some o->(yv s.heap l1 l2).get? c=some o:=λx=>up (AE _ (AE _ x))
 have p2:(yv s.heap l1 l2).get? (s.heap.push (Ot l1)).objs.size=some _:=XZ (AV _ rfl)
 have p1:(yv s.heap l1 l2).get? s.heap.objs.size=some _:=XZ (AE _ (AV _ rfl))
 show _/\_
 rw[e2,e3,e4] at p5
 rw[e1,e2] at p3
 rw[e3] at p4
 rw[e1] at p2
 rw[e4]
 exact⟨⟨_,p5,rfl⟩,q _ p5 p3 p4 ⟨_,p1,rfl,rfl⟩ ⟨_,p2,rfl,rfl⟩ λc o x=>XZ (AE _ (AE _ x))⟩
end
def RI(K:AB)(a b:Addr):It:=
 ⟨λi H=>∃xs ys x y,bF K H a xs/\bM K H b ys/\xs[i]? =some x/\ys[i]? =some y,
  λi H v H'=>∃x y p,(∀xs,bF K H a xs->xs[i]? =some x)/\(∀ys,bM K H b ys->ys[i]? =some y)/\H p=none/\v=.ref p/\H'=upd H p (.tup [x,y]),
  λi H=>∃xs ys,bF K H a xs/\bM K H b ys/\xs.length<=i⟩
theorem OL{P:Ah}{w:World}{K:AB}{elts:List Expr}{x1}{tpos:Pos}(a b z TI TO i1 i2:Addr)(D:G0 z TI TO i1 i2 a b):
  Turn P w K (.Tuple elts x1 tpos) (RI K a b) [z,TO,i1,i2,TI] z (λi h=>IsZip h z TI TO .none/\Cm h TI (.ref i1) (.ref i2)/\(∃x y,Cm h TO x y)/\h.IsTupleIter i1 a i/\h.IsListIter i2 b i) where
 mem:=by simp
 obj:=λi h st c hc=>by
  obtain⟨hz,hTI,⟨x,y,hTO⟩,h1,h2⟩:=st
  have hc':c=z∨c=TO∨c=i1∨c=i2∨c=TI:=by simpa using hc
  rcases hc' with q | q | q | q | q
  ·subst q;exact⟨_,hz,λv e=>nomatch e⟩
  ·subst q;exact⟨_,hTO,λv e=>nomatch e⟩
  ·subst q
   obtain⟨o,e,_,d⟩:=h1
   exact⟨o,e,λv q=>by rw[d] at q;cases q⟩
  ·subst q
   obtain⟨o,e,_,d⟩:=h2
   exact⟨o,e,λv q=>by rw[d] at q;cases q⟩
  ·subst q;exact⟨_,hTI,λv e=>nomatch e⟩
 keep:=λi h h' st k=>by
  obtain⟨hz,hTI,⟨x,y,hTO⟩,h1,h2⟩:=st
  exact⟨k z (by simp) _ hz,k TI (by simp) _ hTI,⟨x,y,k TO (by simp) _ hTO⟩,let ⟨o,ho,r⟩:=h1;⟨o,k i1 (by simp) o ho,r⟩,h2.at λo q=>k i2 (by simp) o q⟩
 item:=by
  intro X hP hw hK hc i pins s σ H E I hf st hg
  subst hP hw hK
  obtain⟨hz,hTI,⟨u1,u2,hTO⟩,h1,h2⟩:=st
  obtain⟨xs,ys,x,y,hq,hq2,hx,hy⟩:=hg
  obtain⟨its,rv,p,_⟩:=I.tuple hq
  obtain⟨its2,rb,p2,_⟩:=I.list hq2
  obtain⟨u,hu,ru⟩:=rv.get hx
  obtain⟨v,hv,rv'⟩:=rb.get hy
  refine OG D hz hTI hTO h1 h2 (show s.heap.IsTuple a its.toArray from p) p2.isList (x:=u) (y:=v) (by simpa using hu) (by simpa using hv) λh1' a1 a2 a3 a4 a5 a6 kk=>?_
  have nn:H s.heap.objs.size=none:=I.hok.fresh (AM _)
  have Ii:∀c∈[z,TO,i1,i2],i6 X pins H c:=λc hc=>hf c (by
   have hc':c=z∨c=TO∨c=i1∨c=i2:=by simpa using hc
   rcases hc' with q | q | q | q<;>simp[q])
  have I1:Inv X pins σ (upd H s.heap.objs.size (.tup [x,y])) {s with heap:=h1',toks:=s.toks}:=
   I.uE (ch:=[z,TO,i1,i2]) Ii (λc o hc q=>kk c o (λe=>hc (by simp[e])) (λe=>hc (by simp[e])) (λe=>hc (by simp[e])) (λe=>hc (by simp[e])) q) (AM _)
    ⟨⟨by show 2<=sizeLine;decide,_,a5,rfl⟩,[u,v],.cons ru (.cons rv' .nil),⟨_,a5,rfl,_,rfl⟩⟩
  have lz:z<s.heap.objs.size:=AR hz
  have Xu:TI<s.heap.objs.size:=AR hTI
  have Xv:TO<s.heap.objs.size:=AR hTO
  have l1:i1<s.heap.objs.size:=by obtain⟨o,q,_⟩:=id h1;exact AR q
  have l2:i2<s.heap.objs.size:=by obtain⟨o,q,_⟩:=id h2;exact AR q
  refine⟨_,rfl,FO a1 λh2' e2 sb=>?_⟩
  obtain⟨f0,f1,f2,f3,f4,f5⟩:=hf z (by simp)
  have I2:=I1.turned (h':=h2') (t':=s.toks) (it:=z) (λc o hc q=>(sb.2 c hc).trans q) (by rw[aB (Al lz)];exact f0) f1 f3 f4 f5
  refine⟨.ref s.heap.objs.size,_,I2,rfl,⟨x,y,s.heap.objs.size,λzs hy=>by rw[I.rP hy hq];exact hx,λzs hz'=>by rw[I.ki hz' hq2];exact hy,nn,rfl,rfl⟩,
   ⟨e2,(sb.2 TI D.TIz).trans (kk _ _ D.TIz D.TITO D.TIi1 D.TIi2 hTI),⟨_,_,(sb.2 TO D.TOz).trans a2⟩,let ⟨o,ho,r⟩:=a3;⟨o,(sb.2 i1 D.i1z).trans ho,r⟩,a4.at λo q=>(sb.2 i2 D.i2z).trans q⟩,λc hc=>?_⟩
  have hlt:c<s.heap.objs.size:=by
   have hc':c=z∨c=TO∨c=i1∨c=i2∨c=TI:=by simpa using hc
   rcases hc' with q | q | q | q | q
   ·rw[q];exact lz
   ·rw[q];exact Xv
   ·rw[q];exact l1
   ·rw[q];exact l2
   ·rw[q];exact Xu
  rw[aB (Al hlt)]
  exact(hf c hc).1
 done:=by
  intro X hP hw hK hc i pins s σ H E I hf st hg
  subst hP hw hK
  obtain⟨hz,hTI,⟨u1,u2,hTO⟩,h1,h2⟩:=st
  obtain⟨xs,ys,hq,hq2,hx⟩:=hg
  obtain⟨its,rv,p,_⟩:=I.tuple hq
  obtain⟨its2,rb,p2,_⟩:=I.list hq2
  have hl:=rv.length
  have Ii:∀c∈[z,TO,i1,i2],i6 X pins H c:=λc hc=>hf c (by
   have hc':c=z∨c=TO∨c=i1∨c=i2:=by simpa using hc
   rcases hc' with q | q | q | q<;>simp[q])
  exact MO (I.ok.hd hc) D hz hTI hTO h1 h2 (show s.heap.IsTuple a its.toArray from p) p2.isList (by simp;omega) λh' kk=>
   ⟨rfl,I.Lp (t':=s.toks) (ch:=[z,TO,i1,i2]) Ii (λc o hc q=>kk c o (λe=>hc (by simp[e])) (λe=>hc (by simp[e])) (λe=>hc (by simp[e])) (λe=>hc (by simp[e])) q)⟩
 self:=λ_ _ _ _ _ st h=>EY st.1 h
def abo(K:AB)(ta:TA):TI:=λσ H R=>ta σ H λvs H1=>∃a b,vs=[.ref a,.ref b]/\(∃xs,bF K H1 a xs)/\(∃ys,bM K H1 b ys)/\R (RI K a b) H1
theorem VU{X:Cx}{elts:List Expr}{x1}{tpos:Pos}{a b:Expr}{ta:TA}{p pos:Pos}(hg:Gl X "zip")(hm:X.mg "zip"=none)(ha:PA X [a,b] ta)
  (hs:BE [a,b] X.env=[(false,eval a X.env),(false,eval b X.env)]:=by rfl) (hs2:BE [b] X.env=[(false,eval b X.env)]:=by rfl):
  PI X (.Tuple elts x1 tpos) (.Call (.Name "zip" p) [a,b] [] pos) (abo X.K ta):=by
 intro pins s σ H R I h
 refine Call_ (i9 I hg hm boot_zip (BP (aQ (ha pos pins s σ H _ I h) ?_) (by rw[hs,hs2]) (by rw[hs2];rfl)))
 rintro us s1 ⟨vs,H1,I1,r1,q1⟩
 obtain⟨l1,l2,e,⟨xs,hq⟩,⟨ys,hq2⟩,q⟩:=q1
 subst e
 cases r1 with
 | cons r rr=>
  cases rr with
  | cons r' rr=>
   cases rr
   cases r
   cases r'
   obtain⟨its,rv,pl,_⟩:=I1.tuple hq
   obtain⟨its2,rb,Od,_⟩:=I1.list hq2
   have a1:l1<s1.heap.objs.size:=by obtain⟨_,e,_⟩:=(show s1.heap.IsTuple l1 its.toArray from pl);exact AR e
   have a2:l2<s1.heap.objs.size:=by obtain⟨_,e,_⟩:=Od.isList;exact AR e
   refine OJ (show s1.heap.IsTuple l1 its.toArray from pl) Od.isList λh' hz hTI hTO hi1 hi2 kk=>?_
   have I2:Inv X pins σ H1 {s1 with heap:=h'}:=I1.kept (t':=s1.toks) kk
   refine EY hz ?_
   refine⟨s1.heap.objs.size+4,[s1.heap.objs.size+4,s1.heap.objs.size+3,s1.heap.objs.size,s1.heap.objs.size+1,s1.heap.objs.size+2],_,_,H1,rfl,I2,OL l1 l2 _ _ _ _ _ (zipApart_new a1 a2),⟨hz,hTI,⟨_,_,hTO⟩,hi1,hi2⟩,λc hc=>?_,q⟩
   have hle:s1.heap.objs.size<=c:=by
    have hc':c=s1.heap.objs.size+4∨c=s1.heap.objs.size+3∨c=s1.heap.objs.size∨c=s1.heap.objs.size+1∨c=s1.heap.objs.size+2:=by simpa using hc
    rcases hc' with q | q | q | q | q<;>(rw[q];first | exact Ft _ _ | exact AM _)
   exact I1.m7 hle (I1.hok.fresh hle)
theorem OM{K:AB}{a b:Addr}{xs ys:List V}{g:TG}{tt:TT}{te:TE}{D:Addr}{σ:St}{H:Hp}{R:Hp->Prop}(Pv:Nat->St->Hp->Prop)(hlen:xs.length=ys.length)(h0:Pv 0 σ H)(hl:∀i σ H,i<=xs.length->Pv i σ H->bF K H a xs/\bM K H b ys)
  (hs:∀i x y p σ H,xs[i]? =some x->ys[i]? =some y->Pv i σ H->H p=none->g (.ref p) σ (upd H p (.tup [x,y])) λσ2 H2=>tt σ2 H2 λb H3=>if b=true then te σ2 H3 λy H4=>∃ys,H4 D=some (.lst ys)/\ys.length<sizeLine/\Pv (i+1) σ2 (upd H4 D (.lst (ys++[y]))) else Pv (i+1) σ2 H3)
  (hd:∀σ H,Pv xs.length σ H->R H):qo (RI K a b) g tt te D σ H R:=by
 refine⟨λi m σ H=>m=xs.length-i/\i<=xs.length/\Pv i σ H,⟨xs.length,by simp,A6 _,h0⟩,?_⟩
 rintro i m σ H ⟨rfl,hi,p⟩
 obtain⟨q1,q2⟩:=hl i σ H hi p
 by_cases hlt:i<xs.length
 ·refine .inr ⟨⟨xs,ys,xs[i],ys[i]'(by omega),q1,q2,by simp[hlt],by simp[hlen▸hlt]⟩,Pv (i+1),λσ' H' p'=>⟨xs.length-(i+1),by omega,rfl,hlt,p'⟩,λv H' y=>?_⟩
  obtain⟨x,y,p',e1,e2,e3,rfl,rfl⟩:=y
  exact hs i x y p' σ H (e1 xs q1) (e2 ys q2) p e3
 ·have e:i=xs.length:=by omega
  subst e
  exact .inl ⟨⟨xs,ys,q1,q2,AM _⟩,hd σ H p⟩
section
variable{X:Cx}
def X_:V->List V->Hp->VK->Prop:=λx vs H Q=>∃z:Str,x=.str z/\vs=[]/\Ex (G8 z).length=false/\Q (.str (G8 z)) H
theorem RJ:zY X "str.upper" X_:=by
 intro pins s σ H x vs v us Q I rx rv h
 obtain⟨z,rfl,rfl,hz,q⟩:=h
 obtain⟨t,rfl⟩:=rx
 cases rv
 exact call_gives GL (FA _ _ _) PySem.F.entry_str_upper (PySem.F.args_str_upper_1 _) (gives_str_upper z t hz) ⟨fit_le hz,.str _,H,I.tok _,⟨_,rfl⟩,q⟩
end
section
variable{X:Cx}{o:Expr}{to:TE}{name:Str}{apos cpos:Pos}{T id:String}{r:V->List V->Hp->VK->Prop}
theorem VW(K:AB)(pa:PlainAttrs T)(slot:Slot T name id)(hty:typeOf (.builtin id)=pure (.type "method_descriptor"))(hm:W0 X id r)(ho:PE X o to)
  (hbase:Fd o name X.env (eval o X.env)=eval o X.env:=by rfl) (hline:(apos.endLine == cpos.line)=true:=by rfl) (hK:X.K=K:=by rfl):PE X (.Call (.Attribute o name apos) [] [] cpos) (W7 K T r to):=by
 subst hK
 exact zX pa slot hty hm ho hbase hline
end
theorem RK{kvs:List (Key×V)}{k:Key}{v:V}{p:Key×V}(h:p∈putK kvs k v):p=(k,v)∨p∈kvs:=by
 unfold putK at h
 split at h
 ·obtain⟨q,hq,e⟩:=AZ.mp h
  by_cases z:q.1=k
  ·rw[if_pos z] at e;exact .inl (by rw[<-e,z])
  ·rw[if_neg z] at e;exact .inr (e▸hq)
 ·rcases Ac.mp h with z | z
  ·exact .inr z
  ·exact .inl (AW.mp z)
theorem vQ:∀{more kvs:List (Key×V)} {p:Key×V},p∈bL kvs more->p∈kvs∨p∈more
 | [],_,_,h=>.inl h
 | q::r,kvs,p,h=>by
  rcases vQ (more:=r) (kvs:=putK kvs q.1 q.2) h with z | z
  ·rcases RK z with y | y
   ·exact .inr (by rw[y];exact AL)
   ·exact .inl y
  ·exact .inr (AJ _ z)
theorem IA(kvs:List (Key×V))(k:Key)(v:V):0<(putK kvs k v).length/\kvs.length<=(putK kvs k v).length:=by
 unfold putK
 split
 ·rename_i h
  rw[AA]
  exact⟨by cases kvs with | nil=>exact absurd h (by simp) | cons _ _=>exact Nat.succ_pos _,AM _⟩
 ·rw[AK];exact⟨Nat.succ_pos _,Ft _ _⟩
theorem yw:∀(more kvs:List (Key×V)),kvs.length<=(bL kvs more).length
 | [],_=>AM _
 | q::r,kvs=>A5 (IA kvs q.1 q.2).2 (yw r (putK kvs q.1 q.2))
theorem MQ{more:List (Key×V)}(h:0<more.length):0<(bL [] more).length:=by
 match more,h with
 | q::r,_=>exact AX (IA [] q.1 q.2).1 (yw r (putK [] q.1 q.2))
theorem VX{kvs:List (Key×V)}{k:Key}(h:∃q∈kvs,q.1=k):∃q∈kvs,q.1=k/\aZ kvs k=some q.2:=by
 induction kvs with
 | nil=>obtain⟨q,hq,_⟩:=h;cases hq
 | cons p r ih=>
  by_cases e:p.1=k
  ·exact⟨p,AL,e,bY e⟩
  ·obtain⟨q,hq,z⟩:=h
   rcases Ae.mp hq with y | y
   ·exact absurd (y▸z) e
   ·obtain⟨q',h1,h2,h3⟩:=ih ⟨q,y,z⟩
    exact⟨q',AJ _ h1,h2,by rw[bR e];exact h3⟩
theorem IB:∀{kvs:List (Key×V)},(∀q∈kvs,∃x:Str,q.1=Am x)->∃ss:List Str,kvs.map (·.1)=ss.map Am
 | [],_=>⟨[],rfl⟩
 | p::r,h=>by
  obtain⟨x,hx⟩:=h p AL
  obtain⟨ss,e⟩:=IB λq hq=>h q (AJ _ hq)
  exact⟨x::ss,by rw[Aj,Aj,hx,e]⟩
theorem pY:∀c,c<26->Co (97+c)=[65+c]:=by decide+kernel
theorem X0{l:List Nat}(h:∀c∈l,c<26)(h3:l.length<=3):Ex (G8 ⟨(l.map (97+ ·)).toArray⟩).length=false:=by
 have e:(G8 ⟨(l.map (97+ ·)).toArray⟩).length=l.length:=by
  match l,h,h3 with
  | [],_,_=>rfl
  | [a],h,_=>
   show(#[(Co (97+a)).toArray].flatten).size=1
   rw[pY a (h a (by simp))];rfl
  | [a,b],h,_=>
   show(#[(Co (97+a)).toArray,(Co (97+b)).toArray].flatten).size=2
   rw[pY a (h a (by simp)),pY b (h b (by simp))];rfl
  | [a,b,c],h,_=>
   show(#[(Co (97+a)).toArray,(Co (97+b)).toArray,(Co (97+c)).toArray].flatten).size=3
   rw[pY a (h a (by simp)),pY b (h b (by simp)),pY c (h c (by simp))];rfl
  | _::_::_::_::_,_,h3=>simp at h3
 rw[e]
 have hs:sizeLine=16777216:=FV
 unfold Ex
 exact decide_eq_false (by omega)
section
variable{X:Cx}
def abp(K:AB):R2:=λx y H Q=>∃(a b:Addr) (xs ys:List V),x=.ref a/\y=.ref b/\H a=some (.tup xs)/\H b=some (.tup ys)/\xs.length+ys.length<=sizeLine/\∀u H',Same H H'->H' u=some (.tup (xs++ys))->Q (.ref u) H'
theorem Lx(K:AB)(hK:X.K=K:=by rfl):dY X (CM .Add) (abp K):=by
 subst hK
 intro pins s σ H x y v u Q I rx ry h
 obtain⟨a,b,xs,ys,rfl,rfl,ha,hb,hz,q⟩:=h
 by_cases hx:xs=[]
 ·subst hx
  exact Lj pins s σ H _ _ v u Q I rx ry ⟨a,b,ys,rfl,rfl,.of ha,.of hb,q b H (.refl _) hb⟩
 ·exact Lf pins s σ H _ _ v u Q I rx ry ⟨a,b,xs,ys,rfl,rfl,.of ha,.of hb,hx,hz,λz=>q a H (.refl _) (by rw[z,A8];exact ha),λ_ p hp=>q p _ (Same.new hp) af⟩
end
theorem OO{K:AB}{H:Hp}{p:Addr}{xs:List V}{Q:VK}(k:Nat)(e:H p=some (.tup xs))(h:∀q H',Same H H'->H' q=some (.tup (xs.take k))->Q (.ref q) H'):MI K (.ref p) none (some (k:Int)) H Q:=by
 have e1:HT.bx xs.length xs.length (some (k:Int))=min k xs.length:=HT.wN _ _ k
 refine⟨p,_,rfl,.of e,λc=>?_,λc q hq=>?_⟩
 ·have c2:=c.2
  rw[e1] at c2
  exact h p H (.refl _) (by rw[Bg (by omega)];exact e)
 ·refine h q _ (Same.new hq) ?_
  rw[af]
  unfold lM
  rw[HT.zU,e1,FJ,Hl,<-List.take_eq_take_min]
theorem IC{K:AB}{H:Hp}{p:Addr}{xs:List V}{Q:VK}(k:Nat)(e:H p=some (.tup xs))(h:∀q H',Same H H'->H' q=some (.tup (xs.drop k))->Q (.ref q) H'):MI K (.ref p) (some (k:Int)) none H Q:=by
 have e1:HT.bx xs.length 0 (some (k:Int))=min k xs.length:=HT.wN _ _ k
 have e2:HT.bx xs.length xs.length none=xs.length:=HT.zU _ _
 refine⟨p,_,rfl,.of e,λc=>?_,λc q hq=>?_⟩
 ·have c1:=c.1
  rw[e1] at c1
  refine h p H (.refl _) ?_
  by_cases hx:k=0
  ·rw[hx,FJ];exact e
  ·have:xs=[]:=Eg (by omega)
   rw[this,List.drop_nil];rw[this] at e;exact e
 ·refine h q _ (Same.new hq) ?_
  rw[af]
  unfold lM
  rw[e2,e1]
  congr 2
  by_cases hk:k<=xs.length
  ·rw[Nat.min_eq_left hk,Bg (by rw[EW];omega)]
  ·rw[Nat.min_eq_right (by omega),GN (AM _),List.take_nil,GN (by omega)]
end L2
namespace My
open PySem L2
def top(i:Nat):Stmt:=PySem.Challenge.pw_figurejudge_k37_whole_atoms_at_great_num.main.body.getD i (.Pass ⟨0,0,0,0⟩)
abbrev f_:Stmt:=top 1
abbrev d4:Stmt:=top 2
abbrev f':Stmt:=top 4
abbrev bZ:Stmt:=top 6
abbrev gb:Stmt:=top 7
abbrev d6:Stmt:=top 11
abbrev fg:Stmt:=top 12
abbrev dN:Stmt:=top 13
abbrev dg:Stmt:=top 14
abbrev fh:Stmt:=top 15
abbrev dP:Stmt:=top 16
abbrev gc:Stmt:=top 17
abbrev gP:Stmt:=top 19
abbrev jy:Stmt:=top 20
abbrev d8:Stmt:=top 21
abbrev d9:Stmt:=top 22
abbrev fz:Stmt:=top 23
abbrev bV:Stmt:=top 24
abbrev bW:Stmt:=top 25
abbrev gf:Stmt:=top 26
abbrev ig:Stmt:=top 27
abbrev bP:Stmt:=top 28
abbrev bt:Stmt:=top 29
abbrev fA:Stmt:=top 30
abbrev dr:Stmt:=top 31
abbrev jz:Stmt:=top 33
abbrev kz:Stmt:=top 34
abbrev jG:Stmt:=top 35
abbrev gB:Stmt:=top 36
abbrev jH:Stmt:=top 37
abbrev jI:Stmt:=top 38
abbrev iT:Stmt:=top 39
abbrev gC:Stmt:=top 40
abbrev jA:Stmt:=top 41
abbrev iB:Stmt:=top 42
abbrev jB:Stmt:=top 43
abbrev kB:Stmt:=top 44
abbrev pZ:Stmt:=top 45
abbrev fH:Stmt:=top 46
abbrev kD:Stmt:=top 47
abbrev fR:Stmt:=top 48
abbrev dU:Stmt:=top 49
abbrev ji:Stmt:=top 50
set_option genInjectivity false in
set_option genSizeOf false in
structure bh where
 jZ:Addr
 lP:Av
 jj:Addr
 kE:Av
 j_:Addr
 lQ:Av
 j0:Addr
 jk:Av
 IE:Addr
 j3:Addr
 lR:Av
 fB:Addr
 gg:Av
 iC:Addr
 jm:Av
 fi:Addr
 fW:Av
 fI:Addr
 gQ:Av
 iD:Addr
 jn:Av
 fj:Addr
 fX:Av
 fk:Addr
 fC:Av
 mS:Addr
 o9:Av
 qz:Addr
 r9:Av
 jo:Addr
 kG:Av
 jq:Addr
 kH:Av
 gZ:Addr
 iU:Av
 cM:Addr
 gi:Av
 g_:Addr
 cA:Addr
 cN:Addr
 gj:Av
 g0:Addr
 cB:Addr
 gk:Addr
 g6:Av
 ij:Addr
 iE:Av
 ck:Addr
 gm:Av
 eB:Addr
 cC:Addr
 bT:Addr
 fK:Av
 cV:Addr
 cn:Addr
 fD:Addr
 gn:Av
 iF:Addr
 gR:Av
 OP:Addr
 qA:Addr
 sf:Av
 qB:Addr
 sj:Av
 oQ:Addr
 qC:Av
 oR:Addr
 qD:Av
 oS:Addr
 qE:Av
 oT:Addr
 qF:Av
 tT:Addr
 uM:Av
 oU:Addr
 qG:Av
 qH:Addr
 sk:Av
 oW:Addr
 qI:Av
 qJ:Addr
 sr:Av
 qK:Addr
 sx:Av
 vR:Addr
 xj:Av
 mT:Addr
 ph:Av
 qL:Addr
 sG:Av
 k_:Addr
 nE:Av
 j4:Addr
 lT:Av
 MS:Addr
 OQ:Av
structure Txt (K:AB)(mg:Str->Option Value)(a:bh):Prop where
 IG:cP K "figures_of" "figures_of" f_ a.jZ a.lP
 IH:mg "figures_of"=some (.ref a.jZ)
 II:AH K (.ref a.jZ)=true
 IJ:Binds K a.lP ["base","number"] []
 y6:cP K "all_letters" "all_letters" d4 a.jj a.kE
 rf:mg "all_letters"=some (.ref a.jj)
 rg:AH K (.ref a.jj)=true
 rh:Binds K a.kE ["base","many"] []
 IK:cP K "room_after" "room_after" f' a.j_ a.lQ
 IL:mg "room_after"=some (.ref a.j_)
 IM:AH K (.ref a.j_)=true
 IP:Binds K a.lQ ["moves","room","figures"] []
 IQ:nA K "grown_from" "grown_from" bZ a.j0 a.jk (.ref a.IE)
 IT:mg "grown_from"=some (.ref a.j0)
 IU:AH K (.ref a.j0)=true
 IV:Binds K a.jk ["first","many","onward","is_yes","most"] []
 X1:∃t,Binds K a.jk ["first","many","onward","is_yes","most"] [.int 2000 t]
 IW:cP K "machine_of" "machine_of" gb a.j3 a.lR
 nF:mg "machine_of"=some (.ref a.j3)
 nG:AH K (.ref a.j3)=true
 nH:Binds K a.lR ["base","names","growth","most"] []
 y8:cP K "inner_parts" "inner_parts" d6 a.fB a.gg
 ri:mg "inner_parts"=some (.ref a.fB)
 rj:AH K (.ref a.fB)=true
 rl:Binds K a.gg ["saying"] []
 IX:cP K "term_names" "term_names" fg a.iC a.jm
 IY:mg "term_names"=some (.ref a.iC)
 IZ:AH K (.ref a.iC)=true
 I_:Binds K a.jm ["saying"] []
 uN:cP K "parts_in_order" "parts_in_order" dN a.fi a.fW
 uO:mg "parts_in_order"=some (.ref a.fi)
 uP:AH K (.ref a.fi)=true
 uQ:Binds K a.fW ["saying"] []
 vS:cP K "told_of_parts" "told_of_parts" dg a.fI a.gQ
 vT:mg "told_of_parts"=some (.ref a.fI)
 vU:AH K (.ref a.fI)=true
 vV:Binds K a.gQ ["told","place","saying"] []
 Ja:cP K "names_over" "names_over" fh a.iD a.jn
 Jb:mg "names_over"=some (.ref a.iD)
 Jc:AH K (.ref a.iD)=true
 Jd:Binds K a.jn ["saying","inner"] []
 uR:cP K "names_by_place" "names_by_place" dP a.fj a.fX
 uS:mg "names_by_place"=some (.ref a.fj)
 uT:AH K (.ref a.fj)=true
 uV:Binds K a.fX ["saying"] []
 Je:cP K "free_names" "free_names" gc a.fk a.fC
 nI:mg "free_names"=some (.ref a.fk)
 nJ:AH K (.ref a.fk)=true
 nK:Binds K a.fC ["saying"] []
 MT:cP K "times_of" "times_of" gP a.mS a.o9
 j5:mg "times_of"=some (.ref a.mS)
 j6:AH K (.ref a.mS)=true
 j7:Binds K a.o9 ["term","names"] []
 RL:cP K "sum_of" "sum_of" jy a.qz a.r9
 RM:mg "sum_of"=some (.ref a.qz)
 RN:AH K (.ref a.qz)=true
 RO:Binds K a.r9 ["letter","times"] []
 y9:cP K "letter_sums" "letter_sums" d8 a.jo a.kG
 g7:mg "letter_sums"=some (.ref a.jo)
 g8:AH K (.ref a.jo)=true
 g9:Binds K a.kG ["base","times"] []
 za:cP K "differences" "differences" d9 a.jq a.kH
 rn:mg "differences"=some (.ref a.jq)
 rA:AH K (.ref a.jq)=true
 rB:Binds K a.kH ["saying","names"] []
 zb:cP K "same_onward" "same_onward" fz a.gZ a.iU
 zc:mg "same_onward"=some (.ref a.gZ)
 zf:AH K (.ref a.gZ)=true
 zg:Binds K a.iU ["base","room","total"] []
 lU:nA K "same_growth" "same_growth" bV a.cM a.gi (.ref a.g_)
 rC:Ca K a.g_ a.cA=true
 lV:mg "same_growth"=some (.ref a.cM)
 lW:AH K (.ref a.cM)=true
 lX:Binds K a.gi ["base","names","saying"] []
 lY:nA K "less_growth" "less_growth" bW a.cN a.gj (.ref a.g0)
 rD:Ca K a.g0 a.cB=true
 lZ:mg "less_growth"=some (.ref a.cN)
 md:AH K (.ref a.cN)=true
 me:Binds K a.gj ["base","names","saying"] []
 Jf:cP K "row_onward" "row_onward" gf a.gk a.g6
 nL:mg "row_onward"=some (.ref a.gk)
 nO:AH K (.ref a.gk)=true
 nP:Binds K a.g6 ["base","row","pair","total"] []
 KP:cP K "sign_from" "sign_from" ig a.ij a.iE
 pj:mg "sign_from"=some (.ref a.ij)
 px:AH K (.ref a.ij)=true
 pz:Binds K a.iE ["base","row","pair"] []
 mf:nA K "sign_growth" "sign_growth" bP a.ck a.gm (.ref a.eB)
 rE:Ca K a.eB a.cC=true
 mh:mg "sign_growth"=some (.ref a.ck)
 mj:AH K (.ref a.ck)=true
 ml:Binds K a.gm ["world","names","saying"] []
 kI:nA K "alike_growth" "alike_growth" bt a.bT a.fK (.ref a.cV)
 p_:Ca K a.cV a.cn=true
 kK:mg "alike_growth"=some (.ref a.bT)
 kN:AH K (.ref a.bT)=true
 kO:Binds K a.fK ["world","names","saying"] []
 mn:cP K "atom_growth" "atom_growth" fA a.fD a.gn
 mq:mg "atom_growth"=some (.ref a.fD)
 mr:AH K (.ref a.fD)=true
 mx:Binds K a.gn ["world","names","saying"] []
 sH:nA K "atom_of" "atom_of" dr a.iF a.gR (.ref a.OP)
 OS:mg "atom_of"=some (.ref a.iF)
 OT:AH K (.ref a.iF)=true
 OU:Binds K a.gR ["world","saying","most"] []
 acr:∃t,Binds K a.gR ["world","saying","most"] [.int 2000 t]
 RP:cP K "_law_feed" "_law_feed" jz a.qA a.sf
 RQ:mg "_law_feed"=some (.ref a.qA)
 RS:AH K (.ref a.qA)=true
 RT:Binds K a.sf ["_law_script"] []
 RU:cP K "_law_draw" "_law_draw" kz a.qB a.sj
 bB:mg "_law_draw"=some (.ref a.qB)
 bC:AH K (.ref a.qB)=true
 bD:Binds K a.sj ["_law_feed_here","_law_many"] []
 OV:cP K "_law_after" "_law_after" jG a.oQ a.qC
 OW:mg "_law_after"=some (.ref a.oQ)
 OX:AH K (.ref a.oQ)=true
 OY:Binds K a.qC ["_law_word"] []
 OZ:cP K "_law_names" "_law_names" gB a.oR a.qD
 yx:mg "_law_names"=some (.ref a.oR)
 yy:AH K (.ref a.oR)=true
 yz:Binds K a.qD ["_law_feed_here","_law_many"] []
 O_:cP K "_law_great" "_law_great" jH a.oS a.qE
 O0:mg "_law_great"=some (.ref a.oS)
 O1:AH K (.ref a.oS)=true
 O6:Binds K a.qE ["_law_feed_here"] []
 O7:cP K "_law_rings" "_law_rings" jI a.oT a.qF
 O8:mg "_law_rings"=some (.ref a.oT)
 O9:AH K (.ref a.oT)=true
 O':Binds K a.qF ["_law_moves"] []
 VY:cP K "_law_row" "_law_row" iT a.tT a.uM
 VZ:mg "_law_row"=some (.ref a.tT)
 V_:AH K (.ref a.tT)=true
 V0:Binds K a.uM ["_law_feed_here","_law_base"] []
 Pa:cP K "_law_world" "_law_world" gC a.oU a.qG
 Pb:mg "_law_world"=some (.ref a.oU)
 Pc:AH K (.ref a.oU)=true
 Pd:Binds K a.qG ["_law_feed_here"] []
 RV:cP K "_law_term" "_law_term" jA a.qH a.sk
 Jg:mg "_law_term"=some (.ref a.qH)
 Jh:AH K (.ref a.qH)=true
 Ji:Binds K a.sk ["_law_feed_here","_law_names_here"] []
 Pe:cP K "_law_worth" "_law_worth" iB a.oW a.qI
 gD:mg "_law_worth"=some (.ref a.oW)
 gE:AH K (.ref a.oW)=true
 gF:Binds K a.qI ["_law_term_here","_law_values"] []
 RW:cP K "_law_says" "_law_says" jB a.qJ a.sr
 RX:mg "_law_says"=some (.ref a.qJ)
 RY:AH K (.ref a.qJ)=true
 RZ:Binds K a.sr ["_law_base","_law_machine","_law_numbers"] []
 R_:cP K "_law_sign" "_law_sign" kB a.qK a.sx
 Jj:mg "_law_sign"=some (.ref a.qK)
 Jk:AH K (.ref a.qK)=true
 Jl:Binds K a.sx ["_law_world_here","_law_name","_law_number"] []
 X2:cP K "_law_so" "_law_so" pZ a.vR a.xj
 X3:mg "_law_so"=some (.ref a.vR)
 X4:AH K (.ref a.vR)=true
 X5:Binds K a.xj ["_law_world_here","_law_saying_here","_law_values"] []
 MU:cP K "_law_saying" "_law_saying" fH a.mT a.ph
 MV:mg "_law_saying"=some (.ref a.mT)
 MW:AH K (.ref a.mT)=true
 MX:Binds K a.ph ["_law_feed_here","_law_world_here","_law_pool"] []
 R0:cP K "_law_near" "_law_near" kD a.qL a.sG
 R1:mg "_law_near"=some (.ref a.qL)
 R3:AH K (.ref a.qL)=true
 R4:Binds K a.sG ["_law_feed_here","_law_one","_law_other","_law_values"] []
 KQ:cP K "_law_at_most" "_law_at_most" fR a.k_ a.nE
 KR:mg "_law_at_most"=some (.ref a.k_)
 KS:AH K (.ref a.k_)=true
 KU:Binds K a.nE ["_law_world_here","_law_saying_here"] []
 Jm:cP K "_law_names_in" "_law_names_in" dU a.j4 a.lT
 Jn:mg "_law_names_in"=some (.ref a.j4)
 Jo:AH K (.ref a.j4)=true
 Jp:Binds K a.lT ["_law_saying_here","_law_pool"] []
 abq:cP K "law" "law" ji a.MS a.OQ
 amB:mg "law"=some (.ref a.MS)
 eP:mg "range"=none
 eQ:mg "tuple"=none
 gT:mg "len"=none
 Pf:mg "list"=none
 nQ:mg "dict"=none
 zD:mg "sum"=none
 uW:mg "sorted"=none
 KW:mg "enumerate"=none
 MY:mg "reversed"=none
 T2:mg "abs"=none
 nR:mg "isinstance"=none
 abr:mg "str"=none
 abt:mg "int"=none
 Pg:mg "bool"=none
 abu:mg "set"=none
 T3:mg "zip"=none
 abv:mg "min"=none
 T4:mg "max"=none
 tne01:a.cA≠a.cB
 tne02:a.cA≠a.cC
 tne03:a.cA≠a.cn
 tne12:a.cB≠a.cC
 tne13:a.cB≠a.cn
 tne23:a.cC≠a.cn
theorem xk{c:TT}{tb:TS}{D:Ends}{σ:St}{H:Hp}(W:Nat->St->Hp->Prop)(h0:∃m,W m σ H)
  (hs:∀m σ H,W m σ H->c σ H λb H1=>if b=true then tb {D with nx:=λσ' H'=>∃m',m'<m/\W m' σ' H',ct:=λσ' H'=>∃m',m'<m/\W m' σ' H',bk:=D.nx} σ H1 else D.nx σ H1)
  (mono:∀σ H Q Q',(∀b H1,Q b H1->Q' b H1)->c σ H Q->c σ H Q'):pL c tb D σ H:=by
 refine⟨W,h0,λm σ H w=>mono σ H _ _ (λb H1 q=>?_) (hs m σ H w)⟩
 cases b with
 | true=>exact⟨_,λσ' H' p=>p,q⟩
 | false=>exact q
theorem iV{H:Hp}{D:Addr}{kvs:List (Key×V)}{x:Str}{v:V}(h:Rd H D (.dK kvs))(e:aZ kvs (Am x)=some v):km H D (.str x) (some v):=.inl ⟨kvs,Am x,h,rfl,e.symm⟩
def fd(L:Addr)(n sd:Int):List (Key×V):=[(Am ("left":Str),.ref L),(Am ("number":Str),.int n),(Am ("seed":Str),.int sd)]
theorem Ly(L:Addr)(n sd:Int):aZ (fd L n sd) (Am ("left":Str))=some (.ref L):=bY rfl
theorem lD(L:Addr)(n sd:Int):aZ (fd L n sd) (Am ("number":Str))=some (.int n):=by
 unfold fd
 rw[bR (show ¬((Am ("left":Str):Key)=Am ("number":Str)) by decide+kernel),bY rfl]
theorem xl(L:Addr)(n sd:Int):aZ (fd L n sd) (Am ("seed":Str))=some (.int sd):=by
 unfold fd
 rw[bR (show ¬((Am ("left":Str):Key)=Am ("seed":Str)) by decide+kernel),bR (show ¬((Am ("number":Str):Key)=Am ("seed":Str)) by decide+kernel),bY rfl]
theorem Lz(L:Addr)(n sd v:Int):putK (fd L n sd) (Am ("number":Str)) (.int v)=fd L v sd:=by
 unfold putK fd
 have a1:¬((Am ("left":Str):Key)=Am ("number":Str)):=by decide+kernel
 have a2:¬((Am ("seed":Str):Key)=Am ("number":Str)):=by decide+kernel
 simp only[Cz,List.any_nil,Aj,CW,a1,a2,if_false,if_true,decide_true,decide_false,Hc,Bool.or_true]
theorem V1(L:Addr)(n sd v:Int):putK (fd L n sd) (Am ("seed":Str)) (.int v)=fd L n v:=by
 unfold putK fd
 have a1:¬((Am ("left":Str):Key)=Am ("seed":Str)):=by decide+kernel
 have a2:¬((Am ("number":Str):Key)=Am ("seed":Str)):=by decide+kernel
 simp only[Cz,List.any_nil,Aj,CW,a1,a2,if_false,if_true,decide_true,decide_false,Hc,Bool.or_true]
structure bK (H:Hp)(F L:Addr):Prop where
 ex:∃(ms:List Int) (n sd:Int),H F=some (.dK (fd L n sd))/\H L=some (.lst (ms.map V.int))/\0<=n/\(∀m∈ms,0<=m)/\0<=sd/\sd<2147483648
theorem bK.same{H H':Hp}{F L:Addr}(h:bK H F L)(s:Same H H'):bK H' F L:=by
 obtain⟨ms,n,sd,a,b,c⟩:=h.ex
 exact⟨ms,n,sd,s _ _ a,s _ _ b,c⟩
inductive V2 (vs:List V)(H:Hp)(Q:VK)(aJ:XK):Prop where
 | mk (F L:Addr) (m:Nat) (cG:vs=[.ref F,.int m]) (cD:bK H F L) (cE:0<m) (dc:m<2 ^ 1000) (dZ:∀(r:Nat) (H':Hp),r<m->cy F L H H'->bK H' F L->Q (.int (r:Nat)) H')
def X6:Sp:=λvs H Q aJ=>V2 vs H Q aJ
section
variable{P:Ah}{w:World}{K:AB}{mg:Str->Option Value}{base:Heap}
theorem oX:aP ["_law_feed_here","_law_many","_law_found","_law_one","_law_two"] ["_law_feed_here","_law_many"] (ah kz):=⟨rfl,rfl,rfl,by decide+kernel,rfl,by decide+kernel,by decide+kernel⟩
theorem iG{a:bh}(T:Txt K mg a):aO P w K mg base aW 1 a.qB a.sj ["_law_feed_here","_law_many"] X6:=by
 refine T.RU.ok oX (λvs H Q E h=>?_) (λcdv A outer s H vs Q E hr h=>?_)
 ·obtain⟨F,L,m,rfl,_⟩:=h
  rfl
 ·obtain⟨F,L,many,rfl,hf,hm0,hm1,k⟩:=h
  refine⟨_,(aj (iw Aw (PW.pt (WJ (aV dQ (cv (cf hr) (pv 0) aX (λ_ _=>rfl)) ai (a_ _)) (Vp (aV (Oa K hr.units) (cv (cf hr) (pv 0) aX (λ_ _=>rfl)) (df ag) (a_ _)))))
   (av (pN (cf hr) (pv 0) aX (zX Az Gf Gg N_ (cv (cf hr) (pv 0) aX (λ_ _=>rfl))) rfl)))
  (aj (cq (aV oC (cv (cf hr) (pv 0) aX (λ_ _=>rfl)) ai (a_ _))
   (aj (aw (i:=2) oX.nd rfl (Ab rfl) (aI cU (cv (cf hr) (pv 0) aX (λ_ _=>rfl)) (pv 1)))
   (aj (pN (cf hr) (pv 0) aX (aI gK (cv (cf hr) (pv 0) aX (λ_ _=>rfl)) (pv 1)) rfl)
   (av (aL (pv 2)))))
   bG)
  (aj (aw (i:=3) oX.nd rfl (Ab rfl) (aI cU (aI de (aI fZ (cv (cf hr) (pv 0) aX (λ_ _=>rfl)) ai) ai) ai))
  (aj (pN (cf hr) (pv 0) aX (aI cU (aI de (aI fZ (pv 3) ai) ai) ai) rfl)
  (aj (aw (i:=4) oX.nd rfl (Ab rfl) (aI cU (aI fZ (cv (cf hr) (pv 0) aX (λ_ _=>rfl)) (cv (cf hr) (pv 0) aX (λ_ _=>rfl))) ai))
  (av (aL (aI cU (aI de (aI fZ (aI cU (aI fZ (pv 3) (pv 3)) ai) ai) (pv 4)) (pv 1))))))))),?_⟩
  obtain⟨ms0,n0,sd0,e0,l0,hn0,aey,hs0,hs1⟩:=hf.ex
  have LA:F≠L:=fE e0 l0 (λz=>nomatch z)
  have put:∀{H':Hp} {kv:List (Key×V)},H' F=some (.dK kv)->kv.length=3->kv.length<sizeLine:=λ_ z=>by rw[z];decide
  refine xk (λm σ H'=>∃(ms:List Int) (n sd:Int),m=ms.length/\σ=[some (.ref F),some (.int (many:Nat)),none,none,none]/\cy F L H H'/\H' F=some (.dK (fd L n sd))/\H' L=some (.lst (ms.map V.int))/\0<=n/\(∀m∈ms,0<=m)/\0<=sd/\sd<2147483648)
   ⟨_,ms0,n0,sd0,rfl,rfl,λb o e _ _=>e,e0,l0,hn0,aey,hs0,hs1⟩ ?_ ?_
  ·rintro m σ H1 ⟨ms,n,sd,rfl,rfl,k1,e1,l1,hn,hms,hs,hs'⟩
   have R5:∀kv:List (Key×V),kv.length=3->kv.length<sizeLine:=λkv z=>by rw[z];decide
   refine⟨_,rfl,F,.int n,rfl,iV (.inl e1) (lD ..),rfl,_,rfl,?_⟩
   refine bJ (λhz=>?_) (λhz=>?_)
   ·have hz':n=0:=V.int.inj (of_decide_eq_true hz)
    subst hz'
    refine⟨_,rfl,F,.ref L,rfl,iV (.inl e1) (Ly ..),by decide,λE hE=>?_⟩
    have sE:=Same.new (o:=.lst []) hE
    have e2:=sE _ _ e1
    have l2:=sE _ _ l1
    have k2:cy F L H (upd H1 E (.lst [])):=k1.trans sE.kb2
    refine⟨⟨.lst (ms.map .int),.lst [],tO (.of l2) (rY ms),tO (.of af) d_,rfl,rfl,?dep,_,rfl,?_⟩,.lst (ms.map .int),.lst [],tO (.of l2) (rY ms),tO (.of af) d_,.inr ⟨_,_,rfl,rfl⟩⟩
    case dep=>rw[Dt.dep,yf];decide
    have eb:(if true=true then !(Dt.lst (ms.map .int)).beq (.lst []) else(Dt.lst (ms.map .int)).beq (.lst []))=decide (ms≠[]):=by
     rw[if_pos rfl,Dt.beq]
     cases ms with
     | nil=>simp[Dt.gL]
     | cons y ys=>simp[Dt.gL]
    rw[eb]
    generalize upd H1 E (.lst [])=H2 at e2 l2 k2 ⊢
    refine bJ (λhne=>?_) (λhem=>?_)
    ·have hne':ms≠[]:=of_decide_eq_true hne
     have hl:0<ms.length:=List.length_pos_iff.mpr hne'
     obtain⟨x,hx⟩:∃x,ms[ms.length-1]? =some x:=⟨_,As (by omega)⟩
     have hx0:=hms x (AG hx)
     refine⟨_,rfl,F,.ref L,rfl,iV (.inl e2) (Ly ..),.inl ⟨rfl,_,.of l2⟩,L,_,.int x,rfl,rfl,l2,by rw[AA,AU,hx];rfl,?_⟩
     have e3:(upd H2 L (.lst (ms.map V.int).dropLast)) F=some (.dK (fd L 0 sd)):=by rw[aB LA];exact e2
     refine⟨_,rfl,F,_,rfl,jU.k (k:=Am ("number":Str)) e3 (R5 _ rfl),?_⟩
     refine⟨ms.dropLast.length,by rw[Gv];omega,ms.dropLast,x,sd,rfl,rfl,?_,?_,?_,hx0,λm hm=>hms m (List.dropLast_subset _ hm),hs,hs'⟩
     ·exact k2.trans ((KB.r KB.write).trans (KB.l KB.write))
     ·rw[af,Lz]
     ·rw[aB LA.symm,af,List.map_dropLast]
    ·
     refine⟨_,rfl,F,.int 0,rfl,iV (.inl e2) (lD ..),_,_,rfl,rfl,_,rfl,?_⟩
     refine bJ (λz=>absurd (of_decide_eq_true z) (by decide)) (λ_=>?_)
     refine⟨_,rfl,F,.int sd,rfl,iV (.inl e2) (xl ..),_,_,rfl,rfl,.inr (by constructor<;>decide),_,_,rfl,rfl,_,_,rfl,rfl,cpos (by decide),?_⟩
     have o0:0<=(sd*48271+7919) % 2147483647:=Cp _ (by decide)
     have o1:(sd*48271+7919) % 2147483647<2147483647:=CF _ (by decide)
     dsimp only[aD]
     generalize (sd*48271+7919) % 2147483647=one at o0 o1 ⊢
     refine⟨_,rfl,_,_,rfl,rfl,.inr (by constructor<;>decide),_,_,rfl,rfl,_,_,rfl,rfl,cpos (by decide),_,rfl,F,_,rfl,jU.k (k:=Am ("seed":Str)) e2 (R5 _ rfl),?_⟩
     have t0:0<=(one*40692+104729) % 2147483399:=Cp _ (by decide)
     have t1:(one*40692+104729) % 2147483399<2147483399:=CF _ (by decide)
     rw[V1]
     generalize (one*40692+104729) % 2147483399=s2 at t0 t1 ⊢
     have e3:(upd H2 F (.dK (fd L 0 s2))) F=some (.dK (fd L 0 s2)):=af
     have l3:(upd H2 F (.dK (fd L 0 s2))) L=some (.lst (ms.map V.int)):=by rw[aB LA.symm];exact l2
     have k3:cy F L H (upd H2 F (.dK (fd L 0 s2))):=k2.trans (KB.l KB.write)
     generalize upd H2 F (.dK (fd L 0 s2))=H3 at e3 l3 k3 ⊢
     refine⟨_,rfl,F,.int s2,rfl,iV (.inl e3) (xl ..),_,rfl,F,.int s2,rfl,iV (.inl e3) (xl ..),_,_,rfl,rfl,.inl (by constructor<;>omega),_,_,rfl,rfl,cpos (by decide),?_⟩
     refine⟨_,rfl,_,rfl,_,_,rfl,rfl,.inl (by constructor<;>omega),_,_,rfl,rfl,cpos (by decide),_,_,rfl,rfl,.inr (by constructor<;>decide),_,rfl,_,_,rfl,rfl,_,rfl,_,_,rfl,rfl,cpos (by omega),?_⟩
     have f0:0<=(one*one % 2147483629*2147483563+s2*s2 % 2147483563) % (many:Int):=Cp _ (by omega)
     have f1:(one*one % 2147483629*2147483563+s2*s2 % 2147483563) % (many:Int)<(many:Int):=CF _ (by omega)
     obtain⟨r,hr'⟩:∃r:Nat,(one*one % 2147483629*2147483563+s2*s2 % 2147483563) % (many:Int)=(r:Int):=⟨_,(BH f0).symm⟩
     have:=k r H3 (by omega) k3 ⟨ms,0,s2,e3,l3,B7 _,hms,t0,by omega⟩
     rw[<-hr'] at this
     exact this
   ·
    have hn0':0<n:=by
     have:n≠0:=λz=>hz (by rw[z];simp)
     omega
    refine lN ⟨_,rfl,F,.int n,rfl,iV (.inl e1) (lD ..),_,_,rfl,rfl,_,rfl,?_⟩
    refine bJ (λ_=>?_) (λz=>absurd (decide_eq_true hn0') z)
    refine⟨_,rfl,F,.int n,rfl,iV (.inl e1) (lD ..),_,rfl,_,_,rfl,rfl,cpos (by omega),?_⟩
    refine⟨_,rfl,F,.int n,rfl,iV (.inl e1) (lD ..),_,rfl,_,_,rfl,rfl,⟨by omega,?log⟩,_,rfl,F,_,rfl,jU.k (k:=Am ("number":Str)) e1 (R5 _ rfl),?_⟩
    case log=>
     rw[Cf,Nat.log2_lt (by omega)]
     exact AX hm1 (A0 (by decide) (by decide))
    refine⟨_,rfl,?_⟩
    have f0:0<=n % (many:Int):=Cp _ (by omega)
    have f1:n % (many:Int)<(many:Int):=CF _ (by omega)
    obtain⟨r,hr'⟩:∃r:Nat,n % (many:Int)=(r:Int):=⟨_,(BH f0).symm⟩
    rw[Lz]
    have:=k r (upd H1 F (.dK (fd L (n / (many:Int)) sd))) (by omega) (k1.trans (KB.l KB.write)) ⟨ms,n / (many:Int),sd,af,by rw[aB LA.symm];exact l1,Int.ediv_nonneg hn (by omega),hms,hs,hs'⟩
    rw[<-hr'] at this
    exact this
  ·rintro σ H Q Q' hQ ⟨v,e1,a,y,e2,e3,e4,b,e5,q⟩
   refine⟨v,e1,a,y,e2,e3,e4,b,e5,?_⟩
   revert q
   cases b with
   | false=>exact λq=>hQ _ _ q
   | true=>
    rintro⟨v,e1,a,y,e2,e3,z,q⟩
    refine⟨v,e1,a,y,e2,e3,z,λp hp=>?_⟩
    obtain⟨⟨d,d',a1,a2,a3,a4,a5,b,a6,q⟩,z2⟩:=q p hp
    exact⟨⟨d,d',a1,a2,a3,a4,a5,b,a6,hQ _ _ q⟩,z2⟩
inductive V3 (K:AB)(vs:List V)(H:Hp)(Q:VK)(aJ:XK):Prop where
 | mk (a:Addr) (ns:List Int) (cG:vs=[.ref a]) (cD:bM K H a (ns.map V.int)) (cE:ns.length<=63) (dc:∀(F L:Addr) (H':Hp),H F=none->H L=none->Same H H'->bK H' F L->Q (.ref F) H')
def X7(K:AB):Sp:=λvs H Q aJ=>V3 K vs H Q aJ
inductive R6 (vs:List V)(H:Hp)(Q:VK)(aJ:XK):Prop where
 | mk (F L:Addr) (cG:vs=[.ref F]) (cD:bK H F L) (cE:∀(r:Nat) (H':Hp),r<10 ^ 60->cy F L H H'->bK H' F L->Q (.int (r:Nat)) H')
def V4:Sp:=λvs H Q aJ=>R6 vs H Q aJ
theorem iW:aP ["_law_feed_here","_law_found","_law_k","_law_turn"] ["_law_feed_here"] (ah jH):=⟨rfl,rfl,rfl,by decide+kernel,rfl,by decide+kernel,by decide+kernel⟩
theorem MZ{a:bh}(T:Txt K mg a):aO P w K mg base aW 2 a.oS a.qE ["_law_feed_here"] V4:=by
 have bb:=iG (P:=P) (w:=w) (base:=base) T
 refine T.O_.ok iW (λvs H Q E h=>?_) (λcdv A outer s H vs Q E hr h=>?_)
 ·obtain⟨F,L,rfl,_⟩:=h
  rfl
 ·obtain⟨F,L,rfl,hf,k⟩:=h
  have aS:aK 1 _:=hr
  refine⟨_,(aj (cq (aV dQ (aq bb aS rfl T.bB T.bC T.bD .nil az (ae (pv 0) (ae ai ag))) ai (a_ _))
   (av (aL (aq bb aS rfl T.bB T.bC T.bD .nil az (ae (pv 0) (ae ai ag)))))
   bG)
  (aj (aw (i:=1) iW.nd rfl (Ab rfl) ai)
  (aj (cK Aw rfl (dm rfl T.eP (ae (aI de ai (aq bb aS rfl T.bB T.bC T.bD .nil az (ae (pv 0) (ae ai ag)))) ag)) (aF (i:=2) iW.nd rfl (Ab rfl))
   (av (aw (i:=1) iW.nd rfl (Ab rfl) (aI de (aI fZ (pv 1) (aI zR ai ai)) (aq bb aS rfl T.bB T.bC T.bD .nil az (ae (pv 0) (ae (aI zR ai ai) ag)))))))
  (aj (cK Aw rfl (dm rfl T.eP (ae (aq bb aS rfl T.bB T.bC T.bD .nil az (ae (pv 0) (ae ai ag))) ag)) (aF (i:=3) iW.nd rfl (Ab rfl))
   (av (aw (i:=1) iW.nd rfl (Ab rfl) (aI gK (pv 1) ai))))
  (av (aL (pv 1))))))),?_⟩
  have p1:(3:Nat)<2 ^ 1000:=AX (show 3<2 ^ 2 by decide) (A0 (by decide) (by decide))
  have p40:(40:Nat)<2 ^ 1000:=AX (show 40<2 ^ 6 by decide) (A0 (by decide) (by decide))
  have p18:(18:Nat)<2 ^ 1000:=AX (show 18<2 ^ 6 by decide) (A0 (by decide) (by decide))
  have pg:(10 ^ 18:Nat)<2 ^ 1000:=AX (show(10 ^ 18:Nat)<2 ^ 60 by decide) (A0 (by decide) (by decide))
  refine⟨_,rfl,F,L,3,rfl,hf,by decide,p1,λr H1 r1 k1 f1=>⟨rfl,_,rfl,?_⟩⟩
  refine bJ (λ_=>?_) (λ_=>?_)
  ·exact⟨_,rfl,F,L,40,rfl,f1,by decide,p40,λq H2 q1 k2 f2=>k q H2 (AX (show q<10 ^ 2 by omega) (A0 (by decide) (by decide))) (k1.trans k2) f2⟩
  ·refine⟨_,rfl,F,L,3,rfl,f1,by decide,p1,λt H2 t1 k2 f2=>⟨_,_,rfl,rfl,_,rfl,by omega,by omega,lA (n:=(1+(t:Int)).toNat) (λi σ H'=>∃(f:Nat) (v2:Option V),σ=[some (.ref F),some (.int (f:Nat)),v2,none]/\cy F L H2 H'/\bK H' F L/\f<(10 ^ 18) ^ i)
    ⟨0,none,rfl,λb o e _ _=>e,f2,by simp⟩ ?_ ?_⟩⟩
   ·rintro i σ H3 hi ⟨f,v2,rfl,k3,f3,X8⟩
    refine⟨_,rfl,_,_,rfl,rfl,⟨by decide,by decide,by decide⟩,_,_,rfl,rfl,.inr (by constructor<;>decide),_,rfl,_,_,rfl,rfl,⟨by decide,by decide,by decide⟩,F,L,10 ^ 18,rfl,f3,by decide,pg,λq H4 q1 k4 f4=>⟨_,_,rfl,rfl,f*10 ^ 18+q,some (.int (0+(i:Int))),?_,k3.trans k4,f4,?_⟩⟩
    ·rw[Cq,CA];rfl
    ·have h1:(f+1)*10 ^ 18<=(10 ^ 18) ^ i*10 ^ 18:=G4 _ X8
     rw[Bi (10 ^ 18) i]
     omega
   ·rintro σ H3 ⟨f,v2,rfl,k3,f3,X8⟩
    have hb:f<10 ^ 60:=by
     have:(10 ^ 18:Nat) ^ (1+(t:Int)).toNat<=(10 ^ 18) ^ 3:=A0 (by decide) (by omega)
     exact AX X8 (A5 this (by decide))
    refine⟨_,rfl,F,L,18,rfl,f3,by decide,p18,λu H4 u1 k4 f4=>⟨_,rfl,by omega,by omega,lA (n:=(u:Int).toNat) (λi σ H'=>∃(f:Nat) (v3:Option V),σ=[some (.ref F),some (.int (f:Nat)),v2,v3]/\cy F L H4 H'/\bK H' F L/\f<10 ^ 60)
     ⟨f,none,rfl,λb o e _ _=>e,f4,hb⟩ ?_ ?_⟩⟩
    ·rintro i σ H5 hi ⟨g,v3,rfl,k5,f5,hg⟩
     refine⟨_,rfl,_,_,rfl,rfl,⟨by decide,by decide⟩,g / 10,some (.int (0+(i:Int))),?_,k5,f5,Ay (Nat.div_le_self _ _) hg⟩
     rw[CG];rfl
    ·rintro σ H5 ⟨g,v3,rfl,k5,f5,hg⟩
     exact⟨_,rfl,k g H5 hg (k1.trans (k2.trans (k3.trans (k4.trans k5)))) f5⟩
theorem V5(ms:List Int)(n:Nat):lM (ms.map V.int) none (some (n:Int))=(ms.take n).map V.int:=by
 unfold lM
 rw[show HT.bx (ms.map V.int).length 0 none=0 from rfl,HT.wN]
 rw[FJ,AA,Hl,<-List.map_take]
 congr 1
 by_cases h:n<=ms.length
 ·rw[Nat.min_eq_left h]
 ·rw[Nat.min_eq_right (by omega),Bg (AM _),Bg (by omega)]
theorem R7(L:Addr)(n sd:Int):bL [] (fd L n sd)=fd L n sd:=by
 have a1:¬((Am ("left":Str):Key)=Am ("number":Str)):=by decide+kernel
 have a2:¬((Am ("left":Str):Key)=Am ("seed":Str)):=by decide+kernel
 have a3:¬((Am ("number":Str):Key)=Am ("seed":Str)):=by decide+kernel
 unfold bL fd
 simp only[List.foldl_cons,List.foldl_nil]
 rw[kj _ uB]
 rw[kj _ (show aZ ([]++[((Am ("left":Str):Key),V.ref L)]) (Am ("number":Str))=none from(bR a1).trans uB)]
 rw[kj _ (show aZ ([]++[((Am ("left":Str):Key),V.ref L)]++[((Am ("number":Str):Key),V.int n)]) (Am ("seed":Str))=none from(bR a2).trans ((bR a3).trans uB))]
 rfl
theorem lE:aP ["_law_script","_law_seed","_law_cell","_law_great_here"] ["_law_script"] (ah jz):=⟨rfl,rfl,rfl,by decide+kernel,rfl,by decide+kernel,by decide+kernel⟩
theorem Ph{a:bh}(T:Txt K mg a):aO P w K mg base aW 1 a.qA a.sf ["_law_script"] (X7 K):=by
 refine T.RP.ok lE (λvs H Q E h=>?_) (λcdv A outer s H vs Q E hr h=>?_)
 ·obtain⟨sa,ns,rfl,_⟩:=h
  rfl
 ·obtain⟨sa,ns,rfl,hS,hns,k⟩:=h
  refine⟨_,(aj (aw (i:=1) lE.nd rfl (Ab rfl) ai)
  (aj (cK Aw rfl (dH (iy (Ie K) (pv 0) fu (ie ai))) (aF (i:=2) lE.nd rfl (Ab rfl))
   (av (aw (i:=1) lE.nd rfl (Ab rfl) (aI cU (aI de (aI fZ (pv 1) ai) (pv 2)) ai))))
  (aj (iO (i:=3) (aN.mk' (esc:=ah jz) (N:=["_law_script","_law_seed","_law_cell","_law_great_here"]) (own:=["_law_cell"]) (aR:=[]) (bS:=[]) rfl rfl (by decide+kernel)) rfl (dH (iy (Ie K) (pv 0) fu (ie ai))) (λ_ _ _ _=>(aF (i:=0) (show A4 (["_law_cell"]:List Str) by decide+kernel) rfl (Ab rfl))) (λ_ _ _ _=>(qm (aV Tv (bo zT (by rfl) T.T2 N8 (ae (pv 0) ag)) (aI zR ai ai) (a_ _)))) (λ_ _ _ _=>(bo zT (by rfl) T.T2 N8 (ae (pv 0) ag))) lE.nd rfl rfl)
  (av (aL (Vz (ni aX (VG K (pv 3) fu fu (ie (zx vt ai))) (ni aX ai (ni aX (pv 1) wU))) rfl rfl (λz=>nomatch z) (by decide))))))),?_⟩
  have ec:lM (ns.map V.int) none (some (63:Int))=(ns.take 63).map V.int:=by rw[show(some (63:Int))=some ((63:Nat):Int) from rfl,V5]
  dsimp only[qh,rQ,tC,aD]
  refine⟨_,rfl,_,rfl,sa,_,rfl,hS,λp hp=>?_⟩
  rw[ec]
  have sp:=Same.new (o:=.lst ((ns.take 63).map V.int)) hp
  refine⟨p,rfl,⟨_,.of af⟩,jv (xs:=(ns.take 63).map V.int) (λi σ H'=>∃(sd:Int) (v2:Option V),σ=[some (.ref sa),some (.int sd),v2,none]/\H'=upd H p (.lst ((ns.take 63).map V.int))/\0<=sd/\sd<2147483648)
   ⟨7919,none,rfl,rfl,by decide,by decide⟩ (by rintro i σ H' _ ⟨_,_,_,e,_⟩;rw[e];exact .of af) ?_ ?_⟩
  ·rintro i x σ H1 hx ⟨sd,v2,rfl,rfl,h0,h1⟩
   obtain⟨c,rfl,_⟩:=kq hx
   refine⟨_,rfl,_,_,rfl,rfl,.inr (by constructor<;>decide),_,rfl,_,_,rfl,rfl,_,_,rfl,rfl,cpos (by decide),_,_,rfl,rfl,Cp _ (by decide),?_⟩
   have:=CF (sd*69621+c) (show(0:Int)<2147483647 by decide)
   omega
  rintro σ H1 ⟨sd,v2,rfl,rfl,h0,h1⟩
  generalize upd H p (.lst ((ns.take 63).map V.int))=H1 at sp ⊢
  refine⟨_,rfl,_,rfl,sa,_,rfl,sp.seq hS,λp2 hp2=>?_⟩
  rw[ec]
  have Pj:=Same.new (o:=.lst ((ns.take 63).map V.int)) hp2
  refine⟨p2,rfl,⟨_,.of af⟩,λC hC=>?_⟩
  have nC:p2≠C:=aA af hC
  have hC1:H1 C=none:=Pj.free hC
  refine gA (xs:=(ns.take 63).map V.int) (λi σ H'=>∃(v:Option V) (ms:List Int),σ=[v]/\Same H1 H'/\H' p2=some (.lst ((ns.take 63).map V.int))/\H' C=some (.lst (ms.map V.int))/\(∀m∈ms,0<=m)/\ms.length<=i)
   ⟨none,[],?sg,Pj.trans (Same.new hC),(Same.new hC) _ _ af,af,(λm hm=>by cases hm),AM _⟩ (by rintro i σ H' _ ⟨_,_,_,_,h,_⟩;exact .of h) ?_ ?_
  case sg=>rfl
  ·rintro i x σ H2 hx ⟨v,ms,rfl,s2,e2,c2,hms,lm⟩
   obtain⟨c,rfl,hc⟩:=kq hx
   have hi:i<(ns.take 63).length:=(AF.mp hc).1
   rw[Ao] at hi
   refine⟨_,rfl,c,rfl,_,_,rfl,rfl,⟨by decide,by decide,by decide⟩,_,_,rfl,rfl,_,rfl,?_⟩
   refine bJ (λ_=>?_) (λ_=>⟨_,ms,rfl,s2,e2,c2,hms,by omega⟩)
   refine⟨_,rfl,c,rfl,_,c2,?_,_,ms++[if c<0 then-c else c],rfl,s2.kbn hC1 KB.write,by rw[aB nC];exact e2,?_,?_,?_⟩
   ·rw[AA];exact Ay (show ms.length<=100 by omega) (by decide)
   ·rw[af,AI];rfl
   ·intro m hm
    rcases Ac.mp hm with hm | hm
    ·exact hms m hm
    ·rw[AW.mp hm];split<;>omega
   ·rw[AK];show ms.length+1<=i+1;omega
  rintro σ H2 ⟨v,ms,rfl,s2,e2,c2,hms,lm⟩
  have T5:=sp.trans s2
  refine λF hF=>?_
  have sF:=Same.new (o:=.dK []) hF
  refine⟨_,rfl,_,rfl,_,rfl,C,_,rfl,rfl,rfl,rfl,.of (sF _ _ c2),λL hL=>⟨_,rfl,?_⟩⟩
  have sL:=Same.new (o:=.lst (ms.map V.int).reverse) hL
  have LA:F≠L:=aA af hL
  refine⟨sL _ _ af,fd L 0 sd,rfl,(by show 3<=15;decide),?_⟩
  rw[R7]
  refine k F L _ (T5.free hF) ((T5.trans sF).free hL) (((T5.trans sF).trans sL).kbn (T5.free hF) KB.write) ⟨ms.reverse,0,sd,af,?_,B7 _,λm hm=>hms m (DW.mp hm),h0,h1⟩
  rw[aB LA.symm,af,Fz]
def aC(ds:List Nat):List Int:=ds.map λ(d:Nat)=>(d:Int)
theorem Jq(ds:List Nat)(i:Nat):(aC ds)[i]? =ds[i]?.map λ(d:Nat)=>(d:Int):=by simp[aC]
theorem tU{ds:List Nat}{i:Nat}{x:V}(h:((aC ds).map V.int)[i]? =some x):∃n:Nat,x=.int (n:Int)/\ds[i]? =some n:=by
 obtain⟨f,rfl,hf⟩:=kq h
 rw[Jq] at hf
 cases e:ds[i]? with
 | none=>rw[e] at hf;cases hf
 | some n=>rw[e] at hf;exact⟨n,by rw[<-AS hf],rfl⟩
theorem kP{rs:List Addr}{i:Nat}{x:V}(h:(rs.map V.ref)[i]? =some x):∃r,x=.ref r/\rs[i]? =some r:=by
 rw[AU] at h
 cases e:rs[i]? with
 | none=>rw[e] at h;cases h
 | some r=>rw[e] at h;exact⟨r,(AS h).symm,rfl⟩
theorem take_snoc{α:Type}{xs:List α}{i:Nat}{x:α}(h:xs[i]? =some x):xs.take (i+1)=xs.take i++[x]:=by rw[DO,h];rfl
theorem cj(ds:List Nat):(aC ds).length=ds.length:=by simp[aC]
theorem eO(xs ys:List Nat):aC (xs++ys)=aC xs++aC ys:=by simp[aC]
structure Moves (n b:Nat)(mv:List (List Nat)):Prop where
 len:mv.length=n
 lead:∀l∈mv,l.length=b/\∀x∈l,x<n
theorem item_at{α:Type}{xs:List α}{i:Nat}(d:α)(h:i<xs.length):xs[i]? =some (xs.getD i d):=by rw[BA,As h];rfl
theorem eJ{ds:List Nat}{i:Nat}(h:i<ds.length):((aC ds).map V.int)[i]? =some (.int (ds.getD i 0:Nat)):=by
 rw[AU,Jq,item_at 0 h];rfl
theorem Moves.row{H:Hp}{n b:Nat}{mv:List (List Nat)}{ps:List Addr}(h:Moves n b mv)(tp:fP H ps (mv.map aC)){r:Nat}(hr:r<n):
  ps[r]? =some (ps.getD r 0)/\H (ps.getD r 0)=some (.tup ((aC (mv.getD r [])).map V.int))/\(mv.getD r []).length=b:=by
 have lp:ps.length=n:=by rw[Ag tp,AA,h.len]
 have hp:=item_at 0 (show r<ps.length by omega)
 obtain⟨l',hl',el⟩:=tp.get hp
 have hm:=item_at [] (show r<mv.length by rw[h.len];exact hr)
 rw[AU,hm] at hl'
 have:=AS hl'
 subst this
 exact⟨hp,el,(h.lead _ (AG hm)).1⟩
def jc(H:Hp)(ma nm:Addr)(bs:List Bool)(mv:List (List Nat)):Prop:=∃(ya va:Addr) (ps:List Addr),H ma=some (.tup [.ref nm,.ref ya,.ref va])/\H ya=some (.tup (bs.map V.bl))/\H va=some (.tup (ps.map V.ref))/\fP H ps (mv.map aC)
theorem jc.keep{H H':Hp}{ma nm:Addr}{bs:List Bool}{mv:List (List Nat)}(h:jc H ma nm bs mv)(k:bj H H'):jc H' ma nm bs mv:=by
 obtain⟨ya,va,ps,h1,h2,h3,h4⟩:=h
 exact⟨ya,va,ps,k _ _ h1,k _ _ h2,k _ _ h3,h4.keep k⟩
def stp(mv:List (List Nat))(r a:Nat):Nat:=(mv.getD r []).getD a 0
def run(mv:List (List Nat)):Nat->List Nat->Nat
 | r,[]=>r
 | r,a::w=>run mv (stp mv r a) w
def lang(bs:List Bool)(mv:List (List Nat))(r:Nat)(w:List Nat):Bool:=bs.getD (run mv r w) false
def fm(B:Nat)(w:List Nat):Prop:=∀a∈w,a<B
theorem fm.nil(B:Nat):fm B []:=λa h=>by cases h
theorem fm.cons{B a:Nat}{w:List Nat}(h:a<B)(hw:fm B w):fm B (a::w):=λx hx=>(Ae.mp hx).elim (λe=>e▸h) (hw x)
theorem fm.app{B:Nat}{v w:List Nat}(hv:fm B v)(hw:fm B w):fm B (v++w):=λx hx=>(Ac.mp hx).elim (hv x) (hw x)
theorem LB(mv:List (List Nat)):∀(v w:List Nat) (r:Nat),run mv r (v++w)=run mv (run mv r v) w
 | [],_,_=>rfl
 | a::v,w,r=>LB mv v w (stp mv r a)
theorem Moves.stp{n B:Nat}{mv:List (List Nat)}(m:Moves n B mv){r a:Nat}(hr:r<n)(ha:a<B):stp mv r a<n:=by
 unfold My.stp
 have h1:mv[r]? =some (mv.getD r []):=item_at [] (by rw[m.len];exact hr)
 obtain⟨h2,h3⟩:=m.lead _ (AG h1)
 have h4:=item_at 0 (show a<(mv.getD r []).length by rw[h2];exact ha)
 exact h3 _ (AG h4)
theorem Moves.run{n B:Nat}{mv:List (List Nat)}(m:Moves n B mv):∀{w:List Nat} {r:Nat},r<n->fm B w->My.run mv r w<n
 | [],_,hr,_=>hr
 | a::w,r,hr,hw=>Moves.run m (w:=w) (m.stp hr (hw a AL)) λx hx=>hw x (AJ _ hx)
def cZ:List Nat->Nat->Option Nat
 | [],s=>some s
 | t::l,s=>if t<s then cZ l s else if t=s then cZ l (s+1) else none
def lF:List (List Nat)->Nat->Nat->Option Nat
 | [],_,s=>some s
 | r::rs,i,s=>if i<s then(cZ r s).bind λs'=>lF rs (i+1) s' else none
theorem oY:∀(l:List Nat) (t s:Nat),cZ (l++[t]) s=(cZ l s).bind λs'=>cZ [t] s'
 | [],_,_=>rfl
 | x::l,t,s=>by
  show cZ (x::(l++[t])) s=(cZ (x::l) s).bind _
  simp only[cZ]
  by_cases h:x<s
  ·rw[if_pos h,if_pos h];exact oY l t s
  ·rw[if_neg h,if_neg h]
   by_cases h2:x=s
   ·rw[if_pos h2,if_pos h2];exact oY l t (s+1)
   ·rw[if_neg h2,if_neg h2];rfl
theorem vW:∀(rs:List (List Nat)) (r:List Nat) (i s:Nat),lF (rs++[r]) i s=(lF rs i s).bind λs'=>if i+rs.length<s' then cZ r s' else none
 | [],r,i,s=>by
  show(if i<s then(cZ r s).bind λs'=>some s' else none)=if i+0<s then cZ r s else none
  rw[Nat.add_zero]
  split
  ·cases cZ r s<;>rfl
  ·rfl
 | x::rs,r,i,s=>by
  show(if i<s then(cZ x s).bind λs'=>lF (rs++[r]) (i+1) s' else none)=(if i<s then(cZ x s).bind λs'=>lF rs (i+1) s' else none).bind _
  by_cases h:i<s
  ·rw[if_pos h,if_pos h]
   cases cZ x s with
   | none=>rfl
   | some s'=>
    show lF (rs++[r]) (i+1) s'=(lF rs (i+1) s').bind _
    rw[vW rs r (i+1) s']
    congr 1
    funext q
    rw[A2,show i+1+rs.length=i+(rs.length+1) by omega]
  ·rw[if_neg h,if_neg h];rfl
def dh{α:Type}(on:α->Nat->α):α->List Nat->α
 | x,[]=>x
 | x,a::w=>dh on (on x a) w
theorem nT{α:Type}(on:α->Nat->α):∀(v w:List Nat) (x:α),dh on x (v++w)=dh on (dh on x v) w
 | [],_,_=>rfl
 | a::v,w,x=>nT on v w (on x a)
structure dD {α:Type}(x0:α)(on:α->Nat->α)(m:Nat)(xs:List α)(mv:List (List Nat)):Prop where
 once:xs.Nodup
 first:xs[0]? =some x0
 reach:∀x∈xs,∃w,fm m w/\x=dh on x0 w
 row:∀(i:Nat) (r:List Nat),mv[i]? =some r->r.length=m/\∃x,xs[i]? =some x/\∀(c t:Nat),r[c]? =some t->xs[t]? =some (on x c)
 go:lF mv 0 1=some xs.length
theorem dD.b_{α:Type}{x0:α}{on:α->Nat->α}{m:Nat}{xs:List α}{mv:List (List Nat)}(g:dD x0 on m xs mv)(h:mv.length=xs.length):Moves xs.length m mv:=by
 refine⟨h,λl hl=>?_⟩
 obtain⟨i,hi⟩:=BR hl
 obtain⟨h1,x,_,h2⟩:=g.row i l hi
 refine⟨h1,λt ht=>?_⟩
 obtain⟨c,hc⟩:=BR ht
 exact(AF.mp (h2 c t hc)).1
theorem dD.run{α:Type}{x0:α}{on:α->Nat->α}{m:Nat}{xs:List α}{mv:List (List Nat)}(g:dD x0 on m xs mv)(h:mv.length=xs.length):∀(w:List Nat) (i:Nat) (x:α),xs[i]? =some x->fm m w->xs[run mv i w]? =some (dh on x w)
 | [],_,_,e,_=>e
 | a::w,i,x,e,hw=>by
  have hi:=(AF.mp e).1
  have ha:=hw a AL
  have h1:=item_at [] (show i<mv.length by omega)
  obtain⟨l1,y,ey,h2⟩:=g.row i _ h1
  rw[e] at ey
  have:=AS ey
  subst this
  have h3:=item_at 0 (show a<(mv.getD i []).length by rw[l1];exact ha)
  exact dD.run g h w _ _ (h2 a _ h3) λz hz=>hw z (AJ _ hz)
theorem um{α β:Type}{F:α->β->Prop}{l:List α}{m:List β}{a:α}{b:β}(h:Bl F l m)(r:F a b):Bl F (l++[a]) (m++[b]):=by
 induction h with
 | nil=>exact .cons r .nil
 | cons q t ih=>exact .cons q ih
def lets(b:Nat):Nat->List (List Int)
 | 0=>[[]]
 | n+1=>(lets b n).flatMap λl=>(A9 b).map λ(f:Nat)=>l++[(f:Int)]
theorem kQ(b:Nat):∀n,(lets b n).length=b ^ n
 | 0=>rfl
 | n+1=>by
  show((lets b n).flatMap λl=>(A9 b).map λ(f:Nat)=>l++[(f:Int)]).length=_
  rw[HC]
  have:(List.map (λl:List Int=>((A9 b).map λ(f:Nat)=>l++[(f:Int)]).length) (lets b n))=Bm (lets b n).length b:=by
   rw[BI (g:=λ_=>b) (λl _=>by simp)]
   exact GX ..
  rw[this,GO,kQ b n,Bi]
theorem uX(b:Nat):∀(n:Nat) (l:List Int),l∈lets b n->l.length=n
 | 0,l,h=>by
  have h':l∈[([]:List Int)]:=h
  simp at h';subst h';rfl
 | n+1,l,h=>by
  have h':l∈(lets b n).flatMap λl=>(A9 b).map λ(f:Nat)=>l++[(f:Int)]:=h
  obtain⟨l',h1,h2⟩:=EZ.mp h'
  obtain⟨f,_,rfl⟩:=AZ.mp h2
  rw[AK,uX b n l' h1];rfl
theorem R8(b:Nat)(ls:List (List Int)):(ls.flatMap λl=>(A9 b).map λ(f:Nat)=>l++[(f:Int)]).length=ls.length*b:=by
 rw[HC]
 have:(List.map (λl:List Int=>((A9 b).map λ(f:Nat)=>l++[(f:Int)]).length) ls)=Bm ls.length b:=by
  rw[BI (g:=λ_=>b) (λl _=>by simp)]
  exact GX ..
 rw[this,GO]
inductive M_ (vs:List V)(H:Hp)(Q:VK)(aJ:XK):Prop where
 | mk (b n:Nat) (cG:vs=[.int b,.int n]) (cD:b<=4) (cE:n<=4) (dc:∀(D:Addr) (ps:List Addr) (H':Hp),H D=none->Same H H'->H' D=some (.lst (ps.map V.ref))->fP H' ps (lets b n)->Q (.ref D) H')
def Pk:Sp:=λvs H Q aJ=>M_ vs H Q aJ
theorem eS:aP ["base","many","letters","spot","longer","letter"] ["base","many"] (ah d4):=⟨rfl,rfl,rfl,by decide+kernel,rfl,by decide+kernel,by decide+kernel⟩
theorem oZ{b n:Nat}(hb:b<=4)(hn:n<=4):b ^ n<=256:=
 A5 (Nat.pow_le_pow_left hb n) (A0 (by decide) hn)
theorem p6{a:bh}(T:Txt K mg a):aO P w K mg base aW 1 a.jj a.kE ["base","many"] Pk:=by
 refine T.y6.ok eS (λvs H Q E h=>?_) (λcdv A outer s H vs Q E hr h=>?_)
 ·obtain⟨b,n,rfl,_⟩:=h
  rfl
 ·obtain⟨b,n,rfl,hb,hn,k⟩:=h
  refine⟨_,(aj (aw (i:=2) eS.nd rfl (Ab rfl) (df (ae (bq ag) ag)))
  (aj (cK Aw rfl (dm rfl T.eP (ae (pv 1) ag)) (aF (i:=3) eS.nd rfl (Ab rfl))
   (aj (aw (i:=4) eS.nd rfl (Ab rfl) (df ag))
   (aj (cK Aw rfl (dH (pv 2)) (aF (i:=5) eS.nd rfl (CT rfl))
    (av (dX (fV Az Dq Dr xX (pv 4) (ae (bU (aN.mk' (esc:=ah d4) (N:=["base","many","letters","spot","longer","letter"]) (own:=["figure"]) (aR:=["letter"]) (bS:=[5]) rfl rfl (by decide+kernel)) rfl (dm rfl T.eP (ae (pv 0) ag)) (λ_ _ _ _=>(aF (i:=0) (show A4 (["figure","letter"]:List Str) by decide+kernel) rfl (Ab rfl))) (λ_ _ _ _=>bz) (λ_ _ _ _=>(aI (uG K) (pv 1) (bq (ae (pv 0) ag))))) ag)))))
   (av (aw (i:=2) eS.nd rfl (Ab rfl) (pv 4))))))
  (av (aL (pv 2))))),?_⟩
  refine⟨by decide,λp hp=>⟨by show 1<=sizeLine;decide,λD hD=>?_⟩⟩
  have yA:H D=none:=(Same.new hp).free hD
  refine⟨_,rfl,n,rfl,by omega,by omega,lA (lo:=0) (n:=(n:Int).toNat) (λi σ H'=>∃(D:Addr) (ps:List Addr) (v3 v4 v5:Option V),σ=[some (.int b),some (.int n),some (.ref D),v3,v4,v5]/\H D=none/\Same H H'/\H' D=some (.lst (ps.map V.ref))/\fP H' ps (lets b i))
   ⟨D,[p],none,none,none,rfl,yA,(Same.new hp).trans (Same.new hD),af,.cons (by rw[aB (aA (o:=.tup []) af hD)];exact af) .nil⟩ ?_ ?_⟩
  ·rintro i σ H1 hi ⟨D,ps,v3,v4,v5,rfl,hD,s1,eD,t1⟩
   rw[Au] at hi
   have lps:ps.length=b ^ i:=by rw[Ag t1,kQ]
   have bi:b ^ i<=256:=oZ hb (by omega)
   have bi1:b ^ (i+1)<=256:=oZ hb (by omega)
   refine⟨by decide,λE hE=>?_⟩
   have hE0:H E=none:=s1.free hE
   have X9:D≠E:=aA eD hE
   refine⟨_,rfl,D,rfl,⟨ps.map V.ref,.of (by rw[aB X9];exact eD)⟩,jv (xs:=ps.map V.ref) (λj σ H'=>∃(qs:List Addr) (v5:Option V),σ=[some (.int b),some (.int n),some (.ref D),some (.int (0+(i:Int))),some (.ref E),v5]/\
     Same H H'/\H' D=some (.lst (ps.map V.ref))/\fP H' ps (lets b i)/\H' E=some (.lst (qs.map V.ref))/\fP H' qs (((lets b i).take j).flatMap λl=>(A9 b).map λ(f:Nat)=>l++[(f:Int)]))
    ⟨[],v5,rfl,s1.trans (Same.new hE),by rw[aB X9];exact eD,t1.keep (Same.new hE).kt,af,.nil⟩ (by rintro j σ H' _ ⟨_,_,_,_,h,_⟩;exact .of h) ?_ ?_⟩
   ·rintro j y σ H2 hj ⟨qs,v5,rfl,s2,sI,t2,Pm,u2⟩
    rw[AU] at hj
    cases ep:ps[j]? with
    | none=>rw[ep] at hj;cases hj
    | some p=>
     rw[ep] at hj
     have ey:y=.ref p:=(AS hj).symm
     subst ey
     obtain⟨l,el,hl⟩:=t2.get ep
     have jlt:j<ps.length:=(AF.mp ep).1
     refine⟨_,rfl,.inl ⟨rfl,_,.of Pm⟩,_,rfl,b,rfl,by omega,by omega,λC hC=>?_⟩
     have nEC:E≠C:=aA Pm hC
     have nDC:D≠C:=aA sI hC
     refine jV (λf σ H'=>∃(rs:List Addr) (v:Option V),σ=[v,some (.ref p)]/\Same H2 H'/\H' C=some (.lst (rs.map V.ref))/\fP H' rs ((A9 f).map λ(f:Nat)=>l++[(f:Int)]))
      ⟨[],none,rfl,Same.new hC,af,.nil⟩ ?_ ?_
     ·rintro f σ H3 hf ⟨rs,v,rfl,s3,LC,t3⟩
      refine⟨_,rfl,_,rfl,by show 1<=sizeLine;decide,λq hq=>?_⟩
      have lrs:rs.length=f:=by rw[Ag t3];simp
      have Yb:C≠q:=aA LC hq
      have ll:l.length=i:=uX b i l (AG el)
      have e0:(0:Int)+(f:Int)=(f:Int):=by omega
      have hq2:H2 q=none:=s3.free hq
      have szf:(rs.map V.ref).length<sizeLine:=by rw[AA,lrs];exact AX (show f<10 by omega) (by decide)
      have s4:Same H2 (upd H3 q (.tup [.int (0+(f:Int))])):=s3.trans (Same.new hq)
      have t4:=t3.keep (Same.new (o:=.tup [.int (0+(f:Int))]) hq).kt
      refine⟨p,q,l.map V.int,[.int (0+(f:Int))],rfl,rfl,.of (s4 _ _ hl),.of af,by simp,?_,λhl0=>?_,λhl0 r hr=>?_⟩
      ·rw[AA,ll];exact A5 (show i+1<=10 by omega) (by decide)
      ·have hl1:l=[]:=by cases l with | nil=>rfl | cons _ _=>cases hl0
       subst hl1
       have Jr:(upd H3 q (.tup [.int (0+(f:Int))])) C=some (.lst (rs.map V.ref)):=by rw[aB Yb];exact LC
       refine⟨rs.map V.ref,Jr,szf,rs++[q],_,rfl,?_,by rw[af,AI];rfl,?_⟩
       ·exact s4.kbn hC KB.write
       ·rw[DG,AI]
        refine bO (t4.keep (bj.lst Jr)) (.cons (bj.lst Jr _ _ ?_) .nil)
        rw[af]
        simp
      ·have nCr:C≠r:=aA (by rw[aB Yb];exact LC) hr
       have Jr:(upd (upd H3 q (.tup [.int (0+(f:Int))])) r (.tup (l.map V.int++[.int (0+(f:Int))]))) C=some (.lst (rs.map V.ref)):=by rw[aB nCr,aB Yb];exact LC
       refine⟨rs.map V.ref,Jr,szf,rs++[r],_,rfl,?_,by rw[af,AI];rfl,?_⟩
       ·exact(s4.trans (Same.new hr)).kbn hC KB.write
       ·rw[DG,AI]
        refine bO ((t4.keep (Same.new hr).kt).keep (bj.lst Jr)) (.cons (bj.lst Jr _ _ ?_) .nil)
        rw[af]
        simp
     ·rintro σ H3 ⟨rs,v,rfl,s3,LC,t3⟩
      have lrs:rs.length=b:=by rw[Ag t3];simp
      have lqs:qs.length<=1024:=by
       rw[Ag u2,R8,Ao]
       have:=Nat.mul_le_mul (show min j (lets b i).length<=256 by rw[kQ];omega) hb
       omega
      have eE3:=s3 _ _ Pm
      refine⟨E,C,qs.map V.ref,rs.map V.ref,rfl,rfl,eE3,LC,?_,?_⟩
      ·rw[AA,AA,lrs];exact A5 (show qs.length+b<=2000 by omega) (by decide)
      ·have kt:=bj.lst (o:=.lst (qs.map V.ref++rs.map V.ref)) eE3
       refine⟨qs++rs,_,rfl,(s2.trans s3).kbn hE0 KB.write,?_,(t2.keep s3.kt).keep kt,?_,?_⟩
       ·rw[aB X9];exact s3 _ _ sI
       ·rw[af,AI]
       ·have e1:(lets b i).take (j+1)=(lets b i).take j++[l]:=by rw[DO,el];rfl
        rw[e1,HD]
        refine bO ((u2.keep s3.kt).keep kt) ?_
        rw[List.flatMap_singleton]
        have:=t3.keep kt
        rwa [show((b:Nat):Int).toNat=b from Au b] at this
   ·rintro σ H2 ⟨qs,v5,rfl,s2,sI,t2,Pm,u2⟩
    refine⟨_,rfl,E,qs,_,_,_,rfl,hE0,s2,Pm,?_⟩
    have e1:(lets b i).take (ps.map V.ref).length=lets b i:=by rw[AA,Ag t2];exact Ap ..
    rw[e1] at u2
    exact u2
  ·rintro σ H1 ⟨D,ps,v3,v4,v5,rfl,hD,s1,eD,t1⟩
   exact⟨_,rfl,k D ps H1 hD s1 eD (by rwa [Au] at t1)⟩
def di(b n:Nat):List Int:=if h:n=0∨b<2 then [] else((n % b:Nat):Int)::di b (n / b)
termination_by n
decreasing_by exact Ew (by omega) (by omega)
theorem gG(b:Nat):di b 0=[]:=by rw[di,dif_pos (.inl rfl)]
theorem jC{b n:Nat}(hb:2<=b)(hn:0<n):di b n=((n % b:Nat):Int)::di b (n / b):=by rw[di,dif_neg (by omega)]
theorem Js{b:Nat}(hb:2<=b):∀(L n:Nat),n<2 ^ L->(di b n).length<=L
 | 0,n,h=>by
  have:n=0:=by simpa using h
  subst this;rw[gG];simp
 | L+1,n,h=>by
  by_cases hn:n=0
  ·subst hn;rw[gG];simp
  ·rw[jC hb (by omega),A2]
   refine Nat.succ_le_succ (Js hb L _ ?_)
   rw[Gh (by omega)]
   refine AX h ?_
   rw[Bi]
   exact Nat.mul_le_mul_left _ hb
theorem LF{b:Nat}(hb:2<=b)(n:Nat):∀f∈di b n,0<=f/\f<b:=by
 induction n using Nat.strongRecOn with
 | ind n ih=>
  by_cases hn:n=0
  ·subst hn;rw[gG];intro f hf;cases hf
  ·rw[jC hb (by omega)]
   intro f hf
   rcases Ae.mp hf with rfl | hf
   ·have:=CV n (show 0<b by omega)
    omega
   ·exact ih _ (Ew (by omega) (by omega)) f hf
theorem yB{b:Nat}(h:b<=1000):(b:Int).natAbs.log2<9000:=by
 rw[Cf]
 by_cases hb:b=0
 ·subst hb;decide
 ·rw[Nat.log2_lt hb]
  refine Ay h ?_
  refine AX (show 1000<2 ^ 10 by decide) (A0 (by decide) (by decide))
def fl(b:Nat):Nat->Nat->List Nat
 | 0,_=>[]
 | n+1,L=>fl b n (L / b)++[L % b]
def lst(b:Nat)(acc:Nat)(ds:List Nat):Nat:=ds.foldl (λl d=>l*b+d) acc
theorem Jt(b acc d:Nat)(ds:List Nat):lst b acc (d::ds)=lst b (acc*b+d) ds:=rfl
theorem Po{b:Nat}:∀(ds:List Nat) (k acc:Nat),(∀d∈ds,d<b)->fl b (k+ds.length) (lst b acc ds)=fl b k acc++ds
 | [],k,acc,_=>by simp[lst]
 | d::t,k,acc,h=>by
  have hd:d<b:=h d AL
  rw[Jt,A2,show k+(t.length+1)=(k+1)+t.length by omega,Po t (k+1) _ λx hx=>h x (AJ _ hx),fl]
  have e1:(acc*b+d) / b=acc:=by
   rw[Hm,Nat.mul_add_div (by omega),Nat.div_eq_of_lt hd];rfl
  have e2:(acc*b+d) % b=d:=by
   rw[Hm,Nat.mul_add_mod,F' hd]
  rw[e1,e2,Cu];rfl
theorem Pp{b:Nat}:∀(ds:List Nat) (k acc:Nat),(∀d∈ds,d<b)->acc<b ^ k->lst b acc ds<b ^ (k+ds.length)
 | [],k,acc,_,h=>h
 | d::t,k,acc,h,ha=>by
  have hd:d<b:=h d AL
  rw[Jt,A2,show k+(t.length+1)=(k+1)+t.length by omega]
  refine Pp t (k+1) _ (λx hx=>h x (AJ _ hx)) ?_
  rw[Bi]
  have:=G4 b (show acc+1<=b ^ k from ha)
  rw[Nat.add_mul,Nat.one_mul] at this
  omega
theorem LG{b:Nat}(hb:0<b)(g:List Int->Nat->List Int):∀(ls:List (List Int)) (i:Nat),(ls.flatMap λl=>(A9 b).map (g l))[i]? =ls[i / b]?.map λl=>g l (i % b)
 | [],i=>by simp
 | l::ls,i=>by
  rw[FX]
  by_cases h:i<b
  ·rw[Ax (by simpa using h),Nat.div_eq_of_lt h,F' h]
   simp[h]
  ·have e1:i / b=(i-b) / b+1:=by
    have:=Nat.sub_add_cancel (HW.mp h)
    conv=>lhs;rw[<-this]
    exact Nat.add_div_right _ hb
   have e2:i % b=(i-b) % b:=Nat.mod_eq_sub_mod (HW.mp h)
   rw[Aq (by simpa using HW.mp h),e1,e2]
   have:=LG hb g ls (i-b)
   simpa using this
theorem LH{b:Nat}(hb:0<b):∀(n L:Nat),L<b ^ n->(lets b n)[L]? =some (aC (fl b n L))
 | 0,L,h=>by
  have:L=0:=by simpa using h
  subst this;rfl
 | n+1,L,h=>by
  show((lets b n).flatMap λl=>(A9 b).map λ(f:Nat)=>l++[(f:Int)])[L]? =_
  rw[LG hb (λl f=>l++[(f:Int)])]
  have h1:L / b<b ^ n:=by
   rw[Gh hb]
   rw[Bi] at h
   exact h
  rw[LH hb n (L / b) h1]
  simp[aC,fl]
theorem vX{b:Nat}(hb:2<=b):∀(p n:Nat),p<(di b n).length↔0<n / b ^ p
 | 0,n=>by
  by_cases hn:n=0
  ·subst hn;rw[gG];simp
  ·rw[jC hb (by omega),EJ,Hq]
   simp;omega
 | p+1,n=>by
  by_cases hn:n=0
  ·subst hn;rw[gG];simp
  ·rw[jC hb (by omega),A2,Nat.succ_lt_succ_iff,vX hb p,EK,Bi,Hm b]
def i4(b:Nat)(ns:List Nat)(p:Nat):Nat:=lst b 0 (ns.map λn=>n / b ^ p % b)
theorem vY{b:Nat}(hb:0<b)(ns:List Nat)(p:Nat):i4 b ns p<b ^ ns.length:=by
 have:=Pp (b:=b) (ns.map λn=>n / b ^ p % b) 0 0 (λd hd=>by
  obtain⟨n,_,rfl⟩:=AZ.mp hd
  exact CV _ hb) (by simp)
 rw[AA,EL] at this
 exact this
theorem Yc{b:Nat}(hb:0<b)(ns:List Nat)(p:Nat):fl b ns.length (i4 b ns p)=ns.map λn=>n / b ^ p % b:=by
 have:=Po (b:=b) (ns.map λn=>n / b ^ p % b) 0 0 (λd hd=>by
  obtain⟨n,_,rfl⟩:=AZ.mp hd
  exact CV _ hb)
 rw[AA,EL] at this
 exact this
def i5(b:Nat)(ns:List Nat):Nat:=ns.foldr (λn m=>max (di b n).length m) 0
theorem Ju{b:Nat}:∀{ns:List Nat} {n:Nat},n∈ns->(di b n).length<=i5 b ns
 | m::ns,n,h=>by
  show _<=max (di b m).length (i5 b ns)
  rcases Ae.mp h with rfl | h
  ·omega
  ·have:=Ju (b:=b) h
   omega
theorem LI{b:Nat}:∀{ns:List Nat},ns≠[]->∃n∈ns,(di b n).length=i5 b ns
 | [m],_=>⟨m,AL,by show _=max (di b m).length 0;omega⟩
 | m::m'::ns,_=>by
  obtain⟨n,hn,e⟩:=LI (b:=b) (ns:=m'::ns) (by simp)
  have e':i5 b (m::m'::ns)=max (di b m).length (i5 b (m'::ns)):=rfl
  rw[e']
  by_cases h:(di b m).length<=i5 b (m'::ns)
  ·exact⟨n,AJ _ hn,by omega⟩
  ·exact⟨m,AL,by omega⟩
theorem lst_snoc(b acc:Nat)(ds:List Nat)(d:Nat):lst b acc (ds++[d])=lst b acc ds*b+d:=by simp[lst,List.foldl_append]
def sO(b:Nat)(ns:List Nat):List Nat:=(A9 (i5 b ns)).map (i4 b ns)
structure my {α:Type}(x0:α)(on:α->Nat->α)(m:Nat)(xs:List α)(x:α)(leads:List Nat)(ys:List α):Prop where
 once:ys.Nodup
 pre:∃more,ys=xs++more
 reach:∀y∈ys,∃w,fm m w/\y=dh on x0 w
 at':∀(c t:Nat),leads[c]? =some t->ys[t]? =some (on x c)
 go:cZ leads xs.length=some ys.length
theorem qM:∀(l:List Nat) (s s':Nat),cZ l s=some s'->s'<=s+l.length
 | [],s,s',h=>by cases h;exact AM _
 | t::l,s,s',h=>by
  rw[cZ] at h
  rw[A2]
  split at h
  ·have:=qM l s s' h;omega
  ·split at h
   ·have:=qM l (s+1) s' h;omega
   ·cases h
theorem p7{α:Type}{xs more:List α}{i:Nat}{x:α}(h:xs[i]? =some x):(xs++more)[i]? =some x:=by
 rw[Ax (AF.mp h).1];exact h
section
variable{α:Type}{x0:α}{on:α->Nat->α}{m:Nat}{xs ys:List α}{mv:List (List Nat)}{x:α}{leads:List Nat}
theorem dD.begin:dD x0 on m [x0] []:=⟨by simp,rfl,λx hx=>⟨[],.nil m,by rw[AW.mp hx];rfl⟩,λi r h=>by simp at h,rfl⟩
theorem my.start(g:dD x0 on m xs mv):my x0 on m xs x [] xs:=⟨g.once,⟨[],by simp⟩,g.reach,λc t h=>by simp at h,rfl⟩
theorem my.old(g:my x0 on m xs x leads ys){t:Nat}(h:ys[t]? =some (on x leads.length)):my x0 on m xs x (leads++[t]) ys:=by
 have ht:=(AF.mp h).1
 refine⟨g.once,g.pre,g.reach,λc u hu=>?_,?_⟩
 ·by_cases hc:c<leads.length
  ·rw[Ax hc] at hu;exact g.at' c u hu
  ·have hb:=(AF.mp hu).1
   rw[AK] at hb
   have e:c=leads.length:=by simp at hb;omega
   subst e
   rw[Aq (AM _),B9] at hu
   have:=AS hu
   subst this
   exact h
 ·rw[oY,g.go]
  show cZ [t] ys.length=_
  simp only[cZ]
  rw[if_pos ht]
theorem my.new(g:my x0 on m xs x leads ys)(hm:leads.length<m)(hx:∃w,fm m w/\x=dh on x0 w)(h:on x leads.length ∉ ys):my x0 on m xs x (leads++[ys.length]) (ys++[on x leads.length]):=by
 obtain⟨more,e⟩:=g.pre
 refine⟨?_,⟨more++[on x leads.length],by rw[e,Cu]⟩,λy hy=>?_,λc u hu=>?_,?_⟩
 ·rw[CS]
  exact⟨g.once,by simp,λa ha b hb z=>h (by rw[<-AW.mp hb,<-z];exact ha)⟩
 ·rcases Ac.mp hy with z | z
  ·exact g.reach y z
  ·rw[AW.mp z]
   obtain⟨w,hw,ex⟩:=hx
   exact⟨w++[leads.length],hw.app (.cons hm (.nil m)),by rw[nT,<-ex];rfl⟩
 ·by_cases hc:c<leads.length
  ·rw[Ax hc] at hu;exact p7 (g.at' c u hu)
  ·have hb:=(AF.mp hu).1
   rw[AK] at hb
   have e:c=leads.length:=by simp at hb;omega
   subst e
   rw[Aq (AM _),B9] at hu
   have:=AS hu
   subst this
   rw[Aq (AM _),B9];rfl
 ·rw[oY,g.go,AK]
  show cZ [ys.length] ys.length=_
  simp only[cZ]
  rw[if_neg (BQ _)]
  simp
theorem dD.next(g:dD x0 on m xs mv)(hx:xs[mv.length]? =some x)(r:my x0 on m xs x leads ys)(hl:leads.length=m):dD x0 on m ys (mv++[leads]):=by
 obtain⟨more,e⟩:=r.pre
 have hlt:=(AF.mp hx).1
 refine⟨r.once,by rw[e];exact p7 g.first,r.reach,λi row hr=>?_,?_⟩
 ·by_cases hi:i<mv.length
  ·rw[Ax hi] at hr
   obtain⟨h1,y,h2,h3⟩:=g.row i row hr
   exact⟨h1,y,by rw[e];exact p7 h2,λc t ht=>by rw[e];exact p7 (h3 c t ht)⟩
  ·have hb:=(AF.mp hr).1
   rw[AK] at hb
   have ei:i=mv.length:=by simp at hb;omega
   subst ei
   rw[Aq (AM _),B9] at hr
   have:=AS hr
   subst this
   exact⟨hl,x,by rw[e];exact p7 hx,r.at'⟩
 ·rw[vW,g.go]
  show(if 0+mv.length<xs.length then cZ leads xs.length else none)=_
  rw[if_pos (by omega)];exact r.go
end
def nV{P:Ah}{w:World}{α:Type}(R:oO P w α)(H:Hp)(vs:List V)(xs:List α):Prop:=Bl (λv x=>R.Rep x v H) vs xs
section
variable{P:Ah}{w:World}{α:Type}(R:oO P w α)(many:Nat)(on:α->Nat->α)(yes:α->Bool)(Ok:α->Prop)(Ev:Hp->Prop)
def sQ:Sp:=λvs H Q _=>∃(x:α) (v:V) (a:Nat),vs=[v,.int a]/\R.Rep x v H/\Ok x/\a<many/\Ev H/\∀v' H',Same H H'->R.Rep (on x a) v' H'->Q v' H'
def sU:Sp:=λvs H Q _=>∃(x:α) (v:V),vs=[v]/\R.Rep x v H/\Ok x/\Ev H/\∀H',Same H H'->Q (.bl (yes x)) H'
def V6(f1 f2:Addr):Sp:=λvs H Q _=>∃(x0:α) (v0:V) (most:Nat),vs=[v0,.int many,.ref f1,.ref f2,.int most]/\R.Rep x0 v0 H/\Ok x0/\Ev H/\most<=10000/\many<=1000/\
 (∀(xs:List α) (H':Hp),Same H H'->xs.Nodup->(∀x∈xs,∃w,fm many w/\x=dh on x0 w)->most<xs.length->Q .non H')/\
 ∀(xs:List α) (mv:List (List Nat)) (vs:List V) (p Rr ya va:Addr) (ps:List Addr) (H':Hp),Same H H'->H Rr=none->mv.length=xs.length->xs.length<=most->dD x0 on many xs mv->H' p=some (.tup [.ref Rr,.ref ya,.ref va])->H' Rr=some (.lst vs)->nV R H' vs xs->H' ya=some (.tup ((xs.map yes).map V.bl))->H' va=some (.tup (ps.map V.ref))->fP H' ps (mv.map aC)->Q (.ref p) H'
end
theorem xm{H:Hp}{a:Addr}{o o':HO}(h:H a=some o)(hn:∀l,o≠.tup l):bj H (upd H a o'):=λb xs e=>by
 rw[aB (fE e h λz=>hn xs z.symm)];exact e
theorem Yd{H H':Hp}{a:Addr}{o:HO}(h:H a=some o)(hn:∀l,o≠.tup l)(k:KB a H H'):bj H H':=λb xs e=>k _ _ e (fE e h λz=>hn xs z.symm)
theorem nV.keep{P:Ah}{w:World}{α:Type}{R:oO P w α}{H H':Hp}{vs:List V}{xs:List α}(h:nV R H vs xs)(k:bj H H'):nV R H' vs xs:=Paired.rM h λ_ _ z=>R.same z k
theorem nV.at{P:Ah}{w:World}{α:Type}{R:oO P w α}{H:Hp}:∀{vs:List V} {xs:List α} {i:Nat} {x:α},nV R H vs xs->xs[i]? =some x->∃v,vs[i]? =some v/\R.Rep x v H
 | _,_,_,_,.nil,e=>by simp at e
 | _,_,0,_,.cons r _,e=>by simp at e;subst e;exact⟨_,rfl,r⟩
 | _,_,i+1,_,.cons _ t,e=>by
  simp only[B6] at e ⊢
  exact nV.at t e
theorem cO:aP ["first","many","onward","is_yes","most","rooms","numbers","moves","room","leads","letter","to","yes"] ["first","many","onward","is_yes","most"] (ah bZ):=⟨rfl,rfl,rfl,by decide+kernel,rfl,by decide+kernel,by decide+kernel⟩
set_option maxHeartbeats 16000000 in
theorem zh{a:bh}(T:Txt K mg a){α:Type}(R:oO P w α){many:Nat}{on:α->Nat->α}{yes:α->Bool}{Ok:α->Prop}{Ev:Hp->Prop}{f1 f2:Addr}{k:Nat}
  (F1:FnAt P w K mg base k f1 2 (sQ R many on Ok Ev)) (F2:FnAt P w K mg base k f2 1 (sU R yes Ok Ev)) (vZ:∀x a,Ok x->a<many->Ok (on x a)) (Pq:∀H H',Ev H->Same H H'->Ev H'):
  aO P w K mg base aW (k+1) a.j0 a.jk ["first","many","onward","is_yes","most"] (V6 R many on yes Ok Ev f1 f2):=by
 obtain⟨o1,fd1,ps1,ho1,hf1,hl1,hb1,G1⟩:=F1
 obtain⟨o2,fd2,ps2,ho2,hf2,hl2,hb2,G2⟩:=F2
 refine T.IQ.ok cO (λvs H Q E h=>?_) (λAr outer sh H vs Q E hr h=>?_)
 ·obtain⟨x0,v0,most,rfl,_⟩:=h
  rfl
 ·obtain⟨x0,v0,most,rfl,r0,k0,T6,hbm,amC,q0,q⟩:=h
  refine⟨_,(aj (aw (i:=5) cO.nd rfl (Ab rfl) (df (ae (pv 0) ag)))
  (aj (aw (i:=6) cO.nd rfl (Ab rfl) (R.xf (cf hr) (pv 0) ai rfl rfl))
  (aj (aw (i:=7) cO.nd rfl (Ab rfl) (df ag))
  (aj (iw Aw (Q_ Mj aa2 (bo (cx K) (by rfl) T.gT fb (ae (pv 7) ag)) (bo (cx K) (by rfl) T.gT fb (ae (pv 5) ag)) (pv 4))
   (aj (aw (i:=8) cO.nd rfl (Ab rfl) (au (cS K) (pv 5) (bo (cx K) (by rfl) T.gT fb (ae (pv 7) ag)) (λ_ _=>rfl)))
   (aj (aw (i:=9) cO.nd rfl (Ab rfl) (df ag))
   (aj (cK Aw rfl (dm rfl T.eP (ae (pv 1) ag)) (aF (i:=10) cO.nd rfl (Ab rfl))
    (aj (aw (i:=11) cO.nd rfl (Ab rfl) (Io (i:=2) G1 ho1 hf1 hr hb1 rfl (Ab rfl) (ae (pv 8) (ae (pv 10) ag))))
    (aj (cq (WI (OD (P:=P) (w:=w) (cf hr) (pv 11) (pv 6)) (by with_unfolding_all rfl))
     (aj (VT (P:=P) (w:=w) (cf hr) (pv 6) (pv 11) (bo (cx K) (by rfl) T.gT fb (ae (pv 5) ag)) rfl)
     (av (dX (fV Az BC BD dq (pv 5) (ae (pv 11) ag)))))
     bG)
    (av (dX (fV Az BC BD dq (pv 9) (ae (VS (P:=P) (w:=w) (cf hr) (pv 6) (pv 11) (λ_ _=>rfl)) ag)))))))
   (av (dX (fV Az BC BD dq (pv 7) (ae (bw (cz K) (by rfl) T.eQ dI (ae (pv 9) ag)) ag))))))))
  (aj (cq (aV oC (bo (cx K) (by rfl) T.gT fb (ae (pv 5) ag)) (pv 4) (a_ _))
   (av (aL pK))
   bG)
  (aj (aw (i:=12) cO.nd rfl (Ab rfl) (bw (cz K) (by rfl) T.eQ dI (ae (bU (aN.mk' (esc:=ah bZ) (N:=["first","many","onward","is_yes","most","rooms","numbers","moves","room","leads","letter","to","yes"]) (own:=["room"]) (aR:=["is_yes"]) (bS:=[3]) rfl rfl (by decide+kernel)) rfl (dH (pv 5)) (λ_ _ _ _=>(aF (i:=0) (show A4 (["room","is_yes"]:List Str) by decide+kernel) rfl (Ab rfl))) (λ_ _ _ _=>bz) (λ_ _ _ _=>(bw Ml (by rfl) T.Pg Ll (ae (Io (i:=1) G2 ho2 hf2 hr hb2 (by rfl) (by first | exact Ab rfl | exact CT (Ab rfl) | exact CT (CT rfl)) (ae (pv 0) ag)) ag)))) ag)))
  (av (aL (bq (ae (pv 5) (ae (pv 12) (ae (bw (cz K) (by rfl) T.eQ dI (ae (pv 7) ag)) ag)))))))))))),?_⟩
  have big:(100000:Nat)<=sizeLine:=by decide
  have T7:∀(w:List Nat) (x:α),Ok x->fm many w->Ok (dh on x w):=by
   intro w
   induction w with
   | nil=>intro x hx _;exact hx
   | cons c w ih=>intro x hx hw;exact ih _ (vZ x c hx (hw c AL)) λz hz=>hw z (AJ _ hz)
  refine aU λY hY=>?_
  refine⟨_,rfl,by show 1<=sizeLine;omega,λRr hR=>?_⟩
  have sR:=Same.new (o:=.lst [v0]) hR
  dsimp only[aD]
  subst hY
  refine aU λY hY=>?_
  refine⟨x0,v0,rfl,R.same r0 sR.kt,λD H2 hD s2 num=>?_⟩
  have eR2:H2 Rr=some (.lst [v0]):=s2 _ _ af
  have yA:H D=none:=sR.free hD
  have DR:Rr≠D:=aA (show(upd H Rr (.lst [v0])) Rr=some (.lst [v0]) from af) hD
  dsimp only[aD]
  subst hY
  refine aU λY hY=>?_
  refine⟨by show 0<=sizeLine;omega,λM hM=>?_⟩
  have sM:=Same.new (o:=.lst []) hM
  have hM0:H M=none:=sR.free (s2.free hM)
  have MR:M≠Rr:=(aA eR2 hM).symm
  obtain⟨oD,eoD,_,_⟩:=R.isD num
  have MD:M≠D:=(aA eoD hM).symm
  have Pr:=(sR.trans s2).trans sM
  dsimp only[aD]
  subst hY
  refine r6 (t:=pL _ _) (u:=qh _ _) (λσ H'=>∃(xs:List α) (mv:List (List Nat)) (vs:List V) (ps:List Addr) (v8 v9 v10 v11:Option V),σ=[some v0,some (.int (many:Nat)),some (.ref f1),some (.ref f2),some (.int (most:Nat)),some (.ref Rr),some (.ref D),some (.ref M),v8,v9,v10,v11,none]/\Same H H'/\
   H' Rr=some (.lst vs)/\nV R H' vs xs/\H' M=some (.lst (ps.map V.ref))/\fP H' ps (mv.map aC)/\dD x0 on many xs mv/\xs.length<=20000/\(xs.length<=most->mv.length=xs.length)) ?re (λY rest=>?_)
  case re=>
   rintro σ H' ⟨xs,mv,vs,ps,v8,v9,v10,v11,rfl,s',eR,rp,eM,tp,g,lx,hl⟩
   have Ye:vs.length=xs.length:=Ag rp
   have lps:ps.length=mv.length:=by rw[Ag tp,AA]
   refine aU λY hY=>?_
   refine⟨_,rfl,_,vs.length,rfl,.inl ⟨_,.of eR,rfl⟩,_,rfl,_,_,rfl,rfl,_,rfl,?_⟩
   by_cases hc:xs.length<=most
   rotate_left
   ·rw[show decide ((most:Int)<((vs.length:Nat):Int))=true from decide_eq_true (by omega)]
    exact z_ (q0 xs H' s' g.once g.reach (by omega))
   have hl:=hl hc
   rw[show decide ((most:Int)<((vs.length:Nat):Int))=false from decide_eq_false (by omega)]
   refine lN ?_
   subst hY
   dsimp only[tN]
   refine aU λY hY=>?_
   refine⟨_,rfl,Rr,rfl,⟨_,.of eR⟩,λC hC=>?_⟩
   refine gA (xs:=vs) (λj σ H2=>∃v:Option V,σ=[v,some (.ref f2)]/\Same H' H2/\H2 C=some (.lst (((xs.take j).map yes).map V.bl)))
    ⟨none,?sg,Same.new hC,af⟩ (by rintro j σ H2 _ ⟨_,_,s2,_⟩;exact .of (s2 _ _ eR)) ?_ ?_
   case sg=>rfl
   ·rintro j y σ H2 hy ⟨v,rfl,s2,c2⟩
    have hj:j<xs.length:=by rw[<-Ye];exact(AF.mp hy).1
    have ex:xs[j]? =some xs[j]:=As hj
    obtain⟨v',hv',rv⟩:=rp.at ex
    rw[hy] at hv'
    have hv2:=AS hv'
    subst hv2
    obtain⟨w,hw,ew⟩:=g.reach xs[j] (C5 ..)
    have okx:Ok xs[j]:=by rw[ew];exact T7 w x0 k0 hw
    refine⟨rfl,_,rfl,xs[j],y,rfl,R.same rv s2.kt,okx,Pq _ _ T6 (s'.trans s2),λH3 s3=>?_⟩
    refine .inr ⟨_,rfl,_,s3 _ _ c2,by rw[AA,AA,Ao];omega,_,rfl,(s2.trans s3).kbn hC KB.write,?_⟩
    rw[af,take_snoc ex,AI,AI];rfl
   rintro σ H2 ⟨v,rfl,s2,c2⟩
   rw[Ye,Ap] at c2
   refine⟨C,_,rfl,.inl ⟨.of c2,λYa hYa=>?_⟩⟩
   have sY:=Same.new (o:=.tup ((xs.map yes).map V.bl)) hYa
   dsimp only[aD]
   subst hY
   refine⟨_,rfl,_,rfl,_,rfl,M,_,rfl,.inl ⟨.of (sY _ _ (s2 _ _ eM)),λVa hVa=>⟨by show 3<=sizeLine;omega,λp hp=>?_⟩⟩⟩
   have sV:=Same.new (o:=.tup (ps.map V.ref)) hVa
   have sP:=Same.new (o:=.tup [.ref Rr,.ref Ya,.ref Va]) hp
   have gU:=((s2.trans sY).trans sV).trans sP
   exact q xs mv vs p Rr Ya Va ps _ (s'.trans gU) hR hl hc g af (gU _ _ eR) (rp.keep gU.kt) (sP _ _ (sV _ _ af)) (sP _ _ af) (tp.keep gU.kt)
  refine xg (λm σ H'=>∃(xs:List α) (mv:List (List Nat)) (vs:List V) (ps:List Addr) (v8 v9 v10 v11:Option V),m=most+1-mv.length/\σ=[some v0,some (.int (many:Nat)),some (.ref f1),some (.ref f2),some (.int (most:Nat)),some (.ref Rr),some (.ref D),some (.ref M),v8,v9,v10,v11,none]/\Same H H'/\
    H' Rr=some (.lst vs)/\nV R H' vs xs/\R.Num H' D xs/\H' M=some (.lst (ps.map V.ref))/\fP H' ps (mv.map aC)/\dD x0 on many xs mv/\mv.length<=xs.length/\xs.length<=20000)
   ⟨_,[x0],[],[v0],[],none,none,none,none,rfl,rfl,Pr,sM _ _ eR2,.cons (R.same r0 Pr.kt) .nil,R.keep num (aB MD.symm),af,.nil,dD.begin,by simp,by simp⟩ ?_ ?_
  ·rintro m σ H4 N hN ⟨xs,mv,vs,ps,v8,v9,v10,v11,rfl,rfl,s4,eR,rp,nm,eM,tp,g,hl,lx⟩
   have Ye:vs.length=xs.length:=Ag rp
   have lps:ps.length=mv.length:=by rw[Ag tp,AA]
   refine⟨_,rfl,_,ps.length,rfl,.inl ⟨_,.of eM,by rw[AA]⟩,_,rfl,_,vs.length,rfl,.inl ⟨_,.of eR,rfl⟩,_,_,rfl,rfl,_,rfl,?_⟩
   by_cases hlt:mv.length<xs.length
   ·rw[show decide (((ps.length:Nat):Int)<((vs.length:Nat):Int))=true from decide_eq_true (by omega)]
    refine z_ ⟨_,rfl,_,_,rfl,rfl,_,rfl,?_⟩
    by_cases hc:xs.length<=most
    rotate_left
    ·rw[show decide (((vs.length:Nat):Int)<=((most:Nat):Int))=false from decide_eq_false (by omega)]
     refine lN ?_
     exact rest _ _ ⟨xs,mv,vs,ps,v8,v9,v10,v11,rfl,s4,eR,rp,eM,tp,g,lx,λz=>absurd z hc⟩
    rw[show decide (((vs.length:Nat):Int)<=((most:Nat):Int))=true from decide_eq_true (by omega)]
    refine z_ ?_
    refine aU λY hY=>?_
    obtain⟨x,ex⟩:∃x,xs[mv.length]? =some x:=⟨_,As hlt⟩
    obtain⟨vx,hvx,rx⟩:=rp.at ex
    have Yf:=g.reach x (AG ex)
    have okx:Ok x:=by obtain⟨w,hw,ew⟩:=Yf;rw[ew];exact T7 w x0 k0 hw
    refine⟨_,rfl,_,rfl,_,ps.length,rfl,.inl ⟨_,.of eM,by rw[AA]⟩,Rr,_,_,vx,rfl,rfl,.of eR,ak (by rw[lps];exact hvx),?_⟩
    dsimp only[aD]
    subst hY
    refine aU λY hY=>?_
    refine⟨by show 0<=sizeLine;omega,λL hL=>?_⟩
    have sL:=Same.new (o:=.lst []) hL
    have hL0:H L=none:=s4.free hL
    have LR:L≠Rr:=(aA eR hL).symm
    have LM:L≠M:=(aA eM hL).symm
    obtain⟨oD4,aez,_,_⟩:=R.isD nm
    have LD:L≠D:=(aA aez hL).symm
    dsimp only[aD]
    subst hY
    refine aU λY hY=>?_
    refine⟨_,rfl,_,rfl,by omega,by omega,mR (n:=(many:Int).toNat) (λj σ H'=>∃(ys:List α) (us:List V) (leads:List Nat) (v10 v11:Option V),σ=[some v0,some (.int (many:Nat)),some (.ref f1),some (.ref f2),some (.int (most:Nat)),some (.ref Rr),some (.ref D),some (.ref M),some vx,some (.ref L),v10,v11,none]/\Same H H'/\bj H4 H'/\
      H' Rr=some (.lst us)/\nV R H' us ys/\R.Num H' D ys/\H' M=some (.lst (ps.map V.ref))/\H' L=some (.lst ((aC leads).map V.int))/\leads.length=j/\my x0 on many xs x leads ys)
     ⟨xs,vs,[],v10,v11,rfl,s4.trans sL,sL.kt,sL _ _ eR,rp.keep sL.kt,R.keep nm (aB LD.symm),sL _ _ eM,af,rfl,my.start g⟩ ?_ ?_⟩
    ·rintro j σ H5 N2 Yg hj ⟨ys,us,leads,v10,v11,rfl,s5,T9,Ua,Ub,Pt,Pu,Yh,ll,gr⟩
     have ej:(0:Int)+(j:Int)=((j:Nat):Int):=by omega
     rw[ej]
     have hjm:j<many:=by omega
     have ly:=qM _ _ _ gr.go
     have Yi:us.length=ys.length:=Ag Ub
     dsimp only[aD]
     refine aU λY hY=>?_
     refine⟨rfl,_,rfl,_,rfl,x,vx,j,rfl,R.same rx T9,okx,hjm,Pq _ _ T6 s5,λto H6 s6 Pw=>?_⟩
     have Yj:=s6 _ _ Ua
     have Px:=s6 _ _ Pu
     have eL6:=s6 _ _ Yh
     have rp6:=Ub.keep s6.kt
     obtain⟨oD5,Jv,Jw,nD2⟩:=R.isD Pt
     have Uc:=R.keep Pt ((s6 _ _ Jv).trans Jv.symm)
     have aeA:=s6 _ _ Jv
     have sW:bj H4 H6:=λb l z=>s6 _ _ (T9 _ _ z)
     have sH6:=s5.trans s6
     dsimp only[aD]
     subst hY
     refine r6 (t:=zN _ _ _) (u:=Tr _) (λσ H'=>∃(zs:List α) (ws:List V) (t:Nat),σ=[some v0,some (.int (many:Nat)),some (.ref f1),some (.ref f2),some (.int (most:Nat)),some (.ref Rr),some (.ref D),some (.ref M),some vx,some (.ref L),some (.int (j:Nat)),some to,none]/\Same H H'/\bj H6 H'/\
      H' Rr=some (.lst ws)/\nV R H' ws zs/\R.Num H' D zs/\H' M=some (.lst (ps.map V.ref))/\H' L=some (.lst ((aC leads).map V.int))/\zs[t]? =some (on x j)/\my x0 on many xs x (leads++[t]) zs) ?re2 (λY Ud=>?_)
     case re2=>
      rintro σ H7 ⟨zs,ws,t,rfl,s7,v7,Py,rp7,Ue,eM7,Yk,hz,gr7⟩
      refine⟨_,rfl,Ab ⟨rfl,_,.of Yk⟩,_,rfl,_,rfl,D,_,rfl,R.there Ue (R.same Pw v7) gr7.once hz,L,_,_,rfl,rfl,Yk,by rw[AA,cj];omega,?_⟩
      have kL:bj H7 (upd H7 L (.lst ((aC leads).map V.int++[.int (t:Nat)]))):=xm Yk (λl z=>nomatch z)
      refine Yg _ _ ⟨zs,ws,leads++[t],_,_,rfl,s7.kbn hL0 KB.write,λb l z=>kL _ _ (v7 _ _ (sW _ _ z)),by rw[aB LR.symm];exact Py,rp7.keep kL,R.keep Ue (aB LD.symm),by rw[aB LM.symm];exact eM7,?_,by rw[AK,ll];rfl,gr7⟩
      rw[af,eO,AI];rfl
     by_cases hm:on x j∈ys
     ·obtain⟨i,hi⟩:=BR hm
      refine⟨_,rfl,_,rfl,D,_,rfl,R.there Uc Pw gr.once hi,_,rfl,?_⟩
      refine lN ?_
      exact Ud _ _ ⟨ys,us,i,rfl,sH6,λ_ _ z=>z,Yj,rp6,Uc,Px,eL6,hi,gr.old (by rw[ll];exact hi)⟩
     ·refine⟨_,rfl,_,rfl,D,_,rfl,R.miss Uc Pw hm,_,rfl,?_⟩
      refine z_ ?_
      obtain⟨H7,aeB,Pz,Ue⟩:=R.put Uc Pw hm (by omega)
      have gr':=gr.new (by omega) Yf (by rw[ll];exact hm)
      rw[ll] at gr'
      have Py:=Pz _ _ Yj DR
      refine⟨_,rfl,_,us.length,rfl,.inl ⟨_,.of Yj,rfl⟩,_,rfl,_,rfl,D,H7,rfl,by rw[Yi];exact aeB,?_⟩
      refine⟨_,rfl,Ab ⟨rfl,_,.of Py⟩,_,rfl,Rr,_,_,rfl,rfl,Py,by omega,?_⟩
      have v7:bj H6 H7:=Yd aeA nD2 Pz
      have kR:bj H7 (upd H7 Rr (.lst (us++[to]))):=xm Py (λl z=>nomatch z)
      have Yl:bj H6 (upd H7 Rr (.lst (us++[to]))):=λb l z=>kR _ _ (v7 _ _ z)
      refine Ud _ _ ⟨ys++[on x j],us++[to],ys.length,rfl,(sH6.kbn yA Pz).kbn hR KB.write,Yl,af,?_,R.keep Ue (aB DR.symm),by rw[aB MR];exact Pz _ _ Px MD,by rw[aB LR];exact Pz _ _ eL6 LD,by rw[Aq (AM _),B9];rfl,gr'⟩
      exact um (rp6.keep Yl) (R.same Pw Yl)
    ·rintro σ H5 ⟨ys,us,leads,v10,v11,rfl,s5,T9,Ua,Ub,Pt,Pu,Yh,ll,gr⟩
     subst hY
     have ll2:leads.length=many:=by rw[ll];omega
     have g2:=g.next ex gr ll2
     have ly:=qM _ _ _ gr.go
     obtain⟨more,abw⟩:=gr.pre
     have lxy:xs.length<=ys.length:=by rw[abw,AK];omega
     refine⟨_,rfl,Ab ⟨rfl,_,.of Pu⟩,_,rfl,L,_,rfl,.inl ⟨.of Yh,λt ht=>?_⟩⟩
     have sT:=Same.new (o:=.tup ((aC leads).map V.int)) ht
     have nMt:M≠t:=aA Pu ht
     have nRt:Rr≠t:=aA Ua ht
     obtain⟨oD5,Jv,Jw,nD2⟩:=R.isD Pt
     have nDt:D≠t:=aA Jv ht
     have Px:=sT _ _ Pu
     refine⟨M,_,_,rfl,rfl,Px,by rw[AA];omega,?_⟩
     have kM:bj (upd H5 t (.tup ((aC leads).map V.int))) (upd (upd H5 t (.tup ((aC leads).map V.int))) M (.lst (ps.map V.ref++[.ref t]))):=xm Px (λl z=>nomatch z)
     have kA:bj H5 (upd (upd H5 t (.tup ((aC leads).map V.int))) M (.lst (ps.map V.ref++[.ref t]))):=λb l z=>kM _ _ (sT.kt _ _ z)
     refine hN _ _ _ ?_ ⟨ys,mv++[leads],us,ps++[t],_,_,_,_,rfl,rfl,(s5.trans sT).kbn hM0 KB.write,by rw[aB MR.symm];exact sT _ _ Ua,Ub.keep kA,R.keep Pt (by rw[aB MD.symm,aB nDt]),by rw[af,AI];rfl,?_,g2,by rw[AK];simp;omega,by omega⟩
     ·rw[AK];simp;omega
     ·rw[AI]
      exact um ((tp.keep T9).keep kA) (by rw[aB nMt.symm,af])
   ·have e:mv.length=xs.length:=by omega
    rw[show decide (((ps.length:Nat):Int)<((vs.length:Nat):Int))=false from decide_eq_false (by omega)]
    refine lN ⟨_,rfl,lN ?_⟩
    exact rest _ _ ⟨xs,mv,vs,ps,v8,v9,v10,v11,rfl,s4,eR,rp,eM,tp,g,lx,λ_=>e⟩
  ·rintro σ H Q Q' h ⟨v,e1,v2,n1,e2,l1,v3,e3,v4,n2,e4,l2,i,j,e5,e6,k,e7,z⟩
   refine⟨v,e1,v2,n1,e2,l1,v3,e3,v4,n2,e4,l2,i,j,e5,e6,k,e7,?_⟩
   cases k with
   | false=>
    rw[if_neg An] at z ⊢
    obtain⟨k',e8,q⟩:=z
    exact⟨k',e8,h _ _ q⟩
   | true=>
    rw[if_pos rfl] at z ⊢
    obtain⟨v5,e9,i2,j2,e10,Xf,k2,Ym,q⟩:=z
    exact⟨v5,e9,i2,j2,e10,Xf,k2,Ym,h _ _ q⟩
inductive PB (P:Ah)(w:World)(K:AB)(mg:Str->Option Value)(base:Heap)(k:Nat)(vs:List V)(H:Hp)(Q:VK)(aJ:XK):Prop where
 | mk (b most:Nat) (nm g:Addr) (ss:List Str) (α:Type) (R:oO P w α) (on:α->Nat->α) (yes:α->Bool) (Ok:α->Prop) (Ev:Hp->Prop) (x0:α) (v0:V) (f1 f2:Addr) (D:List Addr) (cG:vs=[.int b,.ref nm,.ref g,.int most]) (cD:b<=4) (cE:ss.length<=4) (dc:H nm=some (.tup (ss.map V.str))) (dZ:H g=some (.tup [v0,.ref f1,.ref f2])) (fU:(∀a∈D,∃φ,H a=some (.ext φ))) (iH:dM P w K mg base H D k f1 2 (sQ R (b ^ ss.length) on Ok Ev)) (j8:dM P w K mg base H D k f2 1 (sU R yes Ok Ev)) (mM:(∀x a,Ok x->a<b ^ ss.length->Ok (on x a))) (rF:(∀H H',Ev H->Same H H'->Ev H')) (sX:(∀D H,(∀a∈D,∃φ,H a=some (.ext φ))->Ev H->Ev (dA D H))) (Jx:R.Rep x0 v0 H) (M0:Ok x0) (R9:Ev H) (R':most<=10000) (Yn:(∀(xs:List α) (H':Hp),Same H H'->xs.Nodup->(∀x∈xs,∃w,fm (b ^ ss.length) w/\x=dh on x0 w)->most<xs.length->Q .non H')) (Yo:∀(xs:List α) (mv:List (List Nat)) (p:Addr) (H':Hp),Same H H'->mv.length=xs.length->xs.length<=most->dD x0 on (b ^ ss.length) xs mv->jc H' p nm (xs.map yes) mv->Q (.ref p) H')
def Sb(P:Ah)(w:World)(K:AB)(mg:Str->Option Value)(base:Heap)(k:Nat):Sp:=λvs H Q aJ=>PB P w K mg base k vs H Q aJ
theorem mz:aP ["base","names","growth","most","many","grown"] ["base","names","growth","most"] (ah gb):=⟨rfl,rfl,rfl,by decide+kernel,rfl,by decide+kernel,by decide+kernel⟩
theorem mB{a:bh}(T:Txt K mg a)(k:Nat):aO P w K mg base aW (k+2) a.j3 a.lR ["base","names","growth","most"] (Sb P w K mg base k):=by
 have mC:=p6 (P:=P) (w:=w) (base:=base) T
 refine T.IW.ok mz (λvs H Q E h=>?_) (λcdv A outer s H vs Q E hr h=>?_)
 ·obtain⟨b,most,nm,g,ss,α,R,on,yes,Ok,Ev,x0,v0,f1,f2,D,rfl,_⟩:=h
  rfl
 ·obtain⟨b,most,nm,g,ss,α,R,on,yes,Ok,Ev,x0,v0,f1,f2,D,rfl,hb4,hs4,o_,eg,hD,F1,F2,vZ,Pq,evU,r0,ok0,T6,hbm,q0,q⟩:=h
  have kS:aK 1 _:=hr.mono (by omega)
  have Sd:aK (k+1) _:=hr
  refine⟨_,(aj (aw (i:=4) mz.nd rfl (Ab rfl) (bo (cx K) (by rfl) T.gT fb (ae (aq mC kS rfl T.rf T.rg T.rh .nil az (ae (pv 0) (ae (bo (cx K) (by rfl) T.gT fb (ae (pv 1) ag)) ag))) ag)))
  (aj (aw (i:=5) mz.nd rfl (Ab rfl) (RA (λ_=>rfl) Sd rfl T.IT T.IU T.IV (ae (au (ao K) (pv 2) ai (λ_ _=>rfl)) (ae (pv 4) (ae (au (ao K) (pv 2) ai (λ_ _=>rfl)) (ae (au (ao K) (pv 2) ai (λ_ _=>rfl)) (ae (pv 3) ag)))))))
  (aj (cq (aV zS (pv 5) pK (a_ _))
   (av (aL pK))
   bG)
  (av (aL (bq (ae (pv 1) (ae (au (ao K) (pv 5) ai (λ_ _=>rfl)) (ae (au (ao K) (pv 5) ai (λ_ _=>rfl)) ag))))))))),?_⟩
  have big:(10000:Nat)<=sizeLine:=by decide
  have hB:b ^ ss.length<=256:=oZ hb4 hs4
  refine⟨_,rfl,_,rfl,_,ss.length,rfl,.inr ⟨_,.of o_,by rw[AA]⟩,b,ss.length,rfl,hb4,hs4,λD0 ps0 H1 yA s1 e1 t1=>?_⟩
  refine⟨_,b ^ ss.length,rfl,.inl ⟨_,.of e1,by rw[AA,Ag t1,kQ]⟩,?_⟩
  dsimp only[aD]
  have Yp:=s1 _ _ eg
  refine⟨_,rfl,g,_,_,v0,rfl,rfl,.of Yp,ak (j:=0) rfl,_,rfl,_,rfl,g,_,_,.ref f1,rfl,rfl,.of Yp,ak (j:=1) rfl,_,rfl,g,_,_,.ref f2,rfl,rfl,.of Yp,ak (j:=2) rfl,_,rfl,?_⟩
  have hD1:∀a∈D,∃φ,H1 a=some (.ext φ):=λa ha=>let ⟨φ,e⟩:=hD a ha;⟨φ,s1 _ _ e⟩
  refine⟨D,hD1,λbase' W=>?_⟩
  have F1':=(F1.same λb φ _ e=>s1 _ _ e) base' W.b
  have F2':=(F2.same λb φ _ e=>s1 _ _ e) base' W.b
  refine⟨_,zh (k:=k) T R F1' F2' vZ Pq,?_⟩
  have ktu:bj H1 (dA D H1):=λb xs z=>ky hD1 z (λ_ y=>nomatch y)
  refine⟨x0,v0,most,rfl,R.same (R.same r0 s1.kt) ktu,ok0,evU D H1 hD1 (Pq _ _ T6 s1),hbm,by omega,λxs H2 s2 nd rc lt n2=>?_,λxs mv vs p Rr ya va ps H2 s2 hRr hl hlm gr ep _ _ ey ev tp n2=>?_⟩
  ·have gU:=s1.trans (yu s2)
   generalize nz D H1 H2=H3 at gU ⊢
   dsimp only[aD]
   refine⟨_,rfl,rfl,_,rfl,?_⟩
   exact bJ (λ_=>q0 xs H3 gU nd rc lt) (λz=>absurd rfl z)
  have s3:=yu s2
  have o2:∀{b:Addr} {o:HO},H2 b=some o->nz D H1 H2 b=some o:=λ{b o} e=>by
   rw[gN λz=>?_]
   ·exact e
   ·rw[n2 b z] at e;cases e
  have Yq:=o2 ep
  have ey3:=o2 ey
  have uo:=o2 ev
  have PD:=tp.keep (show bj H2 (nz D H1 H2) from λb xs z=>o2 z)
  have gU:=s1.trans s3
  generalize nz D H1 H2=H3 at s3 Yq ey3 uo PD gU ⊢
  dsimp only[aD]
  refine⟨_,rfl,rfl,_,rfl,?_⟩
  refine bJ (λz=>absurd z (by simp)) (λ_=>?_)
  refine⟨_,rfl,_,rfl,p,_,_,.ref ya,rfl,rfl,.of Yq,ak (j:=1) rfl,_,rfl,p,_,_,.ref va,rfl,rfl,.of Yq,ak (j:=2) rfl,by show 3<=sizeLine;decide,λm hm=>?_⟩
  have sm:=Same.new (o:=.tup [.ref nm,.ref ya,.ref va]) hm
  exact q xs mv m _ (gU.trans sm) hl hlm gr ⟨ya,va,ps,af,sm _ _ ey3,sm _ _ uo,PD.keep sm.kt⟩
def aY(l:List Nat):Str:=⟨(l.map (97+ ·)).toArray⟩
def pA:Str:="abcdefghijklmnopqrstuvwxyz"
theorem Jy:pA.length<=sizeLine:=by
 have:pA.length=26:=by decide+kernel
 rw[this];decide
theorem V7:∀c,c<26->Fy pA ⟨#[97+c]⟩ 0 pA.length 1=[c]:=by decide+kernel
theorem PF:∀c,c<26->pA.cps.toList[c]? =some (97+c):=by decide+kernel
theorem nW(a b:List Nat):aY a++aY b=aY (a++b):=by
 show(⟨_⟩:Str)=⟨_⟩
 simp[aY]
theorem iI(l:List Nat):(aY l).length=l.length:=by
 show(l.map (97+ ·)).toArray.size=_
 rw[Ai,AA]
theorem PH{a b:List Nat}(h:aY a=aY b):a=b:=by
 have h1:(a.map (97+ ·)).toArray=(b.map (97+ ·)).toArray:=congrArg Str.cps h
 have h2:a.map (97+ ·)=b.map (97+ ·):=congrArg HX h1
 exact(List.map_inj_right (λx y z=>by omega)).mp h2
theorem KY{l:List Nat}(h:∀c∈l,c<26):(aY l).cps.all (· <128)=true:=by
 unfold aY
 rw[List.all_toArray,Hd,Fs]
 intro c hc
 exact decide_eq_true (by have:=h c hc;show 97+c<128;omega)
theorem nX(l:List Nat):rZ (aY l)=aY l.reverse:=by
 show(⟨_⟩:Str)=⟨_⟩
 simp[aY]
theorem PJ{l:List Nat}{i x:Nat}(h:(aY l).cps[i]? =some x):∃c,l[i]? =some c/\x=97+c:=by
 have h1:(l.map (97+ ·))[i]? =some x:=by
  rw[<-h]
  show _=(l.map (97+ ·)).toArray[i]?
  rw[DI]
 rw[AU] at h1
 obtain⟨c,hc,e⟩:=Bf.mp h1
 exact⟨c,hc,e.symm⟩
def dE:List Nat->List Nat×Nat
 | []=>([],1)
 | c::cs=>(((c+(dE cs).2) % 26)::(dE cs).1,(c+(dE cs).2) / 26)
theorem o3:∀l,(dE l).1.length=l.length
 | []=>rfl
 | c::cs=>by rw[dE,A2,A2,o3 cs]
theorem qN:∀{l},(∀c∈l,c<26)->(dE l).2<=1
 | [],_=>AM _
 | c::cs,h=>by
  have h1:=qN (l:=cs) λx hx=>h x (AJ _ hx)
  have h2:=h c AL
  show(c+(dE cs).2) / 26<=1
  omega
theorem Jz:∀{l},(∀c∈l,c<26)->∀c∈(dE l).1,c<26
 | [],_,c,hc=>by cases hc
 | c::cs,h,x,hx=>by
  rcases Ae.mp (show x∈((c+(dE cs).2) % 26)::(dE cs).1 from hx) with e | e
  ·omega
  ·exact Jz (l:=cs) (λy hy=>h y (AJ _ hy)) x e
def tf(l:List Nat):List Nat:=((dE l).1++Bm (dE l).2 0).take 3
structure lh (l:List Nat):Prop where
 ne:0<l.length
 le:l.length<=3
 lt:∀c∈l,c<26
def rk:List Nat->Nat
 | [a]=>a
 | [a,b]=>26+26*a+b
 | [a,b,c]=>702+676*a+26*b+c
 | _=>0
theorem lh.cases{l:List Nat}(h:lh l):(∃a,l=[a]/\a<26)∨(∃a b,l=[a,b]/\a<26/\b<26)∨∃a b c,l=[a,b,c]/\a<26/\b<26/\c<26:=by
 have h1:=h.ne
 have h2:=h.le
 have h3:=h.lt
 match l,h1,h2,h3 with
 | [a],_,_,h3=>exact .inl ⟨a,rfl,h3 a (by simp)⟩
 | [a,b],_,_,h3=>exact .inr (.inl ⟨a,b,rfl,h3 a (by simp),h3 b (by simp)⟩)
 | [a,b,c],_,_,h3=>exact .inr (.inr ⟨a,b,c,rfl,h3 a (by simp),h3 b (by simp),h3 c (by simp)⟩)
 | _::_::_::_::_,_,h2,_=>simp at h2
theorem Yr{l:List Nat}(h:lh l):rk (tf l) % 17576=(rk l+1) % 17576:=by
 rcases h.cases with⟨a,rfl,ha⟩ | ⟨a,b,rfl,ha,hb⟩ | ⟨a,b,c,rfl,ha,hb,hc⟩
 ·have e:(a+1) / 26=0∨(a+1) / 26=1:=by omega
  have E:tf [a]=([(a+1) % 26]++Bm ((a+1) / 26) 0).take 3:=rfl
  rcases e with e | e<;>rw[E,e]
  ·show((a+1) % 26) % 17576=(a+1) % 17576
   omega
  ·show(26+26*((a+1) % 26)+0) % 17576=(a+1) % 17576
   omega
 ·have e:(a+(b+1) / 26) / 26=0∨(a+(b+1) / 26) / 26=1:=by omega
  have E:tf [a,b]=([(a+(b+1) / 26) % 26,(b+1) % 26]++Bm ((a+(b+1) / 26) / 26) 0).take 3:=rfl
  rcases e with e | e<;>rw[E,e]
  ·show(26+26*((a+(b+1) / 26) % 26)+(b+1) % 26) % 17576=(26+26*a+b+1) % 17576
   omega
  ·show(702+676*((a+(b+1) / 26) % 26)+26*((b+1) % 26)+0) % 17576=(26+26*a+b+1) % 17576
   omega
 ·have e:(a+(b+(c+1) / 26) / 26) / 26=0∨(a+(b+(c+1) / 26) / 26) / 26=1:=by omega
  have E:tf [a,b,c]=([(a+(b+(c+1) / 26) / 26) % 26,(b+(c+1) / 26) % 26,(c+1) % 26]++Bm ((a+(b+(c+1) / 26) / 26) / 26) 0).take 3:=rfl
  have G:rk [(a+(b+(c+1) / 26) / 26) % 26,(b+(c+1) / 26) % 26,(c+1) % 26] % 17576=(702+676*a+26*b+c+1) % 17576:=by
   show(702+676*((a+(b+(c+1) / 26) / 26) % 26)+26*((b+(c+1) / 26) % 26)+(c+1) % 26) % 17576=_
   omega
  rcases e with e | e<;>rw[E,e]<;>exact G
theorem Se{l:List Nat}(h:lh l):lh (tf l):=by
 have h1:=o3 l
 have h0:=h.ne
 refine⟨?_,?_,λc hc=>?_⟩
 ·rw[tf,Ao,AK,h1];omega
 ·rw[tf,Ao];omega
 ·rcases Ac.mp (Cv hc) with z | z
  ·exact Jz h.lt c z
  ·rw[(List.mem_replicate.mp z).2];decide
theorem Ys(l:List Nat)(h0:0<l.length)(h:l.length<=4):Txt.slice (aY l) none (some 3)=aY (l.take 3):=by
 match l,h0,h with
 | [a],_,_=>with_unfolding_all rfl
 | [a,b],_,_=>with_unfolding_all rfl
 | [a,b,c],_,_=>with_unfolding_all rfl
 | [a,b,c,d],_,_=>with_unfolding_all rfl
theorem M1(n:Nat)(h:n<=1):Txt.mul "a" (n:Int)=aY (Bm n 0):=by
 match n,h with
 | 0,_=>with_unfolding_all rfl
 | 1,_=>with_unfolding_all rfl
theorem Yu(l:List Nat)(h:l.length<=3):Txt.join "" (l.map λc=>aY [c])=aY l:=by
 match l,h with
 | [],_=>with_unfolding_all rfl
 | [a],_=>with_unfolding_all rfl
 | [a,b],_=>with_unfolding_all rfl
 | [a,b,c],_=>with_unfolding_all rfl
 | _::_::_::_::_,h=>simp at h
inductive Sf (vs:List V)(H:Hp)(Q:VK)(aJ:XK):Prop where
 | mk (l:List Nat) (cG:vs=[.str (aY l)]) (cD:lh l) (cE:Q (.str (aY (tf l))) H)
def V8:Sp:=λvs H Q aJ=>Sf vs H Q aJ
theorem fL:aP ["_law_word","_law_letters","_law_found","_law_more","_law_sign_here","_law_number"] ["_law_word"] (ah jG):=⟨rfl,rfl,rfl,by decide+kernel,rfl,by decide+kernel,by decide+kernel⟩
theorem M3{a:bh}(T:Txt K mg a):aO P w K mg base aW 1 a.oQ a.qC ["_law_word"] V8:=by
 refine T.OV.ok fL (λvs H Q E h=>?_) (λcdv A outer s H vs Q E hr h=>?_)
 ·obtain⟨l,rfl,_⟩:=h
  rfl
 ·obtain⟨l,rfl,hw,k⟩:=h
  refine⟨_,(aj (aw (i:=1) fL.nd rfl (Ab rfl) aX)
  (aj (aw (i:=2) fL.nd rfl (Ab rfl) aX)
  (aj (aw (i:=3) fL.nd rfl (Ab rfl) ai)
  (aj (cK Aw rfl (XE (VI (pv 0) fu fu (ie (zx vt ai)))) (aF (i:=4) fL.nd rfl (Ab rfl))
   (aj (aw (i:=5) fL.nd rfl (Ab rfl) (aI de (fV EM GI PySem.F.type_str_index Rz (pv 1) (ae (pv 4) ag)) (pv 3)))
   (aj (aw (i:=2) fL.nd rfl (Ab rfl) (aI vz (au NV (pv 1) (aI cU (pv 5) ai) (λ_ _=>rfl)) (pv 2)))
   (av (aw (i:=3) fL.nd rfl (Ab rfl) (aI gK (pv 5) ai))))))
  (av (aL (iy Xp (aI vz (pv 2) (aI VJ aX (pv 3))) fu (ie ai)))))))),?_⟩
  have lw:=iI l
  have le3:=hw.le
  have big:(100:Nat)<=sizeLine:=by decide
  dsimp only[qh,rQ,tC,aD]
  refine⟨_,rfl,_,rfl,_,rfl,aY l,rfl,rfl,rfl,rfl,by omega,rZ (aY l),rfl,?asc,VH (λi σ H'=>∃v4 v5:Option V,σ=[some (.str (aY l)),some (.str pA),some (.str (aY (dE (l.drop (l.length-i))).1)),some (.int ((dE (l.drop (l.length-i))).2:Nat)),v4,v5]/\H'=H)
   ⟨none,none,?st,rfl⟩ ?_ ?_⟩
  case asc=>rw[nX];exact KY λc hc=>hw.lt c (DW.mp hc)
  case st=>rw[Hl,List.drop_length];rfl
  ·rintro i x σ H1 hx ⟨v4,v5,rfl,rfl⟩
   rw[nX] at hx
   obtain⟨c,hc,rfl⟩:=PJ hx
   have hi:i<l.length:=by have:=(AF.mp hc).1;rwa [B_] at this
   rw[DJ hi] at hc
   have aeC:=hw.lt c (AG hc)
   have ed:l.drop (l.length-(i+1))=c::l.drop (l.length-i):=by
    have h1:l.length-(i+1)=l.length-1-i:=by omega
    have h2:l.length-i=l.length-1-i+1:=by omega
    rw[h1,h2]
    exact List.drop_eq_getElem?_toList_append.trans (by rw[hc];rfl)
   have hm:=qN (l:=l.drop (l.length-i)) λx hx=>hw.lt x (List.mem_of_mem_drop hx)
   have hlen:=o3 (l.drop (l.length-i))
   rw[EW] at hlen
   have ea:dE (c::l.drop (l.length-i))=(((c+(dE (l.drop (l.length-i))).2) % 26)::(dE (l.drop (l.length-i))).1,(c+(dE (l.drop (l.length-i))).2) / 26):=rfl
   rw[ed,ea]
   generalize dE (l.drop (l.length-i))=g at hm hlen ⊢
   have eN:((c:Int)+(g.2:Int)) % 26=(((c+g.2) % 26:Nat):Int):=by rw[DY,Cq];rfl
   have eD:((c:Int)+(g.2:Int)) / 26=(((c+g.2) / 26:Nat):Int):=by rw[CG,Cq];rfl
   refine⟨_,rfl,rfl,_,rfl,pA,⟨#[97+c]⟩,c,[],rfl,rfl,V7 c aeC,_,rfl,_,_,rfl,rfl,?_⟩
   refine⟨_,rfl,_,rfl,_,_,rfl,rfl,cpos (by decide),pA,_,97+(c+g.2) % 26,rfl,rfl,Jy,by rw[eN];exact ak (PF _ (CV _ (by decide))),_,rfl,_,_,rfl,rfl,?len,_,rfl,_,_,rfl,rfl,⟨by decide,by decide⟩,?_⟩
   case len=>
    have e1:Str.length (⟨#[97+(c+g.2) % 26]⟩:Str)=1:=rfl
    rw[e1,iI]
    omega
   refine⟨some (.str ⟨#[97+c]⟩),some (.int ((c:Int)+(g.2:Int))),?_,rfl⟩
   show[some (V.str (aY l)),some (V.str pA),some (V.str ((⟨#[97+(c+g.2) % 26]⟩:Str)++aY g.1)),some (V.int (((c:Int)+(g.2:Int)) / 26)),some (V.str ⟨#[97+c]⟩),some (V.int ((c:Int)+(g.2:Int)))]=_
   have e2:(⟨#[97+(c+g.2) % 26]⟩:Str)++aY g.1=aY (((c+g.2) % 26)::g.1):=nW [(c+g.2) % 26] g.1
   rw[e2,eD]
  ·rintro σ H1 ⟨v4,v5,rfl,rfl⟩
   have es:(rZ (aY l)).cps.size=l.length:=by
    rw[nX]
    exact(iI _).trans B_
   rw[es,B9,FJ]
   have hm:=qN hw.lt
   have hlen:=o3 l
   have h0:=hw.ne
   have ef:tf l=((dE l).1++Bm (dE l).2 0).take 3:=rfl
   rw[ef] at k
   generalize dE l=g at hm hlen k ⊢
   refine⟨_,rfl,_,rfl,"a",(g.2:Int),rfl,rfl,by omega,by omega,(by show 1<=1000;decide),_,_,rfl,rfl,?len,_,rfl,_,rfl,?len2,?_⟩
   case len=>
    rw[M1 _ hm,iI,iI,Cg]
    omega
   case len2=>
    rw[M1 _ hm,nW,iI,AK,Cg]
    omega
   rw[M1 _ hm,nW,Ys _ (by rw[AK];omega) (by rw[AK,Cg];omega)]
   exact k
theorem LJ(l:List Str):(l.map V.str).all jT=true:=by rw[Hd];exact Fs.mpr λ_ _=>rfl
theorem bK.jJ{H:Hp}{F L N:Addr}(h:bK H F L)(e:H N=none):N≠F/\N≠L:=by
 obtain⟨ms,n,sd,a,b,_⟩:=h.ex
 exact⟨(aA a e).symm,(aA b e).symm⟩
theorem bK.lo{H H':Hp}{F L N:Addr}(h:bK H' F L)(k:cy F L H H')(e:H' N=none):H N=none:=by
 obtain⟨n1,n2⟩:=h.jJ e
 cases z:H N with
 | none=>rfl
 | some o=>have:=k N o z n1 n2;rw[e] at this;cases this
theorem bK.upd{H:Hp}{F L N:Addr}{o:HO}(h:bK H F L)(n:N≠F/\N≠L):bK (upd H N o) F L:=by
 obtain⟨ms,m,sd,a,b,c⟩:=h.ex
 exact⟨ms,m,sd,by rw[aB n.1.symm];exact a,by rw[aB n.2.symm];exact b,c⟩
theorem cy.qO{H H':Hp}{F L N:Addr}{o:HO}(k:cy F L H H')(e:H N=none):cy F L H (upd H' N o):=λb p h n m=>by
 rw[aB (aA h e)]
 exact k b p h n m
theorem Yv{T:(Bool->Hp->Prop)->Prop}{Qf:Bool->Hp->Prop}{c:Bool}(S:Hp->Prop)(h:∀Qc:Bool->Hp->Prop,(∀H',S H'->Qc c H')->T Qc)(x:∀H',S H'->Qf c H'):T Qf:=h Qf x
def kT:List Str:=["and","not","or"]
structure p8 (ss:List Str):Prop where
 once:ss.Nodup
 words:∀s∈ss,∃l,lh l/\s=aY l
 no:∀s∈ss,s ∉ kT
theorem p8.perm{ss rs:List Str}(h:p8 ss)(p:rs.Perm ss):p8 rs:=⟨p.nodup_iff.mpr h.once,λs hs=>h.words s (p.mem_iff.mp hs),λs hs=>h.no s (p.mem_iff.mp hs)⟩
structure Met (B:List Str)(l:List Nat)(vis:List Str):Prop where
 once:vis.Nodup
 sub:∀v∈vis,v∈B
 ex:∃r0,rk l % 17576=(r0+vis.length) % 17576/\∀(j:Nat) (v:Str),vis[j]? =some v->∃l',v=aY l'/\rk l' % 17576=(r0+j) % 17576
theorem Met.step{B:List Str}{l:List Nat}{vis:List Str}(h:Met B l vis)(hw:lh l)(hB:B.length<=20)(hl:aY l∈B):Met B (tf l) (vis++[aY l]):=by
 obtain⟨r0,h1,h2⟩:=h.ex
 have len:=lC h.once h.sub
 have fresh:aY l ∉ vis:=λz=>by
  obtain⟨j,hj⟩:=BR z
  obtain⟨l',e,e2⟩:=h2 j _ hj
  rw[<-PH e,h1] at e2
  have:=(AF.mp hj).1
  omega
 refine⟨?_,λv hv=>?_,r0,?_,λj v hj=>?_⟩
 ·rw[CS]
  exact⟨h.once,by simp,λa ha b hb e=>fresh (by rw[<-AW.mp hb,<-e];exact ha)⟩
 ·rcases Ac.mp hv with z | z
  ·exact h.sub v z
  ·rw[AW.mp z];exact hl
 ·rw[Yr hw,AK]
  show(rk l+1) % 17576=(r0+(vis.length+1)) % 17576
  omega
 ·by_cases lt:j<vis.length
  ·rw[Ax lt] at hj
   exact h2 j v hj
  ·have hl2:=(AF.mp hj).1
   rw[AK] at hl2
   have hl3:j<vis.length+1:=hl2
   have e:j=vis.length:=by omega
   subst e
   rw[Aq (AM _),B9] at hj
   have e2:aY l=v:=AS hj
   exact⟨l,e2.symm,h1⟩
inductive Sg (vs:List V)(H:Hp)(Q:VK)(aJ:XK):Prop where
 | mk (F L:Addr) (m:Nat) (cG:vs=[.ref F,.int m]) (cD:bK H F L) (cE:m<=6) (dc:∀(D:Addr) (ss:List Str) (H':Hp),H D=none->cy F L H H'->bK H' F L->H' D=some (.tup (ss.map V.str))->ss.length=m->p8 ss->B4 ss=true->Q (.ref D) H')
def V9:Sp:=λvs H Q aJ=>Sg vs H Q aJ
theorem iX:aP ["_law_feed_here","_law_many","_law_found","_law_k","_law_signs","_law_word"] ["_law_feed_here","_law_many"] (ah gB):=⟨rfl,rfl,rfl,by decide+kernel,rfl,by decide+kernel,by decide+kernel⟩
theorem wa{a:bh}(T:Txt K mg a):aO P w K mg base aW 2 a.oR a.qD ["_law_feed_here","_law_many"] V9:=by
 have bb:=iG (P:=P) (w:=w) (base:=base) T
 have PK:=M3 (P:=P) (w:=w) (base:=base) T
 refine T.OZ.ok iX (λvs H Q E h=>?_) (λcdv A outer s H vs Q E hr h=>?_)
 ·obtain⟨F,L,m,rfl,_⟩:=h
  rfl
 ·obtain⟨F,L,m,rfl,hf,hm,k⟩:=h
  have aS:aK 1 _:=hr
  have M4:aK 1 _:=hr
  refine⟨_,(aj (aw (i:=2) iX.nd rfl (Ab rfl) (df ag))
  (aj (cK Aw rfl (dm rfl T.eP (ae (pv 1) ag)) (aF (i:=3) iX.nd rfl (Ab rfl))
   (aj (iO (i:=4) (aN.mk' (esc:=ah gB) (N:=["_law_feed_here","_law_many","_law_found","_law_k","_law_signs","_law_word"]) (own:=["_law_sign_here"]) (aR:=["_law_feed_here"]) (bS:=[0]) rfl rfl (by decide+kernel)) rfl (dm rfl T.eP (ae (aI de ai (aq bb aS rfl T.bB T.bC T.bD .nil az (ae (pv 0) (ae ai ag)))) ag)) (λ_ _ _ _=>(aF (i:=0) (show A4 (["_law_sign_here","_law_feed_here"]:List Str) by decide+kernel) rfl (Ab rfl))) (λ_ _ _ _=>bz) (λ_ _ _ _=>(aq bb aS rfl T.bB T.bC T.bD .nil az (ae (pv 1) (ae ai ag)))) iX.nd rfl rfl)
   (aj (aw (i:=5) iX.nd rfl (Ab rfl) (fV EM PySem.F.slot_str_join PySem.F.type_str_join (Rg K) aX (ae (bU (aN.mk' (esc:=ah gB) (N:=["_law_feed_here","_law_many","_law_found","_law_k","_law_signs","_law_word"]) (own:=["_law_sign_here"]) (aR:=[]) (bS:=[]) rfl rfl (by decide+kernel)) rfl (dH (pv 4)) (λ_ _ _ _=>(aF (i:=0) (show A4 (["_law_sign_here"]:List Str) by decide+kernel) rfl (Ab rfl))) (λ_ _ _ _=>bz) (λ_ _ _ _=>(au NV aX (pv 0) (λ_ _=>rfl)))) ag)))
   (aj (iw Aw (PW.pt (Mf (aV (pQ K) (pv 5) (pv 2) (by with_unfolding_all rfl)) (zM (aV (pQ K) (pv 5) (bq (ae aX (ae aX (ae aX ag)))) (by with_unfolding_all rfl)))))
    (av (aw (i:=5) iX.nd rfl (Ab rfl) (aq PK M4 rfl T.OW T.OX T.OY .nil az (ae (pv 5) ag)))))
   (av (dX (fV Az BC BD dq (pv 2) (ae (pv 5) ag))))))))
  (av (aL (bw (cz K) (by rfl) T.eQ dI (ae (bo (KI K) (by rfl) T.uW rW (ae (pv 2) ag)) ag)))))),?_⟩
  have p3:(3:Nat)<2 ^ 1000:=AX (show 3<2 ^ 2 by decide) (A0 (by decide) (by decide))
  have p26:(26:Nat)<2 ^ 1000:=AX (show 26<2 ^ 6 by decide) (A0 (by decide) (by decide))
  have big:(100:Nat)<=sizeLine:=by decide
  refine⟨by decide,λN hN=>?_⟩
  have nN:=hf.jJ hN
  refine⟨_,rfl,_,rfl,by omega,by omega,lA (n:=(m:Int).toNat) (λi σ H'=>∃(fs:List Str) (v3 v4 v5:Option V),σ=[some (.ref F),some (.int (m:Nat)),some (.ref N),v3,v4,v5]/\cy F L H H'/\bK H' F L/\H' N=some (.lst (fs.map V.str))/\fs.length=i/\p8 fs)
   ⟨[],none,none,none,rfl,(Same.new hN).kb2,hf.same (Same.new hN),af,rfl,⟨Gy,λs hs=>(by cases hs),λs hs=>(by cases hs)⟩⟩ ?_ ?_⟩
  ·rintro i σ H1 hi ⟨fs,v3,v4,v5,rfl,k1,f1,n1,lf,ok⟩
   rw[Au] at hi
   refine⟨_,rfl,F,L,3,rfl,f1,by decide,p3,λt H2 t1 k2 f2=>⟨_,_,rfl,rfl,_,rfl,by omega,by omega,λC hC=>?_⟩⟩
   have n2:=k2 _ _ n1 nN.1 nN.2
   have nC:=f2.jJ hC
   have nNC:N≠C:=aA n2 hC
   refine jV (λj σ H'=>∃(rs:List Nat) (v:Option V),σ=[v,some (.ref F)]/\cy F L H2 H'/\bK H' F L/\H' C=some (.lst (rs.map λr=>V.int (r:Nat)))/\rs.length=j/\∀r∈rs,r<26)
    ⟨[],none,rfl,(Same.new hC).kb2,f2.same (Same.new hC),af,rfl,λr hr=>(by cases hr)⟩ ?_ ?_
   ·rintro j σ H3 hj ⟨rs,v,rfl,k3,f3,c3,lr,hrs⟩
    refine⟨_,rfl,F,L,26,rfl,f3,by decide,p26,λr H4 r1 k4 f4=>?_⟩
    have c4:=k4 _ _ c3 nC.1 nC.2
    refine⟨_,c4,?_,rs++[r],_,rfl,cy.qO (k3.trans k4) hC,f4.upd nC,?_,?_,λx hx=>?_⟩
    ·rw[AA];omega
    ·rw[af,AI];rfl
    ·rw[AK,lr];rfl
    ·rcases Ac.mp hx with z | z
     ·exact hrs x z
     ·rw[AW.mp z];exact r1
   rintro σ H3 ⟨rs,v,rfl,k3,f3,c3,lr,hrs⟩
   have n3:=k3 _ _ n2 nN.1 nN.2
   have lr':rs.length=t+1:=by omega
   dsimp only[aD]
   refine⟨rfl,_,rfl,C,rfl,⟨_,.of c3⟩,λD hD=>?_⟩
   refine gA (xs:=rs.map λr=>V.int (r:Nat)) (λj σ H'=>∃(v:Option V),σ=[v]/\Same H3 H'/\H' D=some (.lst (((rs.take j).map λc=>aY [c]).map V.str)))
    ⟨none,?sg,Same.new hD,af⟩ (by rintro j σ H' _ ⟨_,_,s,_⟩;exact .of (s _ _ c3)) ?_ ?_
   case sg=>rfl
   ·rintro j y σ H4 hy ⟨v,rfl,s4,e4⟩
    rw[AU] at hy
    obtain⟨r,er,rfl⟩:=Bf.mp hy
    have hj:j<rs.length:=(AF.mp er).1
    refine⟨_,rfl,pA,_,97+r,rfl,rfl,Jy,ak (PF r (hrs r (AG er))),_,e4,?_,_,rfl,s4.kbn hD KB.write,?_⟩
    ·rw[AA,AA,Ao];omega
    ·rw[af,take_snoc er,AI,AI];rfl
   rintro σ H4 ⟨v,rfl,s4,e4⟩
   rw[AA,Ap] at e4
   refine⟨"",D,rs.map λc=>aY [c],rfl,rfl,.of e4,?jl,λz hz hze=>?_⟩
   case jl=>
    have e0:(Str.length ("":Str))=0:=rfl
    have e1:((rs.map λc=>aY [c]).map (·.length)).sum=rs.length:=by
     rw[BL]
     have:(λc=>(aY [c]).length)=λ_=>1:=funext λc=>iI [c]
     show(rs.map λc=>(aY [c]).length).sum=_
     rw[this,GX]
     induction rs.length with
     | zero=>rfl
     | succ n ih=>rw[List.replicate_succ,By,ih];omega
    rw[e0,e1];omega
   rw[Yu rs (by omega)] at hze
   subst hze
   have wd:lh rs:=⟨by omega,by omega,hrs⟩
   have n4:=s4 _ _ n3
   have k4:cy F L H H4:=((k1.trans k2).trans k3).trans s4.kb2
   have f4:=f3.same s4
   dsimp only[aD]
   refine xk (λmm σ H'=>∃(l:List Nat) (vis:List Str),mm=50-vis.length/\σ=[some (.ref F),some (.int (m:Nat)),some (.ref N),some (.int (0+(i:Int))),some (.ref C),some (.str (aY l))]/\Same H4 H'/\lh l/\Met (fs++kT) l vis)
    ⟨_,rs,[],rfl,rfl,.refl _,wd,Gy,λv hv=>(by cases hv),rk rs,rfl,λj v hj=>(by simp at hj)⟩ ?_ ?_
   ·rintro mm σ H5 ⟨l,vis,rfl,rfl,s5,hw,met⟩
    have n5:=s5 _ _ n4
    refine Yv (c:=decide (aY l∈fs++kT)) (Same H5) (λQc hq=>?_) (λH6 s6=>?_)
    ·refine⟨_,rfl,_,rfl,N,_,rfl,.inl (.of n5),rfl,LJ fs,_,rfl,?_⟩
     rw[if_neg An,ku]
     refine bJ (λz=>?_) (λz=>?_)
     ·have z':aY l∈fs:=of_decide_eq_true z
      have:=hq H5 (.refl _)
      rwa [decide_eq_true (Ac.mpr (.inl z'))] at this
     ·have z':aY l ∉ fs:=λy=>z (decide_eq_true y)
      refine⟨_,rfl,by show 3<=sizeLine;decide,λZ hZ=>⟨Z,_,rfl,.inr (.of af),rfl,rfl,_,rfl,?_⟩⟩
      have:=hq _ (Same.new (o:=.tup [.str "and",.str "not",.str "or"]) hZ)
      have ee:decide (aY l∈fs++kT)=(if false=true then !inV (V.str (aY l)) [.str "and",.str "not",.str "or"] else inV (V.str (aY l)) [.str "and",.str "not",.str "or"]):=by
       rw[if_neg (by decide),show([.str "and",.str "not",.str "or"]:List V)=kT.map V.str from rfl,ku]
       exact decide_eq_decide.mpr ⟨λy=>(Ac.mp y).resolve_left z',λy=>Ac.mpr (.inr y)⟩
      rw[ee] at this
      exact this
    ·refine bJ (λz=>?_) (λz=>?_)
     ·have z':=of_decide_eq_true z
      have lB:(fs++kT).length<=20:=by rw[AK];show fs.length+3<=20;omega
      have aeD:=met.step hw lB z'
      have lv:=lC met.once met.sub
      refine⟨_,rfl,l,rfl,hw,50-(vis++[aY l]).length,?_,tf l,vis++[aY l],rfl,rfl,s5.trans s6,Se hw,aeD⟩
      rw[AK]
      show 50-(vis.length+1)<_
      omega
     ·have z':aY l ∉ fs++kT:=λy=>z (decide_eq_true y)
      have n6:=s6 _ _ n5
      refine⟨_,rfl,.inl ⟨rfl,_,.of n6⟩,_,rfl,N,_,_,rfl,rfl,n6,?_,fs++[aY l],_,_,_,rfl,?_,?_,?_,?_,?_⟩
      ·rw[AA];omega
      ·exact cy.qO (k4.trans (s5.trans s6).kb2) hN
      ·exact(f4.same (s5.trans s6)).upd nN
      ·rw[af,AI];rfl
      ·rw[AK,lf];rfl
      ·refine⟨?_,λs hs=>?_,λs hs=>?_⟩
       ·rw[CS]
        exact⟨ok.once,by simp,λa ha b hb e=>z' (Ac.mpr (.inl (by rw[<-AW.mp hb,<-e];exact ha)))⟩
       ·rcases Ac.mp hs with y | y
        ·exact ok.words s y
        ·exact⟨l,hw,AW.mp y⟩
       ·rcases Ac.mp hs with y | y
        ·exact ok.no s y
        ·rw[AW.mp y];exact λx=>z' (Ac.mpr (.inr x))
   ·rintro σ H Q Q' hQ ⟨v,e1,v2,e2,a,xs,e3,e4,e5,e6,b,e7,q⟩
    refine⟨v,e1,v2,e2,a,xs,e3,e4,e5,e6,b,e7,?_⟩
    revert q
    cases b with
    | true=>exact λq=>hQ _ _ q
    | false=>
     rintro⟨v,e1,z,q⟩
     refine⟨v,e1,z,λp hp=>?_⟩
     obtain⟨a,xs,e3,e4,e5,e6,b,e7,q⟩:=q p hp
     exact⟨a,xs,e3,e4,e5,e6,b,e7,hQ _ _ q⟩
  ·rintro σ H1 ⟨fs,v3,v4,v5,rfl,k1,f1,n1,lf,ok⟩
   rw[Au] at lf
   refine⟨_,rfl,N,fs,rfl,.of n1,by omega,λp ss hp perm LK=>?_⟩
   have sp:=Same.new (o:=.lst (ss.map V.str)) hp
   refine⟨p,_,rfl,.inl ⟨.of af,λD hD=>?_⟩⟩
   have sD:=Same.new (o:=.tup (ss.map V.str)) hD
   have kk:=k1.trans sp.kb2
   have ff:=f1.same sp
   exact k D ss _ (ff.lo kk hD) (kk.trans sD.kb2) (ff.same sD) af (by rw[perm.length_eq,lf]) (ok.perm perm) LK
structure Term where
 num:Int
 parts:List (Str×Int)
def n_(p:Str×Int):Dt:=.tup [.str p.1,.int p.2]
def Term.dt(t:Term):Dt:=.tup [.int t.num,.tup (t.parts.map n_)]
inductive ay where
 | same (t u:Term) | less (t u:Term) | sign (a:Str) (t:Term) (s:Int) | alike (a:Str) (t:Term) (b:Str) (u:Term)
 | no (f:ay) | and (f g:ay) | or (f g:ay) | some (n:Str) (f:ay) | each (n:Str) (f:ay)
def ay.dt:ay->Dt
 | .same t u=>.tup [.str "same",t.dt,u.dt]
 | .less t u=>.tup [.str "less",t.dt,u.dt]
 | .sign a t s=>.tup [.str "sign",.str a,t.dt,.int s]
 | .alike a t b u=>.tup [.str "alike",.str a,t.dt,.str b,u.dt]
 | .no f=>.tup [.str "not",f.dt]
 | .and f g=>.tup [.str "and",f.dt,g.dt]
 | .or f g=>.tup [.str "or",f.dt,g.dt]
 | .some n f=>.tup [.str "some",.str n,f.dt]
 | .each n f=>.tup [.str "each",.str n,f.dt]
def ay.deep:ay->Nat
 | .no f=>f.deep+1
 | .and f g=>max f.deep g.deep+1
 | .or f g=>max f.deep g.deep+1
 | .some _ f=>f.deep+1
 | .each _ f=>f.deep+1
 | _=>0
theorem yC:∀ps:List (Str×Int),Dt.jw (ps.map n_)=true
 | []=>by simp[Dt.jw]
 | p::ps=>by rw[Aj,Dt.jw,yC ps];simp[n_,Dt.ja,Dt.jw]
theorem Term.ja(t:Term):t.dt.ja=true:=by simp[Term.dt,Dt.ja,Dt.jw,yC]
theorem ay.ja(s:ay):s.dt.ja=true:=by
 induction s<;>simp[ay.dt,Dt.ja,Dt.jw,Term.ja, *]
def fq(ss:List Str)(t:Term):Prop:=t.parts.length<=3/\∀q∈t.parts,q.1∈ss
def ay.Over(ss:List Str):ay->Prop
 | .same t u=>fq ss t/\fq ss u
 | .less t u=>fq ss t/\fq ss u
 | .sign _ t _=>fq ss t
 | .alike _ t _ u=>fq ss t/\fq ss u
 | .no f=>f.Over ss
 | .and f g=>f.Over ss/\g.Over ss
 | .or f g=>f.Over ss/\g.Over ss
 | .some _ f=>f.Over ss
 | .each _ f=>f.Over ss
def ay.word:ay->Str
 | .same _ _=>"same" | .less _ _=>"less" | .sign _ _ _=>"sign" | .alike _ _ _ _=>"alike" | .no _=>"not" | .and _ _=>"and" | .or _ _=>"or" | .some _ _=>"some" | .each _ _=>"each"
def ay.inner:ay->List ay
 | .no f=>[f] | .and f g=>[f,g] | .or f g=>[f,g] | .some _ f=>[f] | .each _ f=>[f] | _=>[]
def ay.spots:ay->List Nat
 | .no _=>[1] | .and _ _=>[1,2] | .or _ _=>[1,2] | .some _ _=>[2] | .each _ _=>[2] | _=>[]
structure mD where
 d:Addr
 no:Addr
 an:Addr
 or:Addr
 so:Addr
 ea:Addr
def eU(b:mD):List (Str×Option V):=
 [("not",some (.ref b.no)),("and",some (.ref b.an)),("or",some (.ref b.or)),("some",some (.ref b.so)),("each",some (.ref b.ea)),("same",none),("less",none),("sign",none),("alike",none)]
structure jr (K:AB)(pr:Gw)(mg:Str->Option Value)(b:mD):Prop where
 Yw:mg "PART_SPOTS"=some (.ref b.d)
 Yx:pS K pr b.d (eU b)
 no:∀H,bF K H b.no [.int 1]
 an:∀H,bF K H b.an [.int 1,.int 2]
 or:∀H,bF K H b.or [.int 1,.int 2]
 so:∀H,bF K H b.so [.int 2]
 ea:∀H,bF K H b.ea [.int 2]
theorem jr.spots{K:AB}{pr:Gw}{mg:Str->Option Value}{b:mD}(U:jr K pr mg b)(f:ay)(H:Hp)(e:Addr)(he:bF K H e []):
  ∃r p,(f.word,r)∈eU b/\r.getD (.ref e)=.ref p/\bF K H p (f.spots.map λ(n:Nat)=>V.int (n:Int)):=by
 cases f with
 | same t u=>exact⟨none,e,by simp[eU,ay.word],rfl,he⟩
 | less t u=>exact⟨none,e,by simp[eU,ay.word],rfl,he⟩
 | sign a t s=>exact⟨none,e,by simp[eU,ay.word],rfl,he⟩
 | alike a t c u=>exact⟨none,e,by simp[eU,ay.word],rfl,he⟩
 | no f=>exact⟨some (.ref b.no),b.no,by simp[eU,ay.word],rfl,U.no H⟩
 | and f g=>exact⟨some (.ref b.an),b.an,by simp[eU,ay.word],rfl,U.an H⟩
 | or f g=>exact⟨some (.ref b.or),b.or,by simp[eU,ay.word],rfl,U.or H⟩
 | some n f=>exact⟨some (.ref b.so),b.so,by simp[eU,ay.word],rfl,U.so H⟩
 | each n f=>exact⟨some (.ref b.ea),b.ea,by simp[eU,ay.word],rfl,U.ea H⟩
theorem bu{K:AB}{H:Hp}{xs:List V}{d:Dt}{ds:List Dt}(h:aM K H xs (d::ds)):∃y ys,xs=y::ys/\ax K H y d/\aM K H ys ds:=by
 cases xs with
 | nil=>simp[aM] at h
 | cons y ys=>rw[aM] at h;exact⟨y,ys,rfl,h.1,h.2⟩
theorem jd{K:AB}{H:Hp}{x:V}{ds:List Dt}(h:ax K H x (.tup ds)):∃a xs,x=.ref a/\bF K H a xs/\aM K H xs ds:=by rw[ax] at h;exact h
theorem ay.isTup(f:ay):∃ds,f.dt=.tup (.str f.word::ds):=by
 cases f<;>exact⟨_,rfl⟩
theorem Yy{K:AB}{H:Hp}{x:V}(f:ay)(h:ax K H x f.dt):∃a xs,x=.ref a/\bF K H a xs/\xs[0]? =some (.str f.word)/\
  ∀(i n:Nat),f.spots[i]? =some n->∃y g,xs[n]? =some y/\f.inner[i]? =some g/\ax K H y g.dt:=by
 obtain⟨ds,e⟩:=f.isTup
 have h':=h
 rw[e] at h'
 obtain⟨a,xs,rfl,hq,hd⟩:=jd h'
 obtain⟨y0,ys,rfl,h0,hd1⟩:=bu hd
 clear hd
 refine⟨a,_,rfl,hq,by rw[ax] at h0;rw[h0];rfl,?_⟩
 have one:∀{i n m:Nat},([m]:List Nat)[i]? =some n->i=0/\n=m:=λ{i n m} z=>by
  cases i with
  | zero=>simp at z;exact⟨rfl,z.symm⟩
  | succ i=>simp at z
 have two:∀{i n m k:Nat},([m,k]:List Nat)[i]? =some n->(i=0/\n=m)∨(i=1/\n=k):=λ{i n m k} z=>by
  match i with
  | 0=>simp at z;exact .inl ⟨rfl,z.symm⟩
  | 1=>simp at z;exact .inr ⟨rfl,z.symm⟩
  | i+2=>simp at z
 cases f with
 | same t u=>intro i n z;simp[ay.spots] at z
 | less t u=>intro i n z;simp[ay.spots] at z
 | sign b t s=>intro i n z;simp[ay.spots] at z
 | alike b t c u=>intro i n z;simp[ay.spots] at z
 | no f=>
  cases e
  obtain⟨y1,ys,rfl,h1,_⟩:=bu hd1
  intro i n z
  obtain⟨rfl,rfl⟩:=one z
  exact⟨y1,f,rfl,rfl,h1⟩
 | and f g=>
  cases e
  obtain⟨y1,ys,rfl,h1,hd2⟩:=bu hd1
  obtain⟨y2,ys,rfl,h2,_⟩:=bu hd2
  intro i n z
  rcases two z with⟨rfl,rfl⟩ | ⟨rfl,rfl⟩
  ·exact⟨y1,f,rfl,rfl,h1⟩
  ·exact⟨y2,g,rfl,rfl,h2⟩
 | or f g=>
  cases e
  obtain⟨y1,ys,rfl,h1,hd2⟩:=bu hd1
  obtain⟨y2,ys,rfl,h2,_⟩:=bu hd2
  intro i n z
  rcases two z with⟨rfl,rfl⟩ | ⟨rfl,rfl⟩
  ·exact⟨y1,f,rfl,rfl,h1⟩
  ·exact⟨y2,g,rfl,rfl,h2⟩
 | some m f=>
  cases e
  obtain⟨y1,ys,rfl,h1,hd2⟩:=bu hd1
  obtain⟨y2,ys,rfl,h2,_⟩:=bu hd2
  intro i n z
  obtain⟨rfl,rfl⟩:=one z
  exact⟨y2,f,rfl,rfl,h2⟩
 | each m f=>
  cases e
  obtain⟨y1,ys,rfl,h1,hd2⟩:=bu hd1
  obtain⟨y2,ys,rfl,h2,_⟩:=bu hd2
  intro i n z
  obtain⟨rfl,rfl⟩:=one z
  exact⟨y2,f,rfl,rfl,h2⟩
theorem yD(f:ay):f.spots.length=f.inner.length:=by cases f<;>rfl
theorem je(f:ay):f.inner.length<=2:=by cases f<;>simp[ay.inner]
theorem M5(f g:ay)(h:g∈f.inner):g.deep<f.deep:=by
 cases f with
 | no f=>
  have:g=f:=by simpa[ay.inner] using h
  subst this;simp[ay.deep]
 | and f1 f2=>
  have:g=f1∨g=f2:=by simpa[ay.inner] using h
  rcases this with rfl | rfl<;>simp only[ay.deep]<;>omega
 | or f1 f2=>
  have:g=f1∨g=f2:=by simpa[ay.inner] using h
  rcases this with rfl | rfl<;>simp only[ay.deep]<;>omega
 | some n f=>
  have:g=f:=by simpa[ay.inner] using h
  subst this;simp[ay.deep]
 | each n f=>
  have:g=f:=by simpa[ay.inner] using h
  subst this;simp[ay.deep]
 | _=>simp[ay.inner] at h
theorem JA:∀fs:List ay,Dt.jw (fs.map ay.dt)=true
 | []=>by simp[Dt.jw]
 | f::fs=>by rw[Aj,Dt.jw,JA fs,f.ja];rfl
inductive Sh (K:AB)(vs:List V)(H:Hp)(Q:VK)(aJ:XK):Prop where
 | mk (x:V) (f:ay) (cG:vs=[x]) (cD:ax K H x f.dt) (cE:∀(D:Addr) (xs:List V) (H':Hp),H D=none->Same H H'->H' D=some (.lst xs)->aM K H' xs (f.inner.map ay.dt)->Q (.ref D) H')
def xn(K:AB):Sp:=λvs H Q aJ=>Sh K vs H Q aJ
theorem xo:aP ["saying"] ["saying"] (ah d6):=⟨rfl,rfl,rfl,by decide+kernel,rfl,by decide+kernel,by decide+kernel⟩
theorem p9{a:bh}{b:mD}(T:Txt K mg a)(U:jr K w.params mg b):aO P w K mg base aW 1 a.fB a.gg ["saying"] (xn K):=by
 refine T.y8.ok xo (λvs H Q E h=>?_) (λcdv A outer s H vs Q E hr h=>?_)
 ·obtain⟨x,f,rfl,_⟩:=h
  rfl
 ·obtain⟨x,f,rfl,hf,k⟩:=h
  obtain⟨a,xs,rfl,hq,h0,hsp⟩:=Yy f hf
  refine⟨_,(av (aL (bU (aN.mk' (esc:=ah d6) (N:=["saying"]) (own:=["spot"]) (aR:=["saying"]) (bS:=[0]) rfl rfl (by decide+kernel)) rfl (dF (yg U.Yx rfl U.Yw (au (ao K) (pv 0) ai (λ_ _=>rfl)) (bq ag))) (λ_ _ _ _=>(aF (i:=0) (show A4 (["spot","saying"]:List Str) by decide+kernel) rfl (Ab rfl))) (λ_ _ _ _=>bz) (λ_ _ _ _=>(au (ao K) (pv 1) (pv 0) (λ_ _=>rfl)))))),?_⟩
  refine⟨_,rfl,a,xs,0,.str f.word,rfl,rfl,hq,ak (j:=0) h0,by decide,λe he=>?_⟩
  have s1:=Same.new (o:=.tup []) he
  obtain⟨r,p,hr1,hr2,LL⟩:=U.spots f (upd H e (.tup [])) e (.of af)
  refine⟨f.word,r,rfl,hr1,p,hr2,⟨_,LL⟩,λC hC=>?_⟩
  refine cR (xs:=f.spots.map λ(n:Nat)=>V.int (n:Int)) (λi σ H'=>∃(ys:List V) (v:Option V),σ=[v,some (.ref a)]/\Same (upd H e (.tup [])) H'/\H' C=some (.lst ys)/\aM K H' ys ((f.inner.take i).map ay.dt)/\ys.length=i)
   ⟨[],none,rfl,Same.new hC,af,d_,rfl⟩ (λi σ H' _ ⟨_,_,_,h,_⟩=>h.uF LL) ?_ ?_
  ·rintro i y σ H1 hy ⟨ys,v,rfl,s2,e2,Ug,ly⟩
   rw[AU] at hy
   cases en:f.spots[i]? with
   | none=>rw[en] at hy;cases hy
   | some n=>
    rw[en] at hy
    have ey:y=.int (n:Int):=(AS hy).symm
    subst ey
    obtain⟨z,g,hz,hg,PL⟩:=hsp i n en
    have kt:kf K H H1:=(s1.trans s2).kts
    refine⟨_,rfl,_,rfl,a,xs,_,z,rfl,rfl,kt _ _ hq,ak hz,ys,e2,?_,ys++[z],_,rfl,s2.kbn hC KB.write,af,?_,?_⟩
    ·have:i<f.spots.length:=(AF.mp en).1
     have h2:=je f
     rw[yD] at this
     exact AX (show ys.length<10 by omega) (by decide)
    ·have e1:f.inner.take (i+1)=f.inner.take i++[g]:=by rw[DO,hg];rfl
     rw[e1,AI]
     have kk:kf K H1 (upd H1 C (.lst (ys++[z]))):=KB.kts e2 KB.write
     exact Ih (yh kk _ _ (JA _) Ug) (bA (gM (kt.trans kk) _ _ g.ja PL) d_)
    ·rw[AK,ly];rfl
  ·rintro σ H1 ⟨ys,v,rfl,s2,e2,Ug,ly⟩
   rw[AA,yD,Ap] at Ug
   exact k C ys H1 (s1.free hC) (s1.trans s2) e2 Ug
def ay.terms:ay->List Term
 | .same t u=>[t,u] | .less t u=>[t,u] | .sign _ t _=>[t] | .alike _ t _ u=>[t,u] | _=>[]
def ay.jf:ay->List Nat
 | .same _ _=>[1,2] | .less _ _=>[1,2] | .sign _ _ _=>[2] | .alike _ _ _ _=>[2,4] | _=>[]
def ip(t:Term):List Str:=t.parts.map (·.1)
def ay.jg(f:ay):List Str:=f.terms.flatMap ip
def ay.binds:ay->Option Str
 | .some n _=>Hr n | .each n _=>Hr n | _=>Gx
def ay.Free:ay->Str->Prop
 | .same t u,y=>y∈ip t∨y∈ip u
 | .less t u,y=>y∈ip t∨y∈ip u
 | .sign _ t _,y=>y∈ip t
 | .alike _ t _ u,y=>y∈ip t∨y∈ip u
 | .no f,y=>f.Free y
 | .and f g,y=>f.Free y∨g.Free y
 | .or f g,y=>f.Free y∨g.Free y
 | .some n f,y=>f.Free y/\y≠n
 | .each n f,y=>f.Free y/\y≠n
theorem JB(f:ay)(y:Str):f.Free y↔(y∈f.jg∨∃g∈f.inner,g.Free y)/\f.binds≠some y:=by
 cases f<;>simp[ay.Free,ay.jg,ay.terms,ay.inner,ay.binds]
 all_goals (intro _;constructor<;>(intro h e;exact h e.symm))
theorem qP{ss:List Str}{f:ay}(h:f.Over ss):∀t∈f.terms,fq ss t:=by
 cases f<;>simp[ay.Over,ay.terms] at h ⊢ <;>first | exact h | skip
theorem wb{ss:List Str}{f:ay}(h:f.Over ss):∀g∈f.inner,g.Over ss:=by
 cases f<;>simp[ay.Over,ay.inner] at h ⊢ <;>first | exact h | skip
theorem n8{ss:List Str}{t:Term}(h:fq ss t){y:Str}(hy:y∈ip t):y∈ss:=by
 obtain⟨q,hq,rfl⟩:=AZ.mp hy
 exact h.2 q hq
theorem iY{ss:List Str}{y:Str}:∀{f:ay},f.Over ss->f.Free y->y∈ss
 | .same t u,h,hf=>hf.elim (n8 h.1) (n8 h.2)
 | .less t u,h,hf=>hf.elim (n8 h.1) (n8 h.2)
 | .sign _ t _,h,hf=>n8 (show fq ss t from h) hf
 | .alike _ t _ u,h,hf=>hf.elim (n8 h.1) (n8 h.2)
 | .no f,h,hf=>iY (f:=f) h hf
 | .and f g,h,hf=>hf.elim (iY h.1) (iY h.2)
 | .or f g,h,hf=>hf.elim (iY h.1) (iY h.2)
 | .some n f,h,hf=>iY (f:=f) h hf.1
 | .each n f,h,hf=>iY (f:=f) h hf.1
structure cL (ks:List Str)(f:ay):Prop where
 sorted:B4 ks=true
 once:ks.Nodup
 mem:∀y,y∈ks↔f.Free y
theorem cL.uniq{ks ls:List Str}{f:ay}(h:cL ks f)(g:cL ls f):ks=ls:=ui h.sorted g.sorted h.once g.once λy=>(h.mem y).trans (g.mem y).symm
theorem cL.len{ks ss:List Str}{f:ay}(h:cL ks f)(o:f.Over ss):ks.length<=ss.length:=lC h.once λy hy=>iY o ((h.mem y).mp hy)
theorem uq(f:ay):f.terms.length<=2:=by cases f<;>simp[ay.terms]
theorem M6(f:ay):f.jf.length=f.terms.length:=by cases f<;>rfl
theorem qQ{ss:List Str}:∀{ts:List Term},(∀t∈ts,fq ss t)->(ts.flatMap ip).length<=3*ts.length
 | [],_=>A6 _
 | t::ts,h=>by
  rw[FX,AK,A2,ip,AA]
  have h1:=(h t AL).1
  have h2:=qQ (ts:=ts) λu hu=>h u (AJ _ hu)
  omega
theorem JC{ss:List Str}{f:ay}(h:f.Over ss):f.jg.length<=6:=by
 have h1:=qQ (qP h)
 have h2:=uq f
 unfold ay.jg
 omega
structure oa where
 d:Addr
 sa:Addr
 le:Addr
 si:Addr
 al:Addr
def eV(b:oa):List (Str×Option V):=
 [("same",some (.ref b.sa)),("less",some (.ref b.le)),("sign",some (.ref b.si)),("alike",some (.ref b.al)),("not",none),("and",none),("or",none),("some",none),("each",none)]
structure j9 (K:AB)(pr:Gw)(mg:Str->Option Value)(b:oa):Prop where
 Yz:mg "TERM_SPOTS"=some (.ref b.d)
 YA:pS K pr b.d (eV b)
 sa:∀H,bF K H b.sa [.int 1,.int 2]
 le:∀H,bF K H b.le [.int 1,.int 2]
 si:∀H,bF K H b.si [.int 2]
 al:∀H,bF K H b.al [.int 2,.int 4]
theorem j9.spots{K:AB}{pr:Gw}{mg:Str->Option Value}{b:oa}(U:j9 K pr mg b)(f:ay)(H:Hp)(e:Addr)(he:bF K H e []):
  ∃r p,(f.word,r)∈eV b/\r.getD (.ref e)=.ref p/\bF K H p (f.jf.map λ(n:Nat)=>V.int (n:Int)):=by
 cases f with
 | same t u=>exact⟨some (.ref b.sa),b.sa,by simp[eV,ay.word],rfl,U.sa H⟩
 | less t u=>exact⟨some (.ref b.le),b.le,by simp[eV,ay.word],rfl,U.le H⟩
 | sign a t s=>exact⟨some (.ref b.si),b.si,by simp[eV,ay.word],rfl,U.si H⟩
 | alike a t c u=>exact⟨some (.ref b.al),b.al,by simp[eV,ay.word],rfl,U.al H⟩
 | no f=>exact⟨none,e,by simp[eV,ay.word],rfl,he⟩
 | and f g=>exact⟨none,e,by simp[eV,ay.word],rfl,he⟩
 | or f g=>exact⟨none,e,by simp[eV,ay.word],rfl,he⟩
 | some n f=>exact⟨none,e,by simp[eV,ay.word],rfl,he⟩
 | each n f=>exact⟨none,e,by simp[eV,ay.word],rfl,he⟩
theorem yE{K:AB}{H:Hp}{x:V}(f:ay)(h:ax K H x f.dt):∃a xs,x=.ref a/\bF K H a xs/\xs[0]? =some (.str f.word)/\
  (∀(i n:Nat),f.jf[i]? =some n->∃y t,xs[n]? =some y/\f.terms[i]? =some t/\ax K H y t.dt)/\∀n,f.binds=some n->xs[1]? =some (.str n):=by
 obtain⟨ds,e⟩:=f.isTup
 have h':=h
 rw[e] at h'
 obtain⟨a,xs,rfl,hq,hd⟩:=jd h'
 obtain⟨y0,ys,rfl,h0,hd1⟩:=bu hd
 clear hd
 refine⟨a,_,rfl,hq,by rw[ax] at h0;rw[h0];rfl,?_⟩
 have one:∀{i n m:Nat},([m]:List Nat)[i]? =some n->i=0/\n=m:=λ{i n m} z=>by
  cases i with
  | zero=>simp at z;exact⟨rfl,z.symm⟩
  | succ i=>simp at z
 have two:∀{i n m k:Nat},([m,k]:List Nat)[i]? =some n->(i=0/\n=m)∨(i=1/\n=k):=λ{i n m k} z=>by
  match i with
  | 0=>simp at z;exact .inl ⟨rfl,z.symm⟩
  | 1=>simp at z;exact .inr ⟨rfl,z.symm⟩
  | i+2=>simp at z
 have nb:∀{P:Prop} {n:Str},(Gx:Option Str)=some n->P:=λz=>nomatch z
 cases f with
 | same t u=>
  cases e
  obtain⟨y1,ys,rfl,h1,hd2⟩:=bu hd1
  obtain⟨y2,ys,rfl,h2,_⟩:=bu hd2
  refine⟨λi n z=>?_,λn z=>nb z⟩
  rcases two z with⟨rfl,rfl⟩ | ⟨rfl,rfl⟩
  ·exact⟨y1,t,rfl,rfl,h1⟩
  ·exact⟨y2,u,rfl,rfl,h2⟩
 | less t u=>
  cases e
  obtain⟨y1,ys,rfl,h1,hd2⟩:=bu hd1
  obtain⟨y2,ys,rfl,h2,_⟩:=bu hd2
  refine⟨λi n z=>?_,λn z=>nb z⟩
  rcases two z with⟨rfl,rfl⟩ | ⟨rfl,rfl⟩
  ·exact⟨y1,t,rfl,rfl,h1⟩
  ·exact⟨y2,u,rfl,rfl,h2⟩
 | sign b t s=>
  cases e
  obtain⟨y1,ys,rfl,h1,hd2⟩:=bu hd1
  obtain⟨y2,ys,rfl,h2,_⟩:=bu hd2
  refine⟨λi n z=>?_,λn z=>nb z⟩
  obtain⟨rfl,rfl⟩:=one z
  exact⟨y2,t,rfl,rfl,h2⟩
 | alike b t c u=>
  cases e
  obtain⟨y1,ys,rfl,h1,hd2⟩:=bu hd1
  obtain⟨y2,ys,rfl,h2,hd3⟩:=bu hd2
  obtain⟨y3,ys,rfl,h3,hd4⟩:=bu hd3
  obtain⟨y4,ys,rfl,h4,_⟩:=bu hd4
  refine⟨λi n z=>?_,λn z=>nb z⟩
  rcases two z with⟨rfl,rfl⟩ | ⟨rfl,rfl⟩
  ·exact⟨y2,t,rfl,rfl,h2⟩
  ·exact⟨y4,u,rfl,rfl,h4⟩
 | no f=>exact⟨λi n z=>by simp[ay.jf] at z,λn z=>nb z⟩
 | and f g=>exact⟨λi n z=>by simp[ay.jf] at z,λn z=>nb z⟩
 | or f g=>exact⟨λi n z=>by simp[ay.jf] at z,λn z=>nb z⟩
 | some m f=>
  cases e
  obtain⟨y1,ys,rfl,h1,hd2⟩:=bu hd1
  refine⟨λi n z=>by simp[ay.jf] at z,λn z=>?_⟩
  have z':m=n:=AS z
  rw[ax] at h1
  rw[<-z',h1];rfl
 | each m f=>
  cases e
  obtain⟨y1,ys,rfl,h1,hd2⟩:=bu hd1
  refine⟨λi n z=>by simp[ay.jf] at z,λn z=>?_⟩
  have z':m=n:=AS z
  rw[ax] at h1
  rw[<-z',h1];rfl
theorem V'{K:AB}{H:Hp}{x:V}{t:Term}(h:ax K H x t.dt):∃a p ys,x=.ref a/\bF K H a [.int t.num,.ref p]/\bF K H p ys/\aM K H ys (t.parts.map n_):=by
 obtain⟨a,xs,rfl,hq,hd⟩:=jd (show ax K H x (.tup [.int t.num,.tup (t.parts.map n_)]) from h)
 obtain⟨y0,ys,rfl,h0,hd1⟩:=bu hd
 obtain⟨y1,ys,rfl,h1,hd2⟩:=bu hd1
 have e:ys=[]:=by
  have:=hd2.length
  simpa using this
 subst e
 rw[ax] at h0
 subst h0
 obtain⟨p,zs,rfl,hp,hz⟩:=jd h1
 exact⟨a,p,zs,rfl,hq,hp,hz⟩
theorem Si{K:AB}{H:Hp}{x:V}{p:Str×Int}(h:ax K H x (n_ p)):∃a,x=.ref a/\bF K H a [.str p.1,.int p.2]:=by
 obtain⟨a,xs,rfl,hq,hd⟩:=jd (show ax K H x (.tup [.str p.1,.int p.2]) from h)
 obtain⟨y0,ys,rfl,h0,hd1⟩:=bu hd
 obtain⟨y1,ys,rfl,h1,hd2⟩:=bu hd1
 have e:ys=[]:=by
  have:=hd2.length
  simpa using this
 subst e
 rw[ax] at h0
 rw[ax] at h1
 subst h0 h1
 exact⟨a,rfl,hq⟩
theorem fM{α:Type}{xs:List α}{i:Nat}{x:α}(h:xs[i]? =some x):xs.take (i+1)=xs.take i++[x]:=by rw[DO,h];rfl
inductive JD (K:AB)(vs:List V)(H:Hp)(Q:VK)(aJ:XK):Prop where
 | mk (x:V) (f:ay) (ss:List Str) (cG:vs=[x]) (cD:ax K H x f.dt) (cE:f.Over ss) (dc:∀(D:Addr) (H':Hp),H D=none->Same H H'->H' D=some (.lst (f.jg.map V.str))->Q (.ref D) H')
def ur(K:AB):Sp:=λvs H Q aJ=>JD K vs H Q aJ
theorem mE:aP ["saying","names","spot"] ["saying"] (ah fg):=⟨rfl,rfl,rfl,by decide+kernel,rfl,by decide+kernel,by decide+kernel⟩
theorem zi{a:bh}{b:oa}(T:Txt K mg a)(Y:j9 K w.params mg b):aO P w K mg base aW 1 a.iC a.jm ["saying"] (ur K):=by
 refine T.IX.ok mE (λvs H Q E h=>?_) (λcdv A outer s H vs Q E hr h=>?_)
 ·obtain⟨x,f,ss,rfl,_⟩:=h
  rfl
 ·obtain⟨x,f,ss,rfl,hf,ov,k⟩:=h
  obtain⟨a,xs,rfl,hq,h0,hsp,_⟩:=yE f hf
  refine⟨_,(aj (aw (i:=1) mE.nd rfl (Ab rfl) (df ag))
  (aj (cK Aw rfl (dF (yg Y.YA rfl Y.Yz (au (ao K) (pv 0) ai (λ_ _=>rfl)) (bq ag))) (aF (i:=2) mE.nd rfl (Ab rfl))
   (av (dX (fV Az Dq Dr xX (pv 1) (ae (bU (aN.mk' (esc:=ah fg) (N:=["saying","names","spot"]) (own:=["part"]) (aR:=[]) (bS:=[]) rfl rfl (by decide+kernel)) rfl (dF (au (ao K) (au (ao K) (pv 0) (pv 2) (λ_ _=>rfl)) ai (λ_ _=>rfl))) (λ_ _ _ _=>(aF (i:=0) (show A4 (["part"]:List Str) by decide+kernel) rfl (Ab rfl))) (λ_ _ _ _=>bz) (λ_ _ _ _=>(au (ao K) (pv 0) ai (λ_ _=>rfl)))) ag)))))
  (av (aL (pv 1))))),?_⟩
  refine⟨by decide,λN hN=>?_⟩
  have sN:=Same.new (o:=.lst []) hN
  refine⟨_,rfl,a,xs,0,.str f.word,rfl,rfl,sN.uF hq,ak (j:=0) h0,by decide,λe he=>?_⟩
  have s1:=sN.trans (Same.new (o:=.tup []) he)
  obtain⟨r,p,hr1,hr2,LL⟩:=Y.spots f (upd (upd H N (.lst [])) e (.tup [])) e (.of af)
  have wc:(upd (upd H N (.lst [])) e (.tup [])) N=some (.lst []):=(Same.new (o:=.tup []) he) _ _ af
  generalize upd (upd H N (.lst [])) e (.tup [])=H1 at s1 LL wc ⊢
  refine⟨f.word,r,rfl,hr1,p,hr2,⟨_,LL⟩,K' (xs:=f.jf.map λ(n:Nat)=>V.int (n:Int)) (λi σ H'=>∃v2:Option V,σ=[some (.ref a),some (.ref N),v2]/\KB N H1 H'/\H' N=some (.lst (((f.terms.take i).flatMap ip).map V.str)))
   ⟨none,rfl,KB.refl _ _,wc⟩ (λi σ H' _ ⟨_,_,h,e⟩=>(KB.kts wc h) _ _ LL) ?_ ?_⟩
  ·rintro i y σ H2 hy ⟨v2,rfl,k2,eN⟩
   rw[AU] at hy
   cases en:f.jf[i]? with
   | none=>rw[en] at hy;cases hy
   | some n=>
    rw[en] at hy
    have ey:y=.int (n:Int):=(AS hy).symm
    subst ey
    obtain⟨z,t,hz,ht,PL⟩:=hsp i n en
    have kt:kf K H H2:=s1.kts.trans (KB.kts wc k2)
    obtain⟨ta,pa,ys,rfl,q1,q2,q3⟩:=V' (gM kt _ _ t.ja PL)
    have to:=qP ov t (AG ht)
    refine⟨_,rfl,.inl ⟨rfl,_,.of eN⟩,_,rfl,_,rfl,a,xs,_,_,rfl,rfl,kt _ _ hq,ak hz,ta,_,_,_,rfl,rfl,q1,ak (j:=1) (v:=.ref pa) rfl,pa,rfl,⟨_,q2⟩,λC hC=>?_⟩
    have nNC:N≠C:=aA eN hC
    refine cR (xs:=ys) (λj σ H'=>∃v:Option V,σ=[v]/\Same H2 H'/\H' C=some (.lst (((t.parts.take j).map (·.1)).map V.str)))
     ⟨none,?sg,Same.new hC,af⟩ (λj σ H' _ ⟨_,_,s,_⟩=>s.uF q2) ?_ ?_
    case sg=>rfl
    ·rintro j y σ H3 hy ⟨v,rfl,s3,eC⟩
     obtain⟨d,ed,hd⟩:=q3.get hy
     rw[AU] at ed
     cases ep:t.parts[j]? with
     | none=>rw[ep] at ed;cases ed
     | some pp=>
      rw[ep] at ed
      have ed':n_ pp=d:=AS ed
      subst ed'
      obtain⟨qa,rfl,hqa⟩:=Si hd
      refine⟨_,rfl,qa,_,_,_,rfl,rfl,s3.uF hqa,ak (j:=0) (v:=.str pp.1) rfl,_,eC,?_,_,rfl,s3.kbn hC KB.write,?_⟩
      ·rw[AA,AA,Ao]
       exact Ay (show min j t.parts.length<=3 by have:=to.1;omega) (by decide)
      ·rw[af,fM ep,AI,AI];rfl
    rintro σ H3 ⟨v,rfl,s3,eC⟩
    have ly:ys.length=t.parts.length:=by rw[q3.length,AA]
    rw[ly,Ap] at eC
    have LN:=s3 _ _ eN
    have hl1:=qQ (ts:=f.terms.take i) λu hu=>qP ov u (Cv hu)
    have hl2:(f.terms.take i).length<=2:=by rw[Ao];have:=uq f;omega
    refine⟨N,C,_,_,rfl,rfl,LN,eC,?_,_,rfl,(k2.trans s3.kb).trans KB.write,?_⟩
    ·rw[AA,AA,AA]
     exact A5 (show _<=20 by have:=to.1;omega) (by decide)
    ·rw[af,fM ht,HD,AI]
     simp[ip]
  ·rintro σ H2 ⟨v2,rfl,k2,eN⟩
   rw[AA,M6,Ap] at eN
   exact⟨_,rfl,k N H2 hN (s1.kbn hN k2) eN⟩
def c_(ns:List Nat):List V:=ns.map λ(n:Nat)=>V.int (n:Int)
def ay.at :ay->List Nat->Option ay
 | f,[]=>Hr f
 | f,n::ns=>(f.inner[n]?).bind λg=>g.at ns
theorem PN:∀(ns:List Nat) (f g h:ay) (k:Nat),f.at ns=some g->g.inner[k]? =some h->f.at (ns++[k])=some h
 | [],f,g,h,k,e,e2=>by
  have e':f=g:=AS e
  subst e'
  show(f.inner[k]?).bind (λg=>g.at [])=some h
  rw[e2];rfl
 | n::ns,f,g,h,k,e,e2=>by
  have e':(f.inner[n]?).bind (λg=>g.at ns)=some g:=e
  obtain⟨u,eu,ea⟩:=CQ.mp e'
  show(f.inner[n]?).bind (λg=>g.at (ns++[k]))=some h
  rw[eu]
  exact PN ns u g h k ea e2
def ay.size:ay->Nat
 | .no f=>f.size+1 | .and f g=>f.size+g.size+1 | .or f g=>f.size+g.size+1 | .some _ f=>f.size+1 | .each _ f=>f.size+1 | _=>1
theorem size_inner(f:ay):(f.inner.map ay.size).sum+1=f.size:=by cases f<;>simp[ay.inner,ay.size]
theorem gH:∀f:ay,f.size+1<=2 ^ (f.deep+1)
 | .same _ _=>by simp[ay.size,ay.deep]
 | .less _ _=>by simp[ay.size,ay.deep]
 | .sign _ _ _=>by simp[ay.size,ay.deep]
 | .alike _ _ _ _=>by simp[ay.size,ay.deep]
 | .no f=>by
  have:=gH f
  simp only[ay.size,ay.deep]
  rw[Bi]
  omega
 | .and f g=>by
  have h1:=gH f
  have h2:=gH g
  have a1:=A0 (n:=2) (by decide) (show f.deep+1<=max f.deep g.deep+1 by omega)
  have a2:=A0 (n:=2) (by decide) (show g.deep+1<=max f.deep g.deep+1 by omega)
  simp only[ay.size,ay.deep]
  rw[Bi 2 (max f.deep g.deep+1)]
  omega
 | .or f g=>by
  have h1:=gH f
  have h2:=gH g
  have a1:=A0 (n:=2) (by decide) (show f.deep+1<=max f.deep g.deep+1 by omega)
  have a2:=A0 (n:=2) (by decide) (show g.deep+1<=max f.deep g.deep+1 by omega)
  simp only[ay.size,ay.deep]
  rw[Bi 2 (max f.deep g.deep+1)]
  omega
 | .some n f=>by
  have:=gH f
  simp only[ay.size,ay.deep]
  rw[Bi]
  omega
 | .each n f=>by
  have:=gH f
  simp only[ay.size,ay.deep]
  rw[Bi]
  omega
abbrev Ent:=List Nat×ay
def kids(ns:List Nat):Nat->List ay->List Ent
 | _,[]=>[]
 | k,h::t=>(ns++[k],h)::kids ns (k+1) t
theorem tV(ns:List Nat):∀(l:List ay) (k i:Nat),(kids ns k l)[i]? =(l[i]?).map λh=>(ns++[k+i],h)
 | [],k,i=>by simp[kids]
 | h::t,k,0=>rfl
 | h::t,k,i+1=>by
  rw[kids,B6,B6,tV ns t (k+1) i,show k+1+i=k+(i+1) by omega]
theorem uY(ns:List Nat):∀(l:List ay) (k:Nat),(kids ns k l).length=l.length
 | [],_=>rfl
 | h::t,k=>by rw[kids,A2,uY ns t,A2]
theorem JE(ns:List Nat):∀(l:List ay) (k:Nat),((kids ns k l).map λe=>e.2.size).sum=(l.map ay.size).sum
 | [],_=>rfl
 | h::t,k=>by rw[kids,Aj,Aj,By,By,JE ns t]
def uZ(K:AB)(H:Hp)(q:Addr)(e:Ent):Prop:=∃pl y,H q=some (.tup [.ref pl,y])/\H pl=some (.tup (c_ e.1))/\ax K H y e.2.dt
theorem uZ.keep{K:AB}{H H':Hp}{q:Addr}{e:Ent}(h:uZ K H q e)(k:bj H H')(ks:kf K H H'):uZ K H' q e:=by
 obtain⟨pl,y,h1,h2,h3⟩:=h
 exact⟨pl,y,k _ _ h1,k _ _ h2,gM ks _ _ e.2.ja h3⟩
abbrev cw (K:AB)(H:Hp):List Addr->List Ent->Prop:=Bl (uZ K H)
theorem cw.keep{K:AB}{H H':Hp}(k:bj H H')(ks:kf K H H'):∀{qs:List Addr} {es:List Ent},cw K H qs es->cw K H' qs es
 | _,_,.nil=>.nil
 | _,_,.cons h t=>.cons (h.keep k ks) (cw.keep k ks t)
theorem tW{K:AB}{H:Hp}{qs rs:List Addr}{es ds:List Ent}(a:cw K H qs es)(b:cw K H rs ds):cw K H (qs++rs) (es++ds):=bO a b
theorem LO{K:AB}{H:Hp}:∀{qs:List Addr} {es:List Ent} {i:Nat} {q:Addr},cw K H qs es->qs[i]? =some q->∃e,es[i]? =some e/\uZ K H q e
 | _,_,_,_,.nil,h=>by simp at h
 | _,_,0,_,.cons a _,h=>by simp at h;subst h;exact⟨_,rfl,a⟩
 | _,_,i+1,_,.cons _ t,h=>by
  simp only[B6] at h ⊢
  exact LO t h
theorem JF{K:AB}{H:Hp}:∀{qs:List Addr} {es:List Ent},cw K H qs es->qs≠[]->∃Uh q es' e,qs=Uh++[q]/\es=es'++[e]/\cw K H Uh es'/\uZ K H q e
 | _,_,.nil,h=>absurd rfl h
 | [q],[e],.cons a .nil,_=>⟨[],q,[],e,rfl,rfl,.nil,a⟩
 | q::q2::qs,e::e2::es,.cons a (.cons b t),_=>by
  obtain⟨Uh,r,es',d,e1,e3,h1,h2⟩:=JF (.cons b t) (by simp)
  exact⟨q::Uh,r,e::es',d,by rw[e1];rfl,by rw[e3];rfl,.cons a h1,h2⟩
structure Ord (f:ay)(we fe:List Ent):Prop where
 here:∀e,e∈we∨e∈fe->f.at e.1=some e.2
 kid:∀(i:Nat) (ns:List Nat) (g:ay),fe[i]? =some (ns,g)->∀k h,g.inner[k]? =some h->(ns++[k],h)∈we∨∃j,i<j/\fe[j]? =some (ns++[k],h)
 root:([],f)∈we∨([],f)∈fe
theorem Ord.step{f:ay}{we fe:List Ent}{ns:List Nat}{g:ay}(o:Ord f (we++[(ns,g)]) fe):Ord f (we++kids ns 0 g.inner) (fe++[(ns,g)]) where
 here:=λe he=>by
  have hg:f.at ns=some g:=o.here (ns,g) (.inl (by simp))
  rcases he with he | he
  ·rcases Ac.mp he with he | he
   ·exact o.here e (.inl (Ac.mpr (.inl he)))
   ·obtain⟨i,hi⟩:=BR he
    rw[tV] at hi
    cases eh:g.inner[i]? with
    | none=>rw[eh] at hi;cases hi
    | some h=>
     rw[eh] at hi
     have hi':(ns++[0+i],h)=e:=AS hi
     rw[<-hi',EL]
     exact PN ns f g h i hg eh
  ·rcases Ac.mp he with he | he
   ·exact o.here e (.inr he)
   ·rw[AW.mp he];exact hg
 kid:=λi ms u hi k h hk=>by
  by_cases lt:i<fe.length
  ·rw[Ax lt] at hi
   rcases o.kid i ms u hi k h hk with z | ⟨j,hj,z⟩
   ·rcases Ac.mp z with z | z
    ·exact .inl (Ac.mpr (.inl z))
    ·refine .inr ⟨fe.length,lt,?_⟩
     rw[Aq (AM _),B9,AW.mp z];rfl
   ·have hj2:=(AF.mp z).1
    exact .inr ⟨j,hj,by rw[Ax hj2];exact z⟩
  ·have hl:=(AF.mp hi).1
   rw[AK] at hl
   have hl':i<fe.length+1:=hl
   have e:i=fe.length:=by omega
   subst e
   rw[Aq (AM _),B9] at hi
   have hi':(ns,g)=(ms,u):=AS hi
   cases hi'
   refine .inl (Ac.mpr (.inr (AG (i:=k) ?_)))
   rw[tV,hk,EL];rfl
 root:=by
  rcases o.root with z | z
  ·rcases Ac.mp z with z | z
   ·exact .inl (Ac.mpr (.inl z))
   ·exact .inr (Ac.mpr (.inr z))
  ·exact .inr (Ac.mpr (.inl z))
structure YB (f:ay)(es:List Ent):Prop where
 here:∀e∈es,f.at e.1=some e.2
 kid:∀(i:Nat) (ns:List Nat) (g:ay),es[i]? =some (ns,g)->∀k h,g.inner[k]? =some h->∃j,j<i/\es[j]? =some (ns++[k],h)
 root:([],f)∈es
theorem Ord.late{f:ay}{fe:List Ent}(o:Ord f [] fe):YB f fe.reverse where
 here:=λe he=>o.here e (.inr (DW.mp he))
 kid:=λi ns g hi k h hk=>by
  have lt:i<fe.length:=by have:=(AF.mp hi).1;rwa [B_] at this
  rw[DJ lt] at hi
  rcases o.kid _ ns g hi k h hk with z | ⟨j,hj,z⟩
  ·cases z
  ·have hj2:=(AF.mp z).1
   refine⟨fe.length-1-j,by omega,?_⟩
   rw[DJ (by omega),show fe.length-1-(fe.length-1-j)=j by omega]
   exact z
 root:=by
  rcases o.root with z | z
  ·cases z
  ·exact DW.mpr z
theorem LP:∀we:List Ent,we.length<=(we.map λe=>e.2.size).sum
 | []=>AM _
 | e::we=>by
  have h1:=LP we
  have h2:=size_inner e.2
  rw[Aj,By,A2]
  omega
theorem LQ:∀(ns:List Nat) (f g:ay),f.at ns=some g->ns.length+g.deep<=f.deep
 | [],f,g,e=>by
  have e':f=g:=AS e
  subst e'
  simp
 | n::ns,f,g,e=>by
  have e':(f.inner[n]?).bind (λg=>g.at ns)=some g:=e
  obtain⟨u,eu,ea⟩:=CQ.mp e'
  have h1:=LQ ns u g ea
  have h2:=M5 f u (AG eu)
  rw[A2]
  omega
theorem JG{f g:ay}{ns:List Nat}(h:f.deep<=15)(e:f.at ns=some g):ns.length<=15:=by
 have:=LQ ns f g e
 omega
theorem LS{K:AB}{H:Hp}:∀{qs:List Addr} {es:List Ent},cw K H qs es->cw K H qs.reverse es.reverse
 | _,_,.nil=>.nil
 | _,_,.cons a t=>by
  rw[EF,EF]
  exact tW (LS t) (.cons a .nil)
inductive Sj (K:AB)(vs:List V)(H:Hp)(Q:VK)(aJ:XK):Prop where
 | mk (x:V) (f:ay) (cG:vs=[x]) (cD:ax K H x f.dt) (cE:f.deep<=15) (dc:∀(D:Addr) (qs:List Addr) (es:List Ent) (H':Hp),H D=none->Same H H'->H' D=some (.lst (qs.map V.ref))->cw K H' qs es->YB f es->es.length<=100000->Q (.ref D) H')
def LU(K:AB):Sp:=λvs H Q aJ=>Sj K vs H Q aJ
theorem JH{rs:List Addr}{i:Nat}{x:V}(h:(rs.map V.ref)[i]? =some x):∃r,x=.ref r/\rs[i]? =some r:=by
 rw[AU] at h
 cases e:rs[i]? with
 | none=>rw[e] at h;cases h
 | some r=>rw[e] at h;exact⟨r,(AS h).symm,rfl⟩
theorem dk:aP ["saying","waiting","found","pair","number","part"] ["saying"] (ah dN):=⟨rfl,rfl,rfl,by decide+kernel,rfl,by decide+kernel,by decide+kernel⟩
theorem t5{a:bh}{b:mD}(T:Txt K mg a)(U:jr K w.params mg b):aO P w K mg base aW 2 a.fi a.fW ["saying"] (LU K):=by
 have mF:aO P w K mg base aW 1 a.fB a.gg ["saying"] (xn K):=p9 T U
 refine T.uN.ok dk (λvs H Q E h=>?_) (λcdv A outer s H vs Q E hr h=>?_)
 ·obtain⟨x,f,rfl,_⟩:=h
  rfl
 ·obtain⟨x,f,rfl,hf,hdp,k⟩:=h
  have kU:aK 1 _:=hr
  refine⟨_,(aj (aw (i:=1) dk.nd rfl (Ab rfl) (df (ae (bq (ae (bq ag) (ae (pv 0) ag))) ag)))
  (aj (aw (i:=2) dk.nd rfl (Ab rfl) (df ag))
  (aj (iw Aw (qj (pv 1) (λ_=>rfl))
   (aj (aw (i:=3) dk.nd rfl (Ab rfl) (zX Az Gf Gg N_ (pv 1)))
   (aj (dX (fV Az BC BD dq (pv 2) (ae (pv 3) ag)))
   (av (cK Aw rfl (VA rfl T.KW (ae (aq mF kU rfl T.ri T.rj T.rl .nil az (ae (au (ao K) (pv 3) ai (λ_ _=>rfl)) ag)) ag)) (vo rfl (bX (aF (i:=4) dk.nd rfl (Ab rfl)) (bX (aF (i:=5) dk.nd rfl (Ab rfl)) ib)))
    (av (dX (fV Az BC BD dq (pv 1) (ae (bq (ae (aI (uG K) (au (ao K) (pv 3) ai (λ_ _=>rfl)) (bq (ae (pv 4) ag))) (ae (pv 5) ag))) ag)))))))))
  (av (aL (Mw K rfl rfl T.Pf rfl T.MY (ae (pv 2) ag))))))),?_⟩
  have fsz:f.size<=70000:=by
   have h1:=gH f
   have h2:=A0 (n:=2) (by decide) (show f.deep+1<=16 by omega)
   have h3:(2:Nat) ^ 16=65536:=by decide
   omega
  refine⟨by decide,λe0 he0=>⟨_,rfl,by show 2<=sizeLine;decide,λq0 hq0=>⟨by show 1<=sizeLine;decide,λWt hWt=>?_⟩⟩⟩
  have s0:=Same.new (o:=.tup []) he0
  have s1:=Same.new (o:=.tup [.ref e0,x]) hq0
  have s2:=Same.new (o:=.lst [.ref q0]) hWt
  refine⟨by decide,λFo YC=>?_⟩
  have s3:=Same.new (o:=.lst []) YC
  have eW:=s3 _ _ (af (H:=upd (upd H e0 (.tup [])) q0 (.tup [.ref e0,x])) (a:=Wt) (o:=.lst [.ref q0]))
  have eF:(upd (upd (upd (upd H e0 (.tup [])) q0 (.tup [.ref e0,x])) Wt (.lst [.ref q0])) Fo (.lst [])) Fo=some (.lst []):=af
  have pr:uZ K (upd (upd (upd (upd H e0 (.tup [])) q0 (.tup [.ref e0,x])) Wt (.lst [.ref q0])) Fo (.lst [])) q0 ([],f):=
   ⟨e0,x,s3 _ _ (s2 _ _ af),s3 _ _ (s2 _ _ (s1 _ _ af)),gM (((s0.trans s1).trans s2).trans s3).kts _ _ f.ja hf⟩
  have sA:=((s0.trans s1).trans s2).trans s3
  have YD:Wt≠Fo:=aA af YC
  have hW0:H Wt=none:=(s0.trans s1).free hWt
  have hF0:H Fo=none:=((s0.trans s1).trans s2).free YC
  generalize upd (upd (upd (upd H e0 (.tup [])) q0 (.tup [.ref e0,x])) Wt (.lst [.ref q0])) Fo (.lst [])=H1 at eW eF pr sA ⊢
  refine⟨λm σ H'=>∃(ws fs:List Addr) (we fe:List Ent) (v3 v4 v5:Option V),σ=[some x,some (.ref Wt),some (.ref Fo),v3,v4,v5]/\Same H H'/\H' Wt=some (.lst (ws.map V.ref))/\H' Fo=some (.lst (fs.map V.ref))/\cw K H' ws we/\cw K H' fs fe/\Ord f we fe/\
    m=(we.map λe=>e.2.size).sum/\fe.length+(we.map λe=>e.2.size).sum<=70000,
   ⟨_,[q0],[],[([],f)],[],none,none,none,rfl,sA,eW,eF,.cons pr .nil,.nil,⟨λe he=>?_,λi ns g z=>by simp at z,.inl (by simp)⟩,rfl,by simpa using fsz⟩,?_⟩
  ·have e':e=([],f):=by simpa using he
   rw[e'];rfl
  rintro m σ H2 ⟨ws,fs,we,fe,v3,v4,v5,rfl,s2',PQ,eF2,pw,pf,od,rfl,hsz⟩
  refine⟨_,rfl, !(ws.map V.ref).isEmpty,.inl ⟨_,.of PQ,rfl⟩,?_⟩
  refine bJ (λhne=>?_) (λhem=>?_)
  ·have wne:ws≠[]:=λz=>by subst z;simp at hne
   obtain⟨ws',q,JI,⟨ns,g⟩,rfl,rfl,pw',pq⟩:=JF pw wne
   refine⟨λσ' H'=>∃(ws fs:List Addr) (we fe:List Ent) (v3 v4 v5:Option V),σ'=[some x,some (.ref Wt),some (.ref Fo),v3,v4,v5]/\Same H H'/\H' Wt=some (.lst (ws.map V.ref))/\H' Fo=some (.lst (fs.map V.ref))/\cw K H' ws we/\cw K H' fs fe/\Ord f we fe/\
     (we.map λe=>e.2.size).sum<((JI++[(ns,g)]).map λe=>e.2.size).sum/\fe.length+(we.map λe=>e.2.size).sum<=70000,
    λσ' H' ⟨ws,fs,we,fe,v3,v4,v5,a1,a2,a3,a4,a5,a6,a7,a8,a9⟩=>⟨_,a8,ws,fs,we,fe,v3,v4,v5,a1,a2,a3,a4,a5,a6,a7,rfl,a9⟩,?_⟩
   refine⟨_,rfl,.inl ⟨rfl,_,.of PQ⟩,Wt,_,.ref q,rfl,rfl,PQ,by simp,?_⟩
   have dl:((ws'++[q]).map V.ref).dropLast=ws'.map V.ref:=by rw[AI];simp
   rw[dl]
   have kW:=KB.write (d:=Wt) (H:=H2) (o:=.lst (ws'.map V.ref))
   have YE:=bj.lst (o:=.lst (ws'.map V.ref)) PQ
   have YF:=KB.kts (K:=K) PQ kW
   have eW3:(upd H2 Wt (.lst (ws'.map V.ref))) Wt=some (.lst (ws'.map V.ref)):=af
   have PR:=kW _ _ eF2 YD.symm
   have pw3:=cw.keep YE YF pw'
   have pf3:=cw.keep YE YF pf
   have pq3:=pq.keep YE YF
   have Pr:=s2'.kbn hW0 kW
   generalize upd H2 Wt (.lst (ws'.map V.ref))=H3 at eW3 PR pw3 pf3 pq3 Pr ⊢
   have lfe:fs.length=fe.length:=Ag pf
   refine⟨_,rfl,.inl ⟨rfl,_,.of PR⟩,_,rfl,Fo,_,_,rfl,rfl,PR,?_,?_⟩
   ·rw[AA];exact Ay (show fs.length<=70000 by omega) (by decide)
   have kF:=KB.write (d:=Fo) (H:=H3) (o:=.lst (fs.map V.ref++[.ref q]))
   have YG:=bj.lst (o:=.lst (fs.map V.ref++[.ref q])) PR
   have YH:=KB.kts (K:=K) PR kF
   have eF4:(upd H3 Fo (.lst (fs.map V.ref++[.ref q]))) Fo=some (.lst ((fs++[q]).map V.ref)):=by rw[af,AI];rfl
   have YI:=kF _ _ eW3 YD
   have pw4:=cw.keep YG YH pw3
   have pf4:=cw.keep YG YH pf3
   have YJ:=pq3.keep YG YH
   have sH4:=Pr.kbn hF0 kF
   generalize upd H3 Fo (.lst (fs.map V.ref++[.ref q]))=H4 at eF4 YI pw4 pf4 YJ sH4 ⊢
   obtain⟨pl,y,eq,kg,dy⟩:=id YJ
   refine⟨_,rfl,q,_,_,_,rfl,rfl,.of eq,ak (j:=1) (v:=y) rfl,y,g,rfl,dy,λD xs H5 hD s5 eD Ui=>?_⟩
   have PU:=s5 _ _ YI
   have nDW:D≠Wt:=(aA YI hD).symm
   have lx:xs.length=g.inner.length:=by rw[Ui.length,AA]
   have gin:=je g
   refine⟨D,rfl,⟨_,.of eD⟩,Q9 (xs:=xs) (λi σ H'=>∃(rs:List Addr) (v4 v5:Option V),σ=[some x,some (.ref Wt),some (.ref Fo),some (.ref q),v4,v5]/\KB Wt H5 H'/\H' Wt=some (.lst ((ws'++rs).map V.ref))/\cw K H' rs ((kids ns 0 g.inner).take i))
    ⟨[],_,_,rfl,KB.refl _ _,by rw[A8];exact PU,.nil⟩ (by rintro i σ H' _ ⟨_,_,_,_,h,_⟩;exact .of (h _ _ eD nDW)) ?_ ?_⟩
   ·rintro i z pp σ H6 hz ⟨rs,v4,v5,rfl,k6,YK,Uj⟩ hpp
    have sp:=Same.new (o:=.tup [.int i,z]) hpp
    refine⟨pp,_,rfl,.of af,rfl,_,_,rfl,_,_,rfl,rfl,?_⟩
    obtain⟨dz,PV,PL⟩:=Ui.get hz
    rw[AU] at PV
    cases eh:g.inner[i]? with
    | none=>rw[eh] at PV;cases PV
    | some h=>
     rw[eh] at PV
     have aeE:h.dt=dz:=AS PV
     subst aeE
     have sW:bj H5 H6:=bj.kb PU k6
     have PX:kf K H5 H6:=KB.kts PU k6
     have Sk:H6 pl=some (.tup (c_ ns)):=sW _ _ (s5 _ _ kg)
     have eq6:H6 q=some (.tup [.ref pl,y]):=sW _ _ (s5 _ _ eq)
     have YL:=sp _ _ YK
     have YM:=gM (PX.trans sp.kts) _ _ h.ja PL
     have YN:=cw.keep sp.kt sp.kts Uj
     have YO:=sp _ _ Sk
     have eq7:=sp _ _ eq6
     have k7:KB Wt H5 (upd H6 pp (.tup [.int i,z])):=k6.trans sp.kb
     generalize upd H6 pp (.tup [.int i,z])=H7 at YL YM YN YO eq7 k7 ⊢
     refine⟨_,rfl,.inl ⟨rfl,_,.of YL⟩,_,rfl,q,_,_,_,rfl,rfl,.of eq7,ak (j:=0) (v:=.ref pl) rfl,_,rfl,by show 1<=sizeLine;decide,λoo hoo=>?_⟩
     have so:=Same.new (o:=.tup [.int (i:Int)]) hoo
     have PY:(upd H7 oo (.tup [.int (i:Int)])) oo=some (.tup [.int (i:Int)]):=af
     have done:∀(pn:Addr) (H8:Hp),Same H7 H8->H8 pn=some (.tup (c_ (ns++[i])))->∀lG,H8 lG=none->
       H8 Wt=some (.lst ((ws'++rs).map V.ref))/\(∃(rs':List Addr) (v4 v5:Option V),[some x,some (.ref Wt),some (.ref Fo),some (.ref q),some (.int (i:Int)),some z]=[some x,some (.ref Wt),some (.ref Fo),some (.ref q),v4,v5]/\
        KB Wt H5 (upd (upd H8 lG (.tup [.ref pn,z])) Wt (.lst ((ws'++rs).map V.ref++[.ref lG])))/\(upd (upd H8 lG (.tup [.ref pn,z])) Wt (.lst ((ws'++rs).map V.ref++[.ref lG]))) Wt=some (.lst ((ws'++rs').map V.ref))/\
        cw K (upd (upd H8 lG (.tup [.ref pn,z])) Wt (.lst ((ws'++rs).map V.ref++[.ref lG]))) rs' ((kids ns 0 g.inner).take (i+1))):=λpn H8 s8 YQ lG u_=>by
      have eW8:=s8 _ _ YL
      have s9:=Same.new (o:=.tup [.ref pn,z]) u_
      have eW9:=s9 _ _ eW8
      have kt9:=bj.lst (o:=.lst ((ws'++rs).map V.ref++[.ref lG])) eW9
      have ks9:kf K (upd H8 lG (.tup [.ref pn,z])) (upd (upd H8 lG (.tup [.ref pn,z])) Wt (.lst ((ws'++rs).map V.ref++[.ref lG]))):=KB.kts eW9 KB.write
      refine⟨eW8,rs++[lG],_,_,rfl,((k7.trans s8.kb).trans s9.kb).trans KB.write,?_,?_⟩
      ·rw[af];simp
      ·have ek:(kids ns 0 g.inner).take (i+1)=(kids ns 0 g.inner).take i++[(ns++[i],h)]:=fM (by rw[tV,eh,EL];rfl)
       rw[ek]
       refine tW (cw.keep ((s8.kt.trans s9.kt).trans kt9) ((s8.kts.trans s9.kts).trans ks9) YN) (.cons ⟨pn,z,kt9 _ _ af,kt9 _ _ (s9 _ _ YQ),gM ((s8.kts.trans s9.kts).trans ks9) _ _ h.ja YM⟩ .nil)
     have lr:rs.length<=2:=by rw[Ag YN,Ao,uY];omega
     have lw:((ws'++rs).map V.ref).length<sizeLine:=by
      rw[AA,AK]
      have lw':ws'.length=JI.length:=Ag pw'
      have:JI.length<=(JI.map λe=>e.2.size).sum:=LP JI
      rw[AI,Dy] at hsz
      exact Ay (show _<=80000 by omega) (by decide)
     refine⟨pl,oo,c_ ns,[.int (i:Int)],rfl,rfl,.of (so _ _ YO),.of PY,by simp,?_,λhn=>?_,λhn pn hpn=>?_⟩
     ·have:ns.length<=15:=JG hdp (od.here (ns,g) (.inl (by simp)))
      show(c_ ns).length+1<=sizeLine
      rw[c_,AA]
      exact A5 (show _<=100 by omega) (by decide)
     ·have hn':ns=[]:=by cases ns with | nil=>rfl | cons _ _=>cases hn
      subst hn'
      refine⟨_,rfl,by show 2<=sizeLine;decide,λlG u_=>?_⟩
      obtain⟨d1,d2⟩:=done oo _ so PY lG u_
      exact⟨Wt,_,_,rfl,rfl,(Same.new u_) _ _ d1,lw,d2⟩
     ·have spn:=Same.new (o:=.tup (c_ ns++[.int (i:Int)])) hpn
      refine⟨_,rfl,by show 2<=sizeLine;decide,λlG u_=>?_⟩
      obtain⟨d1,d2⟩:=done pn _ (so.trans spn) (by rw[af,c_,c_,AI];rfl) lG u_
      exact⟨Wt,_,_,rfl,rfl,(Same.new u_) _ _ d1,lw,d2⟩
   ·rintro σ H6 ⟨rs,v4,v5,rfl,k6,YK,Uj⟩
    rw[lx,Bg (by rw[uY];exact AM _)] at Uj
    have sW:bj H4 H6:=s5.kt.trans (bj.kb PU k6)
    have PX:kf K H4 H6:=s5.kts.trans (KB.kts PU k6)
    have nFW:=YD.symm
    have sz:=JE ns g.inner 0
    have sg:=size_inner g
    refine⟨ws'++rs,fs++[q],JI++kids ns 0 g.inner,fe++[(ns,g)],_,_,_,rfl,(sH4.trans s5).kbn hW0 k6,YK,k6 _ _ (s5 _ _ eF4) nFW,tW (cw.keep sW PX pw4) Uj,tW (cw.keep sW PX pf4) (.cons (YJ.keep sW PX) .nil),od.step,?_,?_⟩
    ·rw[AI,AI,Dy,Dy,sz]
     show _<_+(g.size+0)
     omega
    ·rw[AI,Dy,sz,AK]
     rw[AI,Dy] at hsz
     have hsz':fe.length+((JI.map λe=>e.2.size).sum+(g.size+0))<=70000:=hsz
     show fe.length+1+_<=70000
     omega
  ·have wem:ws=[]:=by
    cases ws with
    | nil=>rfl
    | cons q qs=>exact absurd rfl hem
   subst wem
   have wee:we=[]:=by cases pw;rfl
   subst wee
   refine⟨_,rfl,Fo,_,rfl,.of eF2,λl hl=>?_⟩
   have sl:=Same.new (o:=.lst (fs.map V.ref).reverse) hl
   refine k l fs.reverse fe.reverse _ (s2'.free hl) (s2'.trans sl) (by rw[af,Fz]) ?_ od.late (by rw[B_];omega)
   exact LS (cw.keep sl.kt sl.kts pf)
theorem KB.aeF{K:AB}{d:Addr}{kvs:List (List Key×V)}{H H':Hp}(h:H d=some (.dT kvs))(k:KB d H H'):kf K H H':=λa ys e=>by
 rcases e with(e | ⟨o,e⟩) | e
 ·exact .inl (.inl (k _ _ e (fE e h (λz=>nomatch z))))
 ·exact .inl (.inr ⟨o,k _ _ e (fE e h (λz=>nomatch z))⟩)
 ·exact .inr e
theorem bj.dT{d:Addr}{kvs:List (List Key×V)}{H H':Hp}(h:H d=some (.dT kvs))(k:KB d H H'):bj H H':=λb ys e=>k b _ e (fE e h (λz=>nomatch z))
def js(H:Hp):List Addr->List (List Str)->Prop:=Bl λr ks=>H r=some (.tup (ks.map V.str))
theorem js.keep{H H':Hp}(k:bj H H'):∀{rs:List Addr} {cF:List (List Str)},js H rs cF->js H' rs cF
 | _,_,.nil=>.nil
 | _,_,.cons a t=>.cons (k _ _ a) (js.keep k t)
theorem js.get{H:Hp}:∀{rs:List Addr} {cF:List (List Str)} {i:Nat} {r:Addr},js H rs cF->rs[i]? =some r->∃ks,cF[i]? =some ks/\H r=some (.tup (ks.map V.str))
 | _,_,_,_,.nil,h=>by simp at h
 | _,_,0,_,.cons a _,h=>by simp at h;subst h;exact⟨_,rfl,a⟩
 | _,_,i+1,_,.cons _ t,h=>by
  simp only[B6] at h ⊢
  exact js.get t h
theorem M7(f:ay):inV (V.str f.word) [V.str "some",V.str "each"]=f.binds.isSome:=by
 have e:inV (V.str f.word) [V.str "some",V.str "each"]=decide (f.word∈[("some":Str),"each"]):=ku f.word [("some":Str),"each"]
 rw[e]
 have w1:decide (("same":Str)∈[("some":Str),"each"])=false:=by decide+kernel
 have w2:decide (("less":Str)∈[("some":Str),"each"])=false:=by decide+kernel
 have w3:decide (("sign":Str)∈[("some":Str),"each"])=false:=by decide+kernel
 have w4:decide (("alike":Str)∈[("some":Str),"each"])=false:=by decide+kernel
 have w5:decide (("not":Str)∈[("some":Str),"each"])=false:=by decide+kernel
 have w6:decide (("and":Str)∈[("some":Str),"each"])=false:=by decide+kernel
 have w7:decide (("or":Str)∈[("some":Str),"each"])=false:=by decide+kernel
 have w8:decide (("some":Str)∈[("some":Str),"each"])=true:=by decide+kernel
 have w9:decide (("each":Str)∈[("some":Str),"each"])=true:=by decide+kernel
 cases f with
 | same t u=>exact w1
 | less t u=>exact w2
 | sign a t s=>exact w3
 | alike a t c u=>exact w4
 | no f=>exact w5
 | and f g=>exact w6
 | or f g=>exact w7
 | some n f=>exact w8
 | each n f=>exact w9
theorem ti{N:Nat}:∀{cF:List (List Str)},(∀ks∈cF,ks.length<=N)->cF.flatten.length<=N*cF.length
 | [],_=>A6 _
 | ks::cF,h=>by
  rw[DP,AK,A2]
  have h1:=h ks AL
  have h2:=ti (cF:=cF) λx hx=>h x (AJ _ hx)
  rw[Nat.mul_succ]
  omega
inductive Wa (K:AB)(vs:List V)(H:Hp)(Q:VK)(aJ:XK):Prop where
 | mk (x:V) (f:ay) (ss:List Str) (I:Addr) (rs:List Addr) (cF:List (List Str)) (cG:vs=[x,.ref I]) (cD:ax K H x f.dt) (cE:f.Over ss) (dc:ss.length<=10) (dZ:H I=some (.lst (rs.map V.ref))) (fU:js H rs cF) (iH:cF.length=f.inner.length) (j8:(∀(j:Nat) (ks:List Str) (g:ay),cF[j]? =some ks->f.inner[j]? =some g->cL ks g)) (mM:∀(D:Addr) (ks:List Str) (H':Hp),H D=none->Same H H'->H' D=some (.tup (ks.map V.str))->cL ks f->Q (.ref D) H')
def PZ(K:AB):Sp:=λvs H Q aJ=>Wa K vs H Q aJ
theorem jt:aP ["saying","inner","names","some"] ["saying","inner"] (ah fh):=⟨rfl,rfl,rfl,by decide+kernel,rfl,by decide+kernel,by decide+kernel⟩
theorem zj{a:bh}{b:oa}(T:Txt K mg a)(Y:j9 K w.params mg b):aO P w K mg base aW 2 a.iD a.jn ["saying","inner"] (PZ K):=by
 have JJ:aO P w K mg base aW 1 a.iC a.jm ["saying"] (ur K):=zi T Y
 refine T.Ja.ok jt (λvs H Q E h=>?_) (λcdv A outer s H vs Q E hr h=>?_)
 ·obtain⟨x,f,ss,I,rs,cF,rfl,_⟩:=h
  rfl
 ·obtain⟨x,f,ss,I,rs,cF,rfl,hf,ov,hss,eI,tp,lk,fr,k⟩:=h
  have zk:aK 1 _:=hr
  obtain⟨a,xs,rfl,hq,h0,_,hbd⟩:=yE f hf
  refine⟨_,(aj (aw (i:=2) jt.nd rfl (Ab rfl) (aq JJ zk rfl T.IY T.IZ T.I_ .nil az (ae (pv 0) ag)))
  (aj (cK Aw rfl (dH (pv 1)) (aF (i:=3) jt.nd rfl (Ab rfl))
   (av (dX (fV Az Dq Dr (MH K) (pv 2) (ae (pv 3) ag)))))
  (aj (cq (aV (pQ K) (au (ao K) (pv 0) ai (λ_ _=>rfl)) (bq (ae aX (ae aX ag))) (by with_unfolding_all rfl))
   (av (iO (i:=2) (aN.mk' (esc:=ah fh) (N:=["saying","inner","names","some"]) (own:=["name"]) (aR:=["saying"]) (bS:=[0]) rfl rfl (by decide+kernel)) rfl (dH (pv 2)) (λ_ _ _ _=>(aF (i:=0) (show A4 (["name","saying"]:List Str) by decide+kernel) rfl (Ab rfl))) (λ_ _ _ _=>(qm (aV vw (pv 0) (au (ao K) (pv 1) ai (λ_ _=>rfl)) (a_ _)))) (λ_ _ _ _=>(pv 0)) jt.nd rfl rfl))
   bG)
  (av (aL (bw (cz K) (by rfl) T.eQ dI (ae (bo (Im rfl) (by rfl) T.uW rW (ae (bw (Oq rfl) (by rfl) T.abu Xk (ae (pv 2) ag)) ag)) ag))))))),?_⟩
  refine⟨_,rfl,_,f,ss,rfl,hf,ov,λN H1 hN s1 eN=>?_⟩
  have nIN:I≠N:=aA eI hN
  have lr:rs.length=cF.length:=Ag tp
  have li:=je f
  have lt6:=JC ov
  have kl:∀ks∈cF,ks.length<=10:=λks hks=>by
   obtain⟨j,hj⟩:=BR hks
   have hl:j<f.inner.length:=by rw[<-lk];exact(AF.mp hj).1
   have:=(fr j ks _ hj (As hl)).len (wb ov _ (C5 hl))
   omega
  refine⟨_,rfl,I,rfl,⟨_,.of (s1 _ _ eI)⟩,jv (xs:=rs.map V.ref) (λi σ H'=>∃v3:Option V,σ=[some (.ref a),some (.ref I),some (.ref N),v3]/\KB N H1 H'/\H' N=some (.lst ((f.jg++(cF.take i).flatten).map V.str)))
   ⟨none,rfl,KB.refl _ _,by rw[List.take_zero,DZ,A8];exact eN⟩ (by rintro i σ H' _ ⟨_,_,h,_⟩;exact .of (h _ _ (s1 _ _ eI) nIN)) ?_ ?_⟩
  ·rintro i y σ H2 hy ⟨v3,rfl,k2,wg⟩
   obtain⟨r,rfl,hr'⟩:=JH hy
   obtain⟨ks,eks,er⟩:=js.get tp hr'
   have kt:bj H1 H2:=bj.kb eN k2
   have YR:=kt _ _ (s1 _ _ er)
   have l1:=ti (N:=10) (cF:=cF.take i) λz hz=>kl z (Cv hz)
   have l2:(cF.take i).length<=2:=by rw[Ao];omega
   have l3:=kl ks (AG eks)
   refine⟨_,rfl,.inl ⟨rfl,_,.of wg⟩,_,rfl,N,r,_,_,rfl,rfl,wg,.of YR,?_,_,rfl,k2.trans KB.write,?_⟩
   ·rw[AA,AA,AK]
    exact A5 (show _<=100 by omega) (by decide)
   ·rw[af,fM eks,HE,<-Cu,AI]
    simp
  rintro σ H2 ⟨v3,rfl,k2,wg⟩
  rw[AA,lr,Ap] at wg
  have s2:Same H H2:=s1.kbn hN k2
  have l1:=ti kl
  have Sl:∀y,y∈f.jg++cF.flatten↔(y∈f.jg∨∃g∈f.inner,g.Free y):=λy=>by
   rw[Ac,List.mem_flatten]
   constructor
   ·rintro(z | ⟨ks,hks,hy⟩)
    ·exact .inl z
    ·obtain⟨j,hj⟩:=BR hks
     have hl:j<f.inner.length:=by rw[<-lk];exact(AF.mp hj).1
     exact .inr ⟨_,C5 hl,((fr j ks _ hj (As hl)).mem y).mp hy⟩
   ·rintro(z | ⟨g,hg,hy⟩)
    ·exact .inl z
    ·obtain⟨j,hj⟩:=BR hg
     have hl:j<cF.length:=by rw[lk];exact(AF.mp hj).1
     exact .inr ⟨_,C5 hl,((fr j _ g (As hl) hj).mem y).mpr hy⟩
  have len0:(f.jg++cF.flatten).length<=40:=by rw[AK];omega
  generalize f.jg++cF.flatten=Uk at wg Sl len0
  dsimp only[aD]
  refine Rb (t:=zN _ _ _) (u:=QW _) (λσ H'=>∃(L:Addr) (ls:List Str) (v3:Option V),σ=[some (.ref a),some (.ref I),some (.ref L),v3]/\Same H H'/\H' L=some (.lst (ls.map V.str))/\(∀y,y∈ls↔f.Free y)/\ls.length<=40) ?re (λrest=>?ifp)
  case re=>
   rintro σ H3 ⟨L,ls,v3,rfl,s3,eL,mem,ll⟩
   refine⟨_,rfl,L,ls,rfl,.of eL,Ay (show ls.length+1<=41 by omega) (by decide),λp ks hp nd mk lk2=>?_⟩
   have t9:∀y,y∈ks↔f.Free y:=λy=>(mk y).trans (mem y)
   have l10:ks.length<=ss.length:=lC nd λy hy=>iY ov ((t9 y).mp hy)
   have sp:=Same.new (o:=Il P w p ks) hp
   refine⟨p,ks,rfl,af,by omega,λp2 zs hp2 perm LK=>?_⟩
   have Pj:=Same.new (o:=.lst (zs.map V.str)) hp2
   refine⟨p2,_,rfl,.inl ⟨.of af,λD hD=>?_⟩⟩
   have sD:=Same.new (o:=.tup (zs.map V.str)) hD
   exact k D zs _ ((s3.trans (sp.trans Pj)).free hD) (s3.trans ((sp.trans Pj).trans sD)) af ⟨LK,perm.nodup_iff.mpr nd,λy=>perm.mem_iff.trans (t9 y)⟩
  case ifp=>
   refine⟨_,rfl,a,xs,0,.str f.word,rfl,rfl,s2.uF hq,ak (j:=0) h0,by show 2<=sizeLine;decide,λZ hZ=>⟨Z,_,rfl,.inr (.of af),rfl,rfl,_,rfl,?_⟩⟩
   have sZ:=Same.new (o:=.tup [.str "some",.str "each"]) hZ
   have s3:=s2.trans sZ
   have LN:=sZ _ _ wg
   generalize upd H2 Z (.tup [.str "some",.str "each"])=H3 at s3 LN ⊢
   have ew:(if false=true then !inV (V.str f.word) [V.str "some",V.str "each"] else inV (V.str f.word) [V.str "some",V.str "each"])=f.binds.isSome:=by rw[if_neg (by decide),M7]
   rw[ew]
   cases eb:f.binds with
   | none=>
    refine lN (rest _ _ ⟨N,Uk,_,rfl,s3,LN,λy=>?_,len0⟩)
    rw[Sl y,JB,eb]
    simp
   | some n=>
    refine z_ ?_
    have at1:=hbd n eb
    refine⟨_,rfl,N,rfl,⟨_,.of LN⟩,λC hC=>?_⟩
    refine gA (xs:=Uk.map V.str) (λj σ H'=>∃v:Option V,σ=[v,some (.ref a)]/\Same H3 H'/\H' C=some (.lst (((Uk.take j).filter λy=> !decide (y=n)).map V.str)))
     ⟨none,?sg,Same.new hC,af⟩ (by rintro j σ H' _ ⟨_,_,s,_⟩;exact .of (s _ _ LN)) ?_ ?_
    case sg=>rfl
    ·rintro j y σ H4 hy ⟨v,rfl,s4,eC⟩
     obtain⟨z,rfl,ez⟩:=iS hy
     have ed:decide (V.str z=V.str n)=decide (z=n):=decide_eq_decide.mpr ⟨λh=>by injection h,λh=>by rw[h]⟩
     refine⟨_,rfl,_,rfl,a,xs,1,.str n,rfl,rfl,(s3.trans s4).uF hq,ak (j:=1) at1,rfl,_,rfl,?_⟩
     rw[ed]
     refine bJ (λhh=>?_) (λhh=>?_)
     ·refine⟨_,rfl,_,eC,?_,_,rfl,s4.kbn hC KB.write,?_⟩
      ·rw[AA]
       refine Ay (DL _ _) ?_
       rw[Ao]
       exact Ay (show min j Uk.length<=40 by omega) (by decide)
      ·rw[af,fM ez,FK,AI]
       simp[hh]
     ·refine⟨_,rfl,s4,?_⟩
      have hh':(!decide (z=n))=false:=by simpa using hh
      rw[eC,fM ez,FK]
      simp[hh']
    rintro σ H4 ⟨v,rfl,s4,eC⟩
    rw[AA,Ap] at eC
    refine rest _ _ ⟨C,_,_,rfl,s3.trans s4,eC,λy=>?_,A5 (DL _ _) len0⟩
    rw[Ei,Sl y,JB,eb]
    constructor
    ·rintro⟨a1,a2⟩
     exact⟨a1,λz=>by rw[<-AS z] at a2;simp at a2⟩
    ·rintro⟨a1,a2⟩
     exact⟨a1,by simpa using λz=>a2 (by rw[z])⟩
def keyOf(ns:List Nat):List Key:=ns.map λ(n:Nat)=>Du (n:Int)
theorem JK(ns:List Nat):c_ ns=(keyOf ns).map kV:=by
 unfold c_ keyOf
 rw[BL]
 rfl
theorem LV{ss:List Str}:∀(ns:List Nat) (f g:ay),f.Over ss->f.at ns=some g->g.Over ss
 | [],f,g,o,e=>by
  have e':f=g:=AS e
  rw[<-e'];exact o
 | n::ns,f,g,o,e=>by
  have e':(f.inner[n]?).bind (λg=>g.at ns)=some g:=e
  obtain⟨u,eu,ea⟩:=CQ.mp e'
  exact LV ns u g (wb o u (AG eu)) ea
theorem yF:∀{ns ms:List Nat},keyOf ns=keyOf ms->ns=ms
 | [],[],_=>rfl
 | [],_::_,h=>by cases h
 | _::_,[],h=>by cases h
 | n::ns,m::ms,h=>by
  have h1:(Du (n:Int):Key)=Du (m:Int):=(List.cons.inj h).1
  have h2:(n:Int)=m:=Sum.inl.inj h1
  rw[yF (List.cons.inj h).2,Int.ofNat_inj.mp h2]
def Known(H:Hp)(kvs:List (List Key×V))(es:List Ent):Prop:=∀e∈es,∃r ks,aZ kvs (keyOf e.1)=some (.ref r)/\H r=some (.tup (ks.map V.str))/\cL ks e.2
theorem M8{H:Hp}{kvs:List (List Key×V)}{g:ay}{ns:List Nat}{es:List Ent}(kn:Known H kvs es)(hk:∀(j:Nat) (h:ay),g.inner[j]? =some h->(ns++[j],h)∈es):
  ∃(rs:List Addr) (cF:List (List Str)),js H rs cF/\cF.length=g.inner.length/\(∀(j:Nat) (u:V),(rs.map V.ref)[j]? =some u->aZ kvs (keyOf (ns++[j]))=some u)/\
   ∀(j:Nat) (ks:List Str) (h:ay),cF[j]? =some ks->g.inner[j]? =some h->cL ks h:=by
 have all:∀n,n<=g.inner.length->∃(rs:List Addr) (cF:List (List Str)),js H rs cF/\cF.length=n/\(∀(j:Nat) (u:V),(rs.map V.ref)[j]? =some u->aZ kvs (keyOf (ns++[j]))=some u)/\
   ∀(j:Nat) (ks:List Str) (h:ay),cF[j]? =some ks->g.inner[j]? =some h->cL ks h:=by
  intro n
  induction n with
  | zero=>exact λ_=>⟨[],[],.nil,rfl,λj u z=>by simp at z,λj ks h z=>by simp at z⟩
  | succ n ih=>
   intro hn
   obtain⟨rs,cF,tp,lk,vs,fr⟩:=ih (by omega)
   have lrs:rs.length=cF.length:=Ag tp
   obtain⟨h,hh⟩:∃h,g.inner[n]? =some h:=⟨_,As hn⟩
   obtain⟨r,ks,ev,er,P_⟩:=kn _ (hk n h hh)
   refine⟨rs++[r],cF++[ks],bO tp (.cons er .nil),by rw[AK,lk];rfl,λj u z=>?_,λt ks' h' z1 z2=>?_⟩
   ·rw[AI] at z
    by_cases lt:j<rs.length
    ·rw[Ax (by rw[AA];exact lt)] at z
     exact vs j u z
    ·have hl:=(AF.mp z).1
     rw[AK,AA] at hl
     have hl':j<rs.length+1:=hl
     have e:j=n:=by omega
     subst e
     rw[Aq (by rw[AA];omega),AA,lrs,lk,B9] at z
     have z':V.ref r=u:=AS z
     rw[<-z'];exact ev
   ·by_cases lt:t<cF.length
    ·rw[Ax lt] at z1
     exact fr t ks' h' z1 z2
    ·have hl:=(AF.mp z1).1
     rw[AK] at hl
     have hl':t<cF.length+1:=hl
     have e:t=cF.length:=by omega
     subst e
     rw[Aq (AM _),B9] at z1
     have z1':ks=ks':=AS z1
     rw[lk,hh] at z2
     have z2':h=h':=AS z2
     rw[<-z1',<-z2'];exact P_
 exact all _ (AM _)
inductive P1 (K:AB)(vs:List V)(H:Hp)(Q:VK)(aJ:XK):Prop where
 | mk (D pl:Addr) (y:V) (g:ay) (kvs:List (List Key×V)) (ns:List Nat) (us:List V) (cG:vs=[.ref D,.ref pl,y]) (cD:ax K H y g.dt) (cE:H D=some (.dT kvs)) (dc:H pl=some (.tup (c_ ns))) (dZ:ns.length<=15) (fU:us.length=g.inner.length) (iH:(∀(j:Nat) (u:V),us[j]? =some u->aZ kvs (keyOf (ns++[j]))=some u)) (j8:∀(C:Addr) (H':Hp),H C=none->Same H H'->H' C=some (.lst us)->Q (.ref C) H')
def JL(K:AB):Sp:=λvs H Q aJ=>P1 K vs H Q aJ
inductive M9 (K:AB)(vs:List V)(H:Hp)(Q:VK)(aJ:XK):Prop where
 | mk (x:V) (f:ay) (ss:List Str) (cG:vs=[x]) (cD:ax K H x f.dt) (cE:f.deep<=15) (dc:f.Over ss) (dZ:ss.length<=10) (fU:∀(D:Addr) (kvs:List (List Key×V)) (r:Addr) (ks:List Str) (H':Hp),Same H H'->H' D=some (.dT kvs)->aZ kvs []=some (.ref r)->H' r=some (.tup (ks.map V.str))->cL ks f->Q (.ref D) H')
def yG(K:AB):Sp:=λvs H Q aJ=>M9 K vs H Q aJ
inductive Wb (K:AB)(vs:List V)(H:Hp)(Q:VK)(aJ:XK):Prop where
 | mk (x:V) (f:ay) (ss:List Str) (cG:vs=[x]) (cD:ax K H x f.dt) (cE:f.deep<=15) (dc:f.Over ss) (dZ:ss.length<=10) (fU:∀(r:Addr) (ks:List Str) (H':Hp),Same H H'->H' r=some (.tup (ks.map V.str))->cL ks f->Q (.ref r) H')
def wj(K:AB):Sp:=λvs H Q aJ=>Wb K vs H Q aJ
theorem u0:aP ["told","place","saying"] ["told","place","saying"] (ah dg):=⟨rfl,rfl,rfl,by decide+kernel,rfl,by decide+kernel,by decide+kernel⟩
theorem u3{a:bh}{b:mD}(T:Txt K mg a)(U:jr K w.params mg b):aO P w K mg base aW 2 a.fI a.gQ ["told","place","saying"] (JL K):=by
 have mF:aO P w K mg base aW 1 a.fB a.gg ["saying"] (xn K):=p9 T U
 refine T.vS.ok u0 (λvs H Q E h=>?_) (λcdv A outer s H vs Q E hr h=>?_)
 ·obtain⟨D,pl,y,g,kvs,ns,us,rfl,_⟩:=h
  rfl
 ·obtain⟨D,pl,y,g,kvs,ns,us,rfl,dy,eD,kg,hns,Yi,hus,k⟩:=h
  have kU:aK 1 _:=hr
  refine⟨_,(av (aL (bU (aN.mk' (esc:=ah dg) (N:=["told","place","saying"]) (own:=["number"]) (aR:=["told","place"]) (bS:=[0,1]) rfl rfl (by decide+kernel)) rfl (dm rfl T.eP (ae (bo (cx K) (by rfl) T.gT fb (ae (aq mF kU rfl T.ri T.rj T.rl .nil az (ae (pv 2) ag)) ag)) ag)) (λ_ _ _ _=>(aF (i:=0) (show A4 (["number","told","place"]:List Str) by decide+kernel) rfl (Ab rfl))) (λ_ _ _ _=>bz) (λ_ _ _ _=>(cv (cf hr) (pv 1) (aI (uG K) (pv 2) (bq (ae (pv 0) ag))) (λ_ _=>rfl)))))),?_⟩
  refine⟨_,rfl,y,g,rfl,dy,λD2 xs H4 hD2 s4 aeG Ui=>?_⟩
  have lx:xs.length=g.inner.length:=by rw[Ui.length,AA]
  refine⟨_,xs.length,rfl,.inl ⟨_,.of aeG,rfl⟩,?_⟩
  have gin:=je g
  have LW:=s4 _ _ eD
  have aeH:=s4 _ _ kg
  refine⟨_,rfl,by omega,by omega,λC hC=>?_⟩
  refine jV (lo:=0) (λj σ H'=>∃(v:Option V),σ=[v,some (.ref D),some (.ref pl)]/\Same H4 H'/\H' C=some (.lst (us.take j)))
   ⟨none,?sg,Same.new hC,af⟩ ?_ ?_
  case sg=>rfl
  ·rintro j σ H5 hj ⟨v,rfl,s5,eC⟩
   have hj':j<us.length:=by omega
   have ej:(0:Int)+(j:Int)=(j:Int):=by omega
   obtain⟨u,hu⟩:∃u,us[j]? =some u:=⟨_,As hj'⟩
   have ev:=hus j u hu
   have done:∀(pn:Addr) (H6:Hp),Same H5 H6->H6 pn=some (.tup (c_ (ns++[j])))->∃(a:Addr) (v:V),V.ref D=.ref a/\km H6 a (.ref pn) (some v)/\∃ys,H6 C=some (.lst ys)/\ys.length<sizeLine/\
     ∃(v':Option V),[some (V.int (0+(j:Int))),some (.ref D),some (.ref pl)]=[v',some (.ref D),some (.ref pl)]/\Same H4 (upd H6 C (.lst (ys++[v])))/\(upd H6 C (.lst (ys++[v]))) C=some (.lst (us.take (j+1))):=λpn H6 s6 YQ=>by
    have s46:=s5.trans s6
    have eC6:=s6 _ _ eC
    refine⟨D,u,rfl,.inr ⟨kvs,keyOf (ns++[j]),pn,.inl (s46 _ _ LW),rfl,by rw[YQ,JK],ev.symm⟩,_,eC6,?_,_,rfl,s46.kbn hC KB.write,by rw[af,fM hu]⟩
    rw[Ao];exact AX (show min j us.length<10 by omega) (by decide)
   refine⟨_,rfl,_,rfl,_,rfl,by show 1<=sizeLine;decide,λoo hoo=>?_⟩
   have so:=Same.new (o:=.tup [.int (0+(j:Int))]) hoo
   have PY:(upd H5 oo (.tup [.int (0+(j:Int))])) oo=some (.tup (c_ [j])):=by rw[af,ej];rfl
   have M':=s5 _ _ aeH
   refine⟨pl,oo,c_ ns,c_ [j],rfl,rfl,.of (so _ _ M'),.of PY,by simp[c_],?_,λhn=>?_,λhn pn hpn=>?_⟩
   ·rw[c_,c_,AA,AA]
    exact A5 (show _<=100 by simp;omega) (by decide)
   ·have hn':ns=[]:=by cases ns with | nil=>rfl | cons _ _=>cases hn
    have e1:c_ (ns++[j])=c_ [j]:=by rw[hn'];rfl
    exact done oo _ so (by rw[e1];exact PY)
   ·exact done pn _ (so.trans (Same.new hpn)) (by rw[af,c_,c_,c_,AI])
  rintro σ H5 ⟨v,rfl,s5,eC⟩
  rw[Au,lx,<-Yi,Ap] at eC
  exact k C H5 (s4.free hC) (s4.trans s5) eC
theorem fY:aP ["saying","names","place","part"] ["saying"] (ah dP):=⟨rfl,rfl,rfl,by decide+kernel,rfl,by decide+kernel,by decide+kernel⟩
theorem t6{a:bh}{b:mD}{c:oa}(T:Txt K mg a)(U:jr K w.params mg b)(Y:j9 K w.params mg c):aO P w K mg base aW 3 a.fj a.fX ["saying"] (yG K):=by
 have wk:aO P w K mg base aW 2 a.fI a.gQ ["told","place","saying"] (JL K):=u3 T U
 have u4:aO P w K mg base aW 2 a.fi a.fW ["saying"] (LU K):=t5 T U
 have JM:aO P w K mg base aW 2 a.iD a.jn ["saying","inner"] (PZ K):=zj T Y
 refine T.uR.ok fY (λvs H Q E h=>?_) (λcdv A outer s H vs Q E hr h=>?_)
 ·obtain⟨x,f,ss,rfl,_⟩:=h
  rfl
 ·obtain⟨x,f,ss,rfl,hf,hdp,ov,hss,k⟩:=h
  have u5:aK 2 _:=hr
  have t7:aK 2 _:=hr
  have zl:aK 2 _:=hr
  refine⟨_,(aj (aw (i:=1) fY.nd rfl (Ab rfl) Q8)
  (aj (cK Aw rfl (dH (aq u4 t7 rfl T.uO T.uP T.uQ .nil az (ae (pv 0) ag))) (vo rfl (bX (aF (i:=2) fY.nd rfl (Ab rfl)) (bX (aF (i:=3) fY.nd rfl (Ab rfl)) ib)))
   (av (pN (cf hr) (pv 1) (pv 2) (aq JM zl rfl T.Jb T.Jc T.Jd .nil az (ae (pv 3) (ae (aq wk u5 rfl T.vT T.vU T.vV .nil az (ae (pv 1) (ae (pv 2) (ae (pv 3) ag)))) ag))) rfl)))
  (av (aL (pv 1))))),?_⟩
  refine λD hD=>?_
  have sD:=Same.new (o:=.dT []) hD
  refine⟨_,rfl,x,f,rfl,gM sD.kts _ _ f.ja hf,hdp,λL qs es H2 hL s2 eL prs late les=>?_⟩
  have sI:H2 D=some (.dT []):=s2 _ _ af
  have nLD:L≠D:=(aA af hL).symm
  have lqs:qs.length=es.length:=Ag prs
  have sH2:=sD.trans s2
  refine⟨L,rfl,⟨_,.of eL⟩,jv (xs:=qs.map V.ref) (λi σ H'=>∃(kvs:List (List Key×V)) (v2 v3:Option V),σ=[some x,some (.ref D),v2,v3]/\KB D H2 H'/\H' D=some (.dT kvs)/\kvs.length<=i/\Known H' kvs (es.take i))
   ⟨[],none,none,rfl,KB.refl _ _,sI,AM _,λe he=>by simp at he⟩ (by rintro i σ H' _ ⟨_,_,_,_,h,_⟩;exact .of (h _ _ eL nLD)) ?_ ?_⟩
  ·rintro i y0 σ H3 hy ⟨kvs,v2,v3,rfl,k3,yH,lkv,kn⟩
   obtain⟨q,rfl,hq⟩:=JH hy
   obtain⟨⟨ns,g⟩,he,pq⟩:=LO prs hq
   have YS:bj H2 H3:=bj.dT sI k3
   have ks3:kf K H2 H3:=KB.aeF sI k3
   obtain⟨pl,y,eq,kg,dy⟩:=pq.keep YS ks3
   have hin:=AG he
   have Ul:f.at ns=some g:=late.here _ hin
   have gov:=LV ns f g ov Ul
   have hi:i<es.length:=(AF.mp he).1
   refine⟨q,_,rfl,.of eq,rfl,_,_,rfl,_,_,rfl,rfl,?_⟩
   have gin:=je g
   obtain⟨rs,cF,tp,lk,vs',fr⟩:=M8 (kvs:=kvs) (H:=H3) (g:=g) (ns:=ns) (es:=es.take i) kn (λj h hh=>by
    obtain⟨j',hj2,ee⟩:=late.kid i ns g he j h hh
    exact AG (i:=j') (by rw[FZ hj2];exact ee))
   have lrs:rs.length=cF.length:=Ag tp
   refine⟨_,rfl,_,rfl,_,rfl,_,rfl,D,pl,y,g,kvs,ns,rs.map V.ref,rfl,dy,yH,kg,JG hdp Ul,by rw[AA,lrs,lk],vs',λC H5 hC s5 eC=>?_⟩
   refine⟨y,g,ss,C,rs,cF,rfl,gM s5.kts _ _ g.ja dy,gov,hss,eC,js.keep s5.kt tp,lk,fr,λD3 ks H6 hD3 s6 aeI P_=>?_⟩
   have Um:=s5.trans s6
   have eD6:=Um _ _ yH
   have Sk:=Um _ _ kg
   refine⟨_,rfl,_,rfl,D,_,rfl,jU.t (k:=keyOf ns) eD6 (by rw[Sk,JK]) (Ay (show kvs.length<=100000 by omega) (by decide)),?_⟩
   have LX:bj H6 (upd H6 D (.dT (putK kvs (keyOf ns) (.ref D3)))):=bj.dT eD6 KB.write
   refine⟨_,_,_,rfl,(k3.trans Um.kb).trans KB.write,af,A5 (i' _ _ _) (by omega),λe hm=>?_⟩
   rw[fM he] at hm
   by_cases ek:keyOf e.1=keyOf ns
   ·have en:=yF ek
    have eg:e.2=g:=by
     have h1:f.at e.1=some e.2:=by
      rcases Ac.mp hm with z | z
      ·exact late.here e (Cv z)
      ·rw[AW.mp z];exact Ul
     rw[en,Ul] at h1
     exact(AS h1).symm
    exact⟨D3,ks,by rw[uC,if_pos ek],LX _ _ aeI,by rw[eg];exact P_⟩
   ·rcases Ac.mp hm with z | z
    ·obtain⟨r,ks',a1,a2,a3⟩:=kn e z
     exact⟨r,ks',by rw[uC,if_neg ek];exact a1,LX _ _ (Um.kt _ _ a2),a3⟩
    ·exact absurd (by rw[AW.mp z]) ek
  ·rintro σ H3 ⟨kvs,v2,v3,rfl,k3,yH,lkv,kn⟩
   rw[AA,lqs,Ap] at kn
   obtain⟨r,ks,a1,a2,a3⟩:=kn _ late.root
   exact⟨_,rfl,k D kvs r ks H3 (sH2.kbn hD k3) yH a1 a2 a3⟩
theorem zm:aP ["saying"] ["saying"] (ah gc):=⟨rfl,rfl,rfl,by decide+kernel,rfl,by decide+kernel,by decide+kernel⟩
theorem mG{a:bh}{b:mD}{c:oa}(T:Txt K mg a)(U:jr K w.params mg b)(Y:j9 K w.params mg c):aO P w K mg base aW 4 a.fk a.fC ["saying"] (wj K):=by
 have u6:aO P w K mg base aW 3 a.fj a.fX ["saying"] (yG K):=t6 T U Y
 refine T.Je.ok zm (λvs H Q E h=>?_) (λcdv A outer s H vs Q E hr h=>?_)
 ·obtain⟨x,f,ss,rfl,_⟩:=h
  rfl
 ·obtain⟨x,f,ss,rfl,hf,hdp,ov,hss,k⟩:=h
  have t8:aK 3 _:=hr
  refine⟨_,(av (aL (cv (cf hr) (aq u6 t8 rfl T.uS T.uT T.uV .nil az (ae (pv 0) ag)) (bq ag) (λ_ _=>rfl)))),?_⟩
  refine⟨_,rfl,x,f,ss,rfl,hf,hdp,ov,hss,λD kvs r ks H1 s1 eD ev er P_=>⟨by decide,λe he=>?_⟩⟩
  have se:=Same.new (o:=.tup []) he
  exact⟨D,.ref r,rfl,.inr ⟨kvs,[],e,.inl (se _ _ eD),rfl,af,ev.symm⟩,k r ks _ (s1.trans se) (se _ _ er) P_⟩
def bp(H:Hp)(a:Addr)(t:Term):Prop:=∃(b:Addr) (ps:List Addr),H a=some (.tup [.int t.num,.ref b])/\H b=some (.tup (ps.map V.ref))/\Bl (λ(p:Addr) (q:Str×Int)=>H p=some (.tup [.str q.1,.int q.2])) ps t.parts
theorem bp.keep{H H':Hp}{a:Addr}{t:Term}(h:bp H a t)(k:bj H H'):bp H' a t:=by
 obtain⟨b,ps,h1,h2,h3⟩:=h
 exact⟨b,ps,k _ _ h1,k _ _ h2,Paired.rM h3 λ_ _ z=>k _ _ z⟩
def bH(n:Str):List (Str×Int)->Int->Int
 | [],d=>d
 | p::ps,d=>bH n ps (if n=p.1 then p.2 else d)
def Term.at(t:Term)(n:Str):Int:=bH n t.parts 0
def gV(p:Str×Int):Key×V:=(Am p.1,.int p.2)
theorem wm(n:Str):∀(ps:List (Str×Int)) (kvs:List (Key×V)) (d:Int),(aZ kvs (Am n)).getD (.int 0)=.int d->(aZ (bL kvs (ps.map gV)) (Am n)).getD (.int 0)=.int (bH n ps d)
 | [],kvs,d,h=>h
 | p::ps,kvs,d,h=>by
  show(aZ (bL (putK kvs (Am p.1) (.int p.2)) (ps.map gV)) (Am n)).getD (.int 0)=_
  refine wm n ps _ _ ?_
  rw[uC]
  by_cases e:n=p.1
  ·rw[if_pos (by rw[e]),if_pos e];rfl
  ·rw[if_neg (λz=>e (Gi z)),if_neg e];exact h
theorem Term.JN(t:Term)(n:Str):(aZ (bL [] (t.parts.map gV)) (Am n)).getD (.int 0)=.int (t.at n):=wm n t.parts [] 0 rfl
inductive Sm (vs:List V)(H:Hp)(Q:VK)(aJ:XK):Prop where
 | mk (a nm:Addr) (t:Term) (ss:List Str) (cG:vs=[.ref a,.ref nm]) (cD:bp H a t) (cE:t.parts.length<=100) (dc:H nm=some (.tup (ss.map V.str))) (dZ:ss.length<=100) (fU:∀(D:Addr) (H':Hp),H D=none->Same H H'->H' D=some (.lst ((ss.map t.at).map V.int))->Q (.ref D) H')
def Wc:Sp:=λvs H Q aJ=>Sm vs H Q aJ
theorem uv:aP ["term","names","times"] ["term","names"] (ah gP):=⟨rfl,rfl,rfl,by decide+kernel,rfl,by decide+kernel,by decide+kernel⟩
theorem pB{a:bh}(T:Txt K mg a):aO P w K mg base aW 1 a.mS a.o9 ["term","names"] Wc:=by
 refine T.MT.ok uv (λvs H Q E h=>?_) (λcdv A outer s H vs Q E hr h=>?_)
 ·obtain⟨ta,nm,t,ss,rfl,_⟩:=h
  rfl
 ·obtain⟨ta,nm,t,ss,rfl,⟨b,ps,e1,e2,e3⟩,lp,en,ls,k⟩:=h
  refine⟨_,(aj (aw (i:=2) uv.nd rfl (CT rfl) (bw (qy hr.hd) (by rfl) T.nQ ko (ae (au (ao K) (pv 0) ai (λ_ _=>rfl)) ag)))
  (av (aL (bU (aN.mk' (esc:=ah gP) (N:=["term","names","times"]) (own:=["name"]) (aR:=["times"]) (bS:=[2]) rfl rfl (by decide+kernel)) rfl (dF (pv 1)) (λ_ _ _ _=>(aF (i:=0) (show A4 (["name","times"]:List Str) by decide+kernel) rfl (Ab rfl))) (λ_ _ _ _=>bz) (λ_ _ _ _=>(uD (cf hr) (pv 1) (pv 0) ai ⟨rfl,rfl,rfl,rfl⟩)))))),?_⟩
  have big:(10000:Nat)<=sizeLine:=by decide
  have pk:Bl (λ(p:Addr) (q:Key×V)=>H p=some (.tup [kV q.1,q.2])) ps (t.parts.map gV):=by
   clear lp e1 e2
   generalize t.parts=l at e3
   induction e3 with
   | nil=>exact .nil
   | cons h _ ih=>exact .cons h ih
  refine⟨_,rfl,ta,_,_,.ref b,rfl,rfl,.of e1,ak (j:=1) rfl,b,ps,_,rfl,e2,pk,by rw[AA];omega,λD hD=>?_⟩
  have sD:=Same.new (o:=.dK (bL [] (t.parts.map gV))) hD
  dsimp only[aD]
  refine⟨_,rfl,nm,rfl,⟨_,.of (sD _ _ en)⟩,λC hC=>?_⟩
  have hCD:D≠C:=aA (show(upd H D (.dK (bL [] (t.parts.map gV)))) D=some _ from af) hC
  have hC0:H C=none:=sD.free hC
  refine cR (xs:=ss.map V.str) (λi σ H'=>∃v:Option V,σ=[v,some (.ref D)]/\Same H H'/\H' D=some (.dK (bL [] (t.parts.map gV)))/\H' C=some (.lst (((ss.take i).map t.at).map V.int)))
   ⟨none,?sg,sD.trans (Same.new hC),by rw[aB hCD];exact af,af⟩ (by rintro i σ H' _ ⟨_,_,s',_⟩;exact .of (s' _ _ en)) ?_ ?_
  case sg=>rfl
  ·rintro i x σ H' hx ⟨v,rfl,s',d',c'⟩
   obtain⟨n,rfl,en'⟩:=iS hx
   have hi:=(AF.mp en').1
   refine⟨_,rfl,D,rfl,.inl ⟨_,.inl d'⟩,_,rfl,_,.inl ⟨_,Am n,.inl d',rfl,rfl⟩,?_⟩
   rw[t.JN n]
   refine⟨_,c',?_,_,rfl,s'.kbn hC0 KB.write,by rw[aB hCD];exact d',?_⟩
   ·rw[AA,AA,Ao];omega
   ·rw[af,take_snoc en',AI,AI];rfl
  rintro σ H' ⟨v,rfl,s',d',c'⟩
  rw[AA,Ap] at c'
  exact k C H' hC0 s' c'
def dot:List Int->List Int->Int
 | x::xs,y::ys=>x*y+dot xs ys
 | _,_=>0
inductive YT (vs:List V)(H:Hp)(Q:VK)(aJ:XK):Prop where
 | mk (a b:Addr) (xs ys:List Int) (cG:vs=[.ref a,.ref b]) (cD:H a=some (.tup (xs.map V.int))) (cE:H b=some (.lst (ys.map V.int))) (dc:xs.length=ys.length) (dZ:ys.length<=100) (fU:(∀x∈xs,0<=x/\x<100)) (iH:∀H',Same H H'->Q (.int (dot xs ys)) H')
def abx:Sp:=λvs H Q aJ=>YT vs H Q aJ
theorem LY:∀(xs ys:List Int),(EN (· * ·) xs ys).sum=dot xs ys
 | [],_=>rfl
 | _::_,[]=>rfl
 | x::xs,y::ys=>by rw[GP,By,LY xs ys];rfl
theorem Wf{xs ys:List Int}{i:Nat}{x y:Int}(hx:xs[i]? =some x)(hy:ys[i]? =some y):EN (· * ·) (xs.take (i+1)) (ys.take (i+1))=EN (· * ·) (xs.take i) (ys.take i)++[x*y]:=by
 rw[take_snoc hx,take_snoc hy,List.zipWith_append]
 ·rfl
 ·have h1:=(AF.mp hx).1
  have h2:=(AF.mp hy).1
  rw[Ao,Ao];omega
theorem P2:aP ["letter","times"] ["letter","times"] (ah jy):=⟨rfl,rfl,rfl,by decide+kernel,rfl,by decide+kernel,by decide+kernel⟩
theorem P4{a:bh}(T:Txt K mg a):aO P w K mg base aW 1 a.qz a.r9 ["letter","times"] abx:=by
 refine T.RL.ok P2 (λvs H Q E h=>?_) (λcdv A outer s H vs Q E hr h=>?_)
 ·obtain⟨a1,a2,xs,ys,rfl,_⟩:=h
  rfl
 ·obtain⟨a1,a2,xs,ys,rfl,e1,e2,hl,hy,hx,k⟩:=h
  refine⟨_,(av (aL (bo (oG K) (by rfl) T.zD vK (ae (bU (aN.mk' (esc:=ah jy) (N:=["letter","times"]) (own:=["figure","many"]) (aR:=[]) (bS:=[]) rfl rfl (by decide+kernel)) rfl (VU rfl T.T3 (ae (pv 0) (ae (pv 1) ag))) (λ_ _ _ _=>(kr K (n:=2) rfl (bX (aF (i:=0) (show A4 (["figure","many"]:List Str) by decide+kernel) rfl (Ab rfl)) (bX (aF (i:=1) (show A4 (["figure","many"]:List Str) by decide+kernel) rfl (Ab rfl)) ib)))) (λ_ _ _ _=>bz) (λ_ _ _ _=>(aI fZ (pv 0) (pv 1)))) ag)))),?_⟩
  have big:(10000:Nat)<=sizeLine:=by decide
  refine⟨_,rfl,_,rfl,a1,a2,rfl,⟨_,.of e1⟩,⟨_,.of e2⟩,λC hC=>?_⟩
  have n2:a2≠C:=aA e2 hC
  refine OM (xs:=xs.map V.int) (ys:=ys.map V.int) (λi σ H'=>∃v1 v2:Option V,σ=[v1,v2]/\Same H H'/\H' C=some (.lst ((EN (· * ·) (xs.take i) (ys.take i)).map V.int))) (by rw[AA,AA];exact hl)
   ⟨none,none,?sg,Same.new hC,af⟩ (by rintro i σ H' _ ⟨_,_,_,s',_⟩;exact⟨.of (s' _ _ e1),.of (s' _ _ e2)⟩) ?_ ?_
  case sg=>rfl
  ·rintro i u v p σ H1 hu hv ⟨v1,v2,rfl,s1,c1⟩ hp
   obtain⟨x,rfl,ex⟩:=kq hu
   obtain⟨y,rfl,ey⟩:=kq hv
   have hb:=hx x (AG ex)
   have sp:=Same.new (o:=.tup [.int x,.int y]) hp
   have hi:=(AF.mp ex).1
   refine⟨p,_,rfl,.of af,rfl,_,_,rfl,_,_,rfl,rfl,?_⟩
   refine⟨_,rfl,_,rfl,_,_,rfl,rfl,.inl ⟨by omega,by omega⟩,_,sp _ _ c1,?_,_,_,rfl,(s1.trans sp).kbn hC KB.write,?_⟩
   ·rw[AA,List.length_zipWith,Ao,Ao];omega
   ·rw[af,Wf ex ey,AI];rfl
  rintro σ H1 ⟨v1,v2,rfl,s1,c1⟩
  rw[AA,Ap,hl,Ap] at c1
  refine⟨C,_,rfl,.of c1,?_⟩
  rw[LY]
  exact k H1 s1
inductive Sn (vs:List V)(H:Hp)(Q:VK)(aJ:XK):Prop where
 | mk (b:Nat) (a:Addr) (ys:List Int) (cG:vs=[.int b,.ref a]) (cD:b<=4) (cE:H a=some (.lst (ys.map V.int))) (dc:ys.length<=4) (dZ:∀(D:Addr) (H':Hp),H D=none->Same H H'->H' D=some (.lst (((lets b ys.length).map λl=>dot l ys).map V.int))->Q (.ref D) H')
def Wg:Sp:=λvs H Q aJ=>Sn vs H Q aJ
theorem qb(b:Nat):∀(n:Nat) (l:List Int),l∈lets b n->∀x∈l,0<=x/\x<b
 | 0,l,h,x,hx=>by rw[show l=[] from AW.mp h] at hx;cases hx
 | n+1,l,h,x,hx=>by
  obtain⟨l',h1,h2⟩:=EZ.mp (show l∈(lets b n).flatMap λl=>(A9 b).map λ(f:Nat)=>l++[(f:Int)] from h)
  obtain⟨f,hf,rfl⟩:=AZ.mp h2
  have:=Bv.mp hf
  rcases Ac.mp hx with z | z
  ·exact qb b n l' h1 x z
  ·rw[AW.mp z];omega
def aE(b:Nat)(ys:List Int):List Int:=(lets b ys.length).map λl=>dot l ys
theorem lH(b:Nat)(ys:List Int):(aE b ys).length=b ^ ys.length:=by unfold aE;rw[AA,kQ]
theorem xp:aP ["base","times"] ["base","times"] (ah d8):=⟨rfl,rfl,rfl,by decide+kernel,rfl,by decide+kernel,by decide+kernel⟩
theorem iZ{a:bh}(T:Txt K mg a):aO P w K mg base aW 2 a.jo a.kG ["base","times"] Wg:=by
 have mC:=p6 (P:=P) (w:=w) (base:=base) T
 have So:=P4 (P:=P) (w:=w) (base:=base) T
 refine T.y9.ok xp (λvs H Q E h=>?_) (λcdv A outer s H vs Q E hr h=>?_)
 ·obtain⟨b,ta,ys,rfl,_⟩:=h
  rfl
 ·obtain⟨b,ta,ys,rfl,hb4,e,hy,k⟩:=h
  have kS:aK 1 _:=hr
  have P5:aK 1 _:=hr
  refine⟨_,(av (aL (bU (aN.mk' (esc:=ah d8) (N:=["base","times"]) (own:=["letter"]) (aR:=["times"]) (bS:=[1]) rfl rfl (by decide+kernel)) rfl (dH (aq mC kS rfl T.rf T.rg T.rh .nil az (ae (pv 0) (ae (bo (cx K) (by rfl) T.gT fb (ae (pv 1) ag)) ag)))) (λ_ _ _ _=>(aF (i:=0) (show A4 (["letter","times"]:List Str) by decide+kernel) rfl (Ab rfl))) (λ_ _ _ _=>bz) (λ_ _ _ _=>(aq So P5 rfl T.RM T.RN T.RO .nil az (ae (pv 0) (ae (pv 1) ag))))))),?_⟩
  have big:(10000:Nat)<=sizeLine:=by decide
  refine⟨_,rfl,_,rfl,.ref ta,ys.length,rfl,.inl ⟨_,.of e,by rw[AA]⟩,b,ys.length,rfl,hb4,hy,λD ps H1 hD s1 d1 tp=>?_⟩
  refine⟨D,rfl,⟨_,.of d1⟩,λC hC=>?_⟩
  have e1:=s1 _ _ e
  have hpl:ps.length<=256:=by
   rw[Ag tp,kQ];exact oZ hb4 hy
  refine gA (xs:=ps.map V.ref) (λi σ H'=>∃v:Option V,σ=[v,some (.ref ta)]/\Same H1 H'/\H' C=some (.lst ((((lets b ys.length).take i).map λl=>dot l ys).map V.int)))
   ⟨none,?sg,Same.new hC,af⟩ (by rintro i σ H' _ ⟨_,_,s',_⟩;exact .of (s' _ _ d1)) ?_ ?_
  case sg=>rfl
  ·rintro i x σ H' hx ⟨v,rfl,s',c'⟩
   obtain⟨p,rfl,ep⟩:=kP hx
   obtain⟨l,el,hl⟩:=tp.get ep
   have hm:=AG el
   have hi:=(AF.mp ep).1
   refine⟨_,rfl,_,rfl,p,ta,l,ys,rfl,s' _ _ hl,s' _ _ e1,uX b _ l hm,by omega,λx hx=>by have:=qb b _ l hm x hx;omega,λH2 s2=>?_⟩
   refine⟨_,s2 _ _ c',?_,_,rfl,(s'.trans s2).kbn hC KB.write,?_⟩
   ·rw[AA,AA,Ao];omega
   ·rw[af,take_snoc el,AI,AI];rfl
  rintro σ H' ⟨v,rfl,s',c'⟩
  rw[AA,Ag tp,Ap] at c'
  exact k C H' (s1.free hC) (s1.trans s') c'
inductive Sq (vs:List V)(H:Hp)(Q:VK)(aJ:XK):Prop where
 | mk (sy a b nm:Addr) (w0:V) (t u:Term) (ss:List Str) (cG:vs=[.ref sy,.ref nm]) (cD:H sy=some (.tup [w0,.ref a,.ref b])) (cE:bp H a t) (dc:bp H b u) (dZ:t.parts.length<=100) (fU:u.parts.length<=100) (iH:H nm=some (.tup (ss.map V.str))) (j8:ss.length<=100) (mM:∀(D:Addr) (H':Hp),H D=none->Same H H'->H' D=some (.lst ((ss.map λn=>t.at n-u.at n).map V.int))->Q (.ref D) H')
def Wh:Sp:=λvs H Q aJ=>Sq vs H Q aJ
theorem P6{ss:List Str}{i:Nat}{n:Str}(t u:Term)(h:ss[i]? =some n):(((ss.take (i+1)).map λn=>t.at n-u.at n).map V.int)=(((ss.take i).map λn=>t.at n-u.at n).map V.int)++[.int (t.at n-u.at n)]:=by
 rw[take_snoc h,AI,AI];rfl
theorem kX:aP ["saying","names","left","right"] ["saying","names"] (ah d9):=⟨rfl,rfl,rfl,by decide+kernel,rfl,by decide+kernel,by decide+kernel⟩
theorem qc{a:bh}(T:Txt K mg a):aO P w K mg base aW 2 a.jq a.kH ["saying","names"] Wh:=by
 have gW:=pB (P:=P) (w:=w) (base:=base) T
 refine T.za.ok kX (λvs H Q E h=>?_) (λcdv A outer s H vs Q E hr h=>?_)
 ·obtain⟨sy,ta,tb,nm,w0,t,u,ss,rfl,_⟩:=h
  rfl
 ·obtain⟨sy,ta,tb,nm,w0,t,u,ss,rfl,es,e1,e2,l1,l2,en,ls,k⟩:=h
  have fS:aK 1 _:=hr
  refine⟨_,(aj (aw (i:=2) kX.nd rfl (Ab rfl) (aq gW fS rfl T.j5 T.j6 T.j7 .nil az (ae (au (ao K) (pv 0) ai (λ_ _=>rfl)) (ae (pv 1) ag))))
  (aj (aw (i:=3) kX.nd rfl (Ab rfl) (aq gW fS rfl T.j5 T.j6 T.j7 .nil az (ae (au (ao K) (pv 0) ai (λ_ _=>rfl)) (ae (pv 1) ag))))
  (av (aL (bU (aN.mk' (esc:=ah d9) (N:=["saying","names","left","right"]) (own:=["one","other"]) (aR:=[]) (bS:=[]) rfl rfl (by decide+kernel)) rfl (Xw rfl T.T3 (ae (pv 2) (ae (pv 3) ag))) (λ_ _ _ _=>(kr K (n:=2) rfl (bX (aF (i:=0) (show A4 (["one","other"]:List Str) by decide+kernel) rfl (Ab rfl)) (bX (aF (i:=1) (show A4 (["one","other"]:List Str) by decide+kernel) rfl (Ab rfl)) ib)))) (λ_ _ _ _=>bz) (λ_ _ _ _=>(aI ix (pv 0) (pv 1)))))))),?_⟩
  have big:(10000:Nat)<=sizeLine:=by decide
  refine⟨_,rfl,sy,_,_,.ref ta,rfl,rfl,.of es,ak (j:=1) rfl,_,rfl,ta,nm,t,ss,rfl,e1,l1,en,ls,λD1 H1 hD1 s1 d1=>?_⟩
  dsimp only[aD]
  refine⟨_,rfl,sy,_,_,.ref tb,rfl,rfl,.of (s1 _ _ es),ak (j:=2) rfl,_,rfl,tb,nm,u,ss,rfl,e2.keep s1.kt,l2,s1 _ _ en,ls,λD2 H2 hD2 s2 d2=>?_⟩
  dsimp only[aD]
  have d12:=s2 _ _ d1
  refine⟨_,rfl,_,rfl,D1,D2,rfl,⟨_,.of d12⟩,⟨_,.of d2⟩,λC hC=>?_⟩
  refine RE (xs:=(ss.map t.at).map V.int) (ys:=(ss.map u.at).map V.int) (λi σ H'=>∃v1 v2:Option V,σ=[v1,v2]/\Same H2 H'/\H' C=some (.lst (((ss.take i).map λn=>t.at n-u.at n).map V.int))) (by rw[AA,AA,AA,AA])
   ⟨none,none,?sg,Same.new hC,af⟩ (by rintro i σ H' _ ⟨_,_,_,s',_⟩;exact⟨.of (s' _ _ d12),.of (s' _ _ d2)⟩) ?_ ?_
  case sg=>rfl
  ·rintro i x y p σ H' hx hy ⟨v1,v2,rfl,s',c'⟩ hp
   obtain⟨x,rfl,ex⟩:=kq hx
   obtain⟨y,rfl,ey⟩:=kq hy
   rw[AU] at ex ey
   obtain⟨n,en',rfl⟩:=Bf.mp ex
   rw[en'] at ey
   have ey:=AS ey
   subst ey
   have hi:=(AF.mp en').1
   have sp:=Same.new (o:=.tup [.int (t.at n),.int (u.at n)]) hp
   refine⟨p,_,rfl,.of af,rfl,_,_,rfl,_,_,rfl,rfl,?_⟩
   refine⟨_,rfl,_,rfl,_,_,rfl,rfl,_,sp _ _ c',?_,_,_,rfl,(s'.trans sp).kbn hC KB.write,?_⟩
   ·rw[AA,AA,Ao];omega
   ·rw[af,P6 t u en']
  rintro σ H' ⟨v1,v2,rfl,s',c'⟩
  rw[AA,AA,Ap] at c'
  exact k C H' ((s1.trans s2).free hC) ((s1.trans s2).trans s') c'
def P7(b:Nat):Option Int->Int->Option Int
 | none,_=>none
 | some r,t=>if(r-t) % (b:Int)=0 then some ((r-t) / (b:Int)) else none
inductive P8 (vs:List V)(H:Hp)(Q:VK)(aJ:XK):Prop where
 | mk (b:Nat) (r:Option Int) (t:Int) (cG:vs=[.int b,oV r,.int t]) (cD:2<=b) (cE:b<=4) (dc:Q (oV (P7 b r t)) H)
def JO:Sp:=λvs H Q aJ=>P8 vs H Q aJ
theorem xq:aP ["base","room","total"] ["base","room","total"] (ah fz):=⟨rfl,rfl,rfl,by decide+kernel,rfl,by decide+kernel,by decide+kernel⟩
theorem xr{a:bh}(T:Txt K mg a):aO P w K mg base aW 1 a.gZ a.iU ["base","room","total"] JO:=by
 refine T.zb.ok xq (λvs H Q E h=>?_) (λcdv A outer s H vs Q E hr h=>?_)
 ·obtain⟨b,r,t,rfl,_⟩:=h
  rfl
 ·obtain⟨b,r,t,rfl,hb2,hb4,k⟩:=h
  refine⟨_,(aj (cq (PW.pt (Mf (aV zS (pv 1) pK (a_ _)) (zM (aV vw (aI cU (aI ix (pv 1) (pv 2)) (pv 0)) ai (a_ _)))))
   (av (aL pK))
   bG)
  (av (aL (aI gK (aI ix (pv 1) (pv 2)) (pv 0))))),?_⟩
  have lg:((b:Nat):Int).natAbs.log2<9000:=by
   rw[Cf]
   exact Ay (Dc b) (by omega)
  refine⟨_,rfl,rfl,_,rfl,?_⟩
  cases r with
  | none=>
   refine bJ (λ_=>?_) (λz=>absurd rfl z)
   exact bJ (λ_=>k) (λz=>absurd rfl z)
  | some r=>
   refine bJ (λz=>absurd z (by simp[oV])) (λ_=>?_)
   refine⟨_,rfl,_,rfl,_,_,rfl,rfl,_,rfl,_,_,rfl,rfl,by show(0:Int)<_;omega,rfl,_,rfl,?_⟩
   have k':Q (oV (if(r-t) % (b:Int)=0 then some ((r-t) / (b:Int)) else none)) H:=k
   by_cases hz:(r-t) % (b:Int)=0
   ·rw[if_pos hz] at k'
    refine bJ (λz=>absurd z (by show ¬(!decide (V.int ((r-t) % (b:Int))=V.int 0))=true;rw[hz];decide)) (λ_=>?_)
    exact⟨_,rfl,_,rfl,_,_,rfl,rfl,_,rfl,_,_,rfl,rfl,⟨by omega,lg⟩,k'⟩
   ·rw[if_neg hz] at k'
    exact bJ (λ_=>k') (λz=>absurd (by simp[hz]) z)
inductive Na (vs:List V)(H:Hp)(Q:VK)(aJ:XK):Prop where
 | mk (b n:Nat) (cG:vs=[.int b,.int n]) (cD:2<=b) (cE:b<=1000) (dc:n<2 ^ 20000) (dZ:∀(D:Addr) (H':Hp),H D=none->Same H H'->H' D=some (.lst ((di b n).map V.int))->Q (.ref D) H')
def P9:Sp:=λvs H Q aJ=>Na vs H Q aJ
theorem mH:aP ["base","number","figures"] ["base","number"] (ah f_):=⟨rfl,rfl,rfl,by decide+kernel,rfl,by decide+kernel,by decide+kernel⟩
theorem zo{a:bh}(T:Txt K mg a):aO P w K mg base aW 1 a.jZ a.lP ["base","number"] P9:=by
 refine T.IG.ok mH (λvs H Q E h=>?_) (λcdv A outer s H vs Q E hr h=>?_)
 ·obtain⟨b,n,rfl,_⟩:=h
  rfl
 ·obtain⟨b,n,rfl,hb2,hb9,hn,k⟩:=h
  refine⟨_,(aj (aw (i:=2) mH.nd rfl (Ab rfl) (df ag))
  (aj (iw Aw (aV oC (pv 1) ai (a_ _))
   (aj (dX (fV Az BC BD dq (pv 2) (ae (aI cU (pv 1) (pv 0)) ag)))
   (av (aw (i:=1) mH.nd rfl (Ab rfl) (aI gK (pv 1) (pv 0))))))
  (av (aL (pv 2))))),?_⟩
  refine⟨by decide,λD hD=>?_⟩
  have hlen:(di b n).length<=20000:=Js hb2 20000 n hn
  refine QX (λσ H'=>∃(m:Nat) (pre:List Int),σ=[some (.int b),some (.int m),some (.ref D)]/\Same H H'/\H' D=some (.lst (pre.map V.int))/\pre++di b m=di b n)
   (λσ _=>match σ with | [_,some (.int m),_]=>m.toNat | _=>0) ⟨n,[],rfl,Same.new hD,af,rfl⟩ ?_ ?_
  ·rintro σ H1 ⟨m,pre,rfl,s1,e1,hp⟩
   refine⟨_,rfl,_,_,rfl,rfl,_,rfl,?_⟩
   refine bJ (λhm=>?_) (λhm=>?_)
   ·have hm':0<m:=by have:=of_decide_eq_true hm;omega
    have hpl:pre.length<=20000:=by rw[<-hp,AK] at hlen;omega
    refine⟨_,rfl,.inl ⟨rfl,_,.of e1⟩,_,rfl,_,rfl,_,_,rfl,rfl,cpos (by omega),D,_,_,rfl,rfl,e1,?_,?_⟩
    ·rw[AA];exact Ay hpl (by decide)
    refine⟨_,rfl,_,rfl,_,_,rfl,rfl,⟨by omega,yB hb9⟩,⟨m / b,pre++[((m % b:Nat):Int)],?_,s1.kbn hD KB.write,?_,?_⟩,?_⟩
    ·rw[CG];rfl
    ·rw[af,AI,DY];rfl
    ·rw[Cu,<-hp,jC hb2 hm'];rfl
    ·show((m:Int) / (b:Int)).toNat<(m:Int).toNat
     rw[<-CG,Au,Au]
     exact Ew hm' (by omega)
   ·have hm':m=0:=by
     by_cases z:m=0
     ·exact z
     ·exact absurd (decide_eq_true (show(0:Int)<(m:Int) by omega)) hm
    subst hm'
    rw[gG,A8] at hp
    subst hp
    exact⟨_,rfl,k D H1 hD s1 e1⟩
  ·rintro σ H1 Q1 Q2 hQ ⟨v,e,i,j,e1,e2,c,e3,q⟩
   exact⟨v,e,i,j,e1,e2,c,e3,hQ _ _ q⟩
theorem Moves.at{n b:Nat}{mv:List (List Nat)}(h:Moves n b mv){r f:Nat}(hr:r<n)(hf:f<b):((mv.getD r []).getD f 0)<n:=by
 have h1:mv[r]? =some (mv.getD r []):=item_at [] (by rw[h.len];exact hr)
 obtain⟨l1,l2⟩:=h.lead _ (AG h1)
 have h2:=item_at 0 (show f<(mv.getD r []).length by omega)
 exact l2 _ (AG h2)
def go(mv:List (List Nat))(r:Nat)(fs:List Nat):Nat:=fs.foldl (λr f=>(mv.getD r []).getD f 0) r
theorem JP{n b:Nat}{mv:List (List Nat)}(h:Moves n b mv):∀(fs:List Nat) (r:Nat),r<n->(∀f∈fs,f<b)->go mv r fs<n
 | [],r,hr,_=>hr
 | f::fs,r,hr,hf=>JP h fs _ (h.at hr (hf f AL)) λg hg=>hf g (AJ _ hg)
theorem YU(mv:List (List Nat))(r:Nat)(xs:List Nat)(f:Nat):go mv r (xs++[f])=(mv.getD (go mv r xs) []).getD f 0:=by simp[go,List.foldl_append]
inductive Sr (K:AB)(vs:List V)(H:Hp)(Q:VK)(aJ:XK):Prop where
 | mk (ma fa:Addr) (ps:List Addr) (b n rm:Nat) (mv:List (List Nat)) (fs:List Nat) (cG:vs=[.ref ma,.int rm,.ref fa]) (cD:H ma=some (.tup (ps.map V.ref))) (cE:fP H ps (mv.map aC)) (dc:Moves n b mv) (dZ:rm<n) (fU:bM K H fa ((aC fs).map V.int)) (iH:(∀f∈fs,f<b)) (j8:Q (.int (go mv rm fs:Nat)) H)
def Wi(K:AB):Sp:=λvs H Q aJ=>Sr K vs H Q aJ
theorem mI:aP ["moves","room","figures","figure"] ["moves","room","figures"] (ah f'):=⟨rfl,rfl,rfl,by decide+kernel,rfl,by decide+kernel,by decide+kernel⟩
theorem zp{a:bh}(T:Txt K mg a):aO P w K mg base aW 1 a.j_ a.lQ ["moves","room","figures"] (Wi K):=by
 refine T.IK.ok mI (λvs H Q E h=>?_) (λcdv A outer s H vs Q E hr h=>?_)
 ·obtain⟨ma,fa,ps,b,n,rm,mv,fs,rfl,_⟩:=h
  rfl
 ·obtain⟨ma,fa,ps,b,n,rm,mv,fs,rfl,e3,tp,R,hrm,hF,hf,k⟩:=h
  refine⟨_,(aj (cK Aw rfl (dH (pv 2)) (aF (i:=3) mI.nd rfl (Ab rfl))
   (av (aw (i:=1) mI.nd rfl (Ab rfl) (au (ao K) (au (ao K) (pv 0) (pv 1) (λ_ _=>rfl)) (pv 3) (λ_ _=>rfl)))))
  (av (aL (pv 1)))),?_⟩
  have lp:ps.length=n:=by rw[Ag tp,AA,R.len]
  refine⟨_,rfl,fa,rfl,⟨_,hF⟩,jv (xs:=(aC fs).map V.int) (λi σ H'=>∃v3:Option V,σ=[some (.ref ma),some (.int (go mv rm (fs.take i):Nat)),some (.ref fa),v3]/\H'=H)
   ⟨none,rfl,rfl⟩ (λi σ H' _ ⟨_,_,e⟩=>e▸hF) ?_ ?_⟩
  ·rintro i x σ H' hx ⟨v3,rfl,rfl⟩
   obtain⟨f,rfl,ef⟩:=tU hx
   have hfb:=hf f (AG ef)
   have hg:=JP R (fs.take i) rm hrm λz hz=>hf z (Cv hz)
   have hp:=item_at 0 (show go mv rm (fs.take i)<ps.length by omega)
   obtain⟨l',hl',el⟩:=tp.get hp
   rw[AU,item_at [] (show go mv rm (fs.take i)<mv.length by rw[R.len];exact hg)] at hl'
   have:=AS hl'
   subst this
   have lb:=(R.lead _ (AG (item_at [] (show go mv rm (fs.take i)<mv.length by rw[R.len];exact hg)))).1
   refine⟨_,rfl,_,rfl,ma,_,_,_,rfl,rfl,.of e3,ak (v:=.ref (ps.getD (go mv rm (fs.take i)) 0)) (by rw[AU,hp];rfl),_,rfl,_,_,_,_,rfl,rfl,.of el,ak (eJ (by rw[lb];exact hfb)),some (.int (f:Int)),?_,rfl⟩
   rw[take_snoc ef,YU]
   rfl
  ·rintro σ H' ⟨v3,rfl,rfl⟩
   rw[AA,cj,Ap]
   exact⟨_,rfl,k⟩
def og(H:Hp)(r:Addr)(sg:List Nat)(mv:List (List Nat)):Prop:=∃(sa ma:Addr) (ps:List Addr),H r=some (.tup [.ref sa,.ref ma])/\H sa=some (.tup ((aC sg).map V.int))/\H ma=some (.tup (ps.map V.ref))/\fP H ps (mv.map aC)
theorem og.keep{H H':Hp}{r:Addr}{sg:List Nat}{mv:List (List Nat)}(h:og H r sg mv)(k:bj H H'):og H' r sg mv:=by
 obtain⟨sa,ma,ps,h1,h2,h3,h4⟩:=h
 exact⟨sa,ma,ps,k _ _ h1,k _ _ h2,k _ _ h3,h4.keep k⟩
def onRow(b:Nat)(mv:List (List Nat))(r c s:Nat):List Nat:=[stp mv r ((c+s) % b),(c+s) / b]
inductive Ss (vs:List V)(H:Hp)(Q:VK)(aJ:XK):Prop where
 | mk (b n r c s:Nat) (ra pa:Addr) (sg:List Nat) (mv:List (List Nat)) (cG:vs=[.int b,.ref ra,.ref pa,.int s]) (cD:2<=b) (cE:b<=4) (dc:og H ra sg mv) (dZ:Moves n b mv) (fU:r<n) (iH:H pa=some (.tup [.int (r:Nat),.int (c:Nat)])) (j8:∀(p:Addr) (H':Hp),Same H H'->H' p=some (.tup ((aC (onRow b mv r c s)).map V.int))->Q (.ref p) H')
def xt:Sp:=λvs H Q aJ=>Ss vs H Q aJ
theorem rG:aP ["base","row","pair","total","carried"] ["base","row","pair","total"] (ah gf):=⟨rfl,rfl,rfl,by decide+kernel,rfl,by decide+kernel,by decide+kernel⟩
theorem rH{a:bh}(T:Txt K mg a):aO P w K mg base aW 1 a.gk a.g6 ["base","row","pair","total"] xt:=by
 refine T.Jf.ok rG (λvs H Q E h=>?_) (λcdv A outer s H vs Q E hr h=>?_)
 ·obtain⟨b,n,r,c,s,ra,pa,sg,mv,rfl,_⟩:=h
  rfl
 ·obtain⟨b,n,r,c,tot,ra,pa,sg,mv,rfl,hb2,hb4,⟨sa,ma,ps,e1,e2,e3,tp⟩,b_,hr',ep,k⟩:=h
  refine⟨_,(aj (aw (i:=4) rG.nd rfl (Ab rfl) (aI de (au (ao K) (pv 2) ai (λ_ _=>rfl)) (pv 3)))
  (av (aL (bq (ae (au (ao K) (au (ao K) (au (ao K) (pv 1) ai (λ_ _=>rfl)) (au (ao K) (pv 2) ai (λ_ _=>rfl)) (λ_ _=>rfl)) (aI cU (pv 4) (pv 0)) (λ_ _=>rfl)) (ae (aI gK (pv 4) (pv 0)) ag)))))),?_⟩
  have lg:((b:Nat):Int).natAbs.log2<9000:=by
   rw[Cf]
   exact Ay (Dc b) (by omega)
  refine⟨_,rfl,pa,_,_,.int (c:Nat),rfl,rfl,.of ep,ak (j:=1) rfl,_,rfl,_,_,rfl,rfl,?_⟩
  have ec:((c:Nat):Int)+((tot:Nat):Int)=((c+tot:Nat):Int):=by omega
  dsimp only[aD]
  rw[ec]
  obtain⟨r1,r2,r3⟩:=b_.row tp hr'
  have hm:(c+tot) % b<b:=CV _ (by omega)
  refine⟨_,rfl,ra,_,_,.ref ma,rfl,rfl,.of e1,ak (j:=1) rfl,_,rfl,pa,_,_,.int (r:Nat),rfl,rfl,.of ep,ak (j:=0) rfl,ma,_,_,.ref (ps.getD r 0),rfl,rfl,.of e3,ak (by rw[AU,r1];rfl),_,rfl,_,rfl,_,_,rfl,rfl,by show(0:Int)<_;omega,ps.getD r 0,_,_,.int (stp mv r ((c+tot) % b):Nat),rfl,?_,.of r2,ak (j:=(c+tot) % b) (eJ (by rw[r3];exact hm)),_,rfl,_,rfl,_,_,rfl,rfl,⟨by omega,lg⟩,by show 2<=sizeLine;decide,λp hp=>?_⟩
  ·show V.int (((c+tot:Nat):Int) % (b:Int))=V.int (((c+tot) % b:Nat):Int)
   rw[DY]
  ·refine k p _ (Same.new hp) ?_
   rw[af]
   show some (HO.tup [V.int (stp mv r ((c+tot) % b):Nat),V.int (((c+tot:Nat):Int) / (b:Int))])=some (HO.tup [V.int ((stp mv r ((c+tot) % b):Nat):Int),V.int (((c+tot) / b:Nat):Int)])
   rw[CG]
def dB(b:Nat)(sg:List Nat)(mv:List (List Nat))(r c:Nat):Nat:=sg.getD (run mv r ((di b c).map E3)) 0
inductive KZ (vs:List V)(H:Hp)(Q:VK)(aJ:XK):Prop where
 | mk (b n r c:Nat) (ra pa:Addr) (sg:List Nat) (mv:List (List Nat)) (cG:vs=[.int b,.ref ra,.ref pa]) (cD:2<=b) (cE:b<=4) (dc:og H ra sg mv) (dZ:sg.length=n) (fU:Moves n b mv) (iH:r<n) (j8:c<2 ^ 20000) (mM:H pa=some (.tup [.int (r:Nat),.int (c:Nat)])) (rF:∀H',Same H H'->Q (.int (dB b sg mv r c:Nat)) H')
def qR:Sp:=λvs H Q aJ=>KZ vs H Q aJ
theorem Nb{b:Nat}(hb:2<=b)(c:Nat):aC ((di b c).map E3)=di b c:=by
 unfold aC
 rw[BL]
 refine(BI λd hd=>?_).trans (Ee _)
 exact BH (LF hb c d hd).1
theorem JQ{b:Nat}(hb:2<=b)(c:Nat):∀f∈(di b c).map E3,f<b:=λf hf=>by
 obtain⟨d,hd,rfl⟩:=AZ.mp hf
 have:=LF hb c d hd
 omega
theorem Qa(mv:List (List Nat)):∀(fs:List Nat) (r:Nat),go mv r fs=run mv r fs
 | [],_=>rfl
 | f::fs,r=>Qa mv fs _
theorem JR:aP ["base","row","pair"] ["base","row","pair"] (ah ig):=⟨rfl,rfl,rfl,by decide+kernel,rfl,by decide+kernel,by decide+kernel⟩
theorem tj{a:bh}(T:Txt K mg a):aO P w K mg base aW 2 a.ij a.iE ["base","row","pair"] qR:=by
 have JS:=zo (P:=P) (w:=w) (base:=base) T
 have JT:=zp (P:=P) (w:=w) (base:=base) T
 refine T.KP.ok JR (λvs H Q E h=>?_) (λcdv A outer s H vs Q E hr h=>?_)
 ·obtain⟨b,n,r,c,ra,pa,sg,mv,rfl,_⟩:=h
  rfl
 ·obtain⟨b,n,r,c,ra,pa,sg,mv,rfl,hb2,hb4,⟨sa,ma,ps,e1,e2,e3,tp⟩,ls,b_,hr',hc,ep,k⟩:=h
  have zq:aK 1 _:=hr
  have zr:aK 1 _:=hr
  refine⟨_,(av (aL (au (ao K) (au (ao K) (pv 1) ai (λ_ _=>rfl)) (aq JT zr rfl T.IL T.IM T.IP .nil az (ae (au (ao K) (pv 1) ai (λ_ _=>rfl)) (ae (au (ao K) (pv 2) ai (λ_ _=>rfl)) (ae (aq JS zq rfl T.IH T.II T.IJ .nil az (ae (pv 0) (ae (au (ao K) (pv 2) ai (λ_ _=>rfl)) ag))) ag)))) (λ_ _=>rfl)))),?_⟩
  have hg:=JP b_ ((di b c).map E3) r hr' (JQ hb2 c)
  refine⟨_,rfl,ra,_,_,.ref sa,rfl,rfl,.of e1,ak (j:=0) rfl,_,rfl,ra,_,_,.ref ma,rfl,rfl,.of e1,ak (j:=1) rfl,_,rfl,pa,_,_,.int (r:Nat),rfl,rfl,.of ep,ak (j:=0) rfl,_,rfl,_,rfl,pa,_,_,.int (c:Nat),rfl,rfl,.of ep,ak (j:=1) rfl,b,c,rfl,hb2,by omega,hc,λD H1 hD s1 d1=>?_⟩
  rw[<-Nb hb2 c] at d1
  refine⟨ma,D,ps,b,n,r,mv,_,rfl,s1 _ _ e3,tp.keep s1.kt,b_,hr',.of d1,JQ hb2 c,?_⟩
  refine⟨sa,_,_,.int (dB b sg mv r c:Nat),rfl,rfl,.of (s1 _ _ e2),ak ?_,k H1 s1⟩
  unfold dB
  rw[<-Qa]
  exact eJ (by rw[ls];exact hg)
def Uo:List (Pos×Str):=[(⟨100,13,100,71⟩,(("same_growth":Str)++".<locals>.")++"<lambda>"),(⟨101,27,101,49⟩,(("same_growth":Str)++".<locals>.")++"<lambda>")]
def Up:List (Pos×Str):=[(⟨105,13,105,63⟩,(("less_growth":Str)++".<locals>.")++"<lambda>"),(⟨106,27,106,49⟩,(("less_growth":Str)++".<locals>.")++"<lambda>")]
def Uq:List (Pos×Str):=[(⟨116,13,116,75⟩,(("sign_growth":Str)++".<locals>.")++"<lambda>"),(⟨117,13,117,65⟩,(("sign_growth":Str)++".<locals>.")++"<lambda>")]
def Ur:List (Pos×Str):=[(⟨125,13,125,130⟩,(("alike_growth":Str)++".<locals>.")++"<lambda>"),(⟨126,13,126,92⟩,(("alike_growth":Str)++".<locals>.")++"<lambda>")]
structure TB (a:bh)(H:Hp):Prop where
 sm:Tab H a.cA Uo
 le:Tab H a.cB Up
 si:Tab H a.cC Uq
 al:Tab H a.cn Ur
def KX(a:bh)(H H':Hp):Prop:=∀b o,H b=some o->(∀qs,o≠.ke qs)->H' b=some o
theorem KX.trans{a:bh}{H H1 H2:Hp}(x:KX a H H1)(y:KX a H1 H2):KX a H H2:=λb o e n=>y b o (x b o e n) n
theorem KX.same{a:bh}{H H':Hp}(s:Same H H'):KX a H H':=λb o e _=>s b o e
theorem KX.kt{a:bh}{H H':Hp}(x:KX a H H'):bj H H':=λb xs e=>x b _ e λ_ z=>nomatch z
theorem KX.kb{a:bh}{H H':Hp}{T:Addr}{L:List (Pos×Str)}(t:Tab H T L)(k:KB T H H'):KX a H H':=λb o e n=>k b o e λz=>by
 obtain⟨qs,h,_⟩:=t
 rw[z,h] at e
 exact n qs (AS e).symm
theorem _root_.L2.Tab.rJ{H H':Hp}{T d:Addr}{L L':List (Pos×Str)}(x:Tab H T L)(y:Tab H d L')(s:KB d H H')(hd:T≠d):Tab H' T L:=by
 obtain⟨ps,h1,h2,h3⟩:=x
 obtain⟨qs,g,_⟩:=y
 refine⟨ps,s _ _ h1 hd,h2,λp hp=>?_⟩
 rcases h3 p hp with z | ⟨c,z1,z2⟩
 ·exact .inl z
 ·exact .inr ⟨c,z1,s _ _ z2 λe=>by rw[e,g] at z2;cases z2⟩
theorem TB.same{a:bh}{H H':Hp}(t:TB a H)(s:Same H H'):TB a H':=⟨t.sm.same s,t.le.same s,t.si.same s,t.al.same s⟩
section
variable{K:AB}{mg:Str->Option Value}{a:bh}{H H':Hp}
theorem TB.ksm(T:Txt K mg a)(t:TB a H)(k:KB a.cA H H')(y:Tab H' a.cA Uo):TB a H':=⟨y,t.le.rJ t.sm k T.tne01.symm,t.si.rJ t.sm k T.tne02.symm,t.al.rJ t.sm k T.tne03.symm⟩
theorem TB.kle(T:Txt K mg a)(t:TB a H)(k:KB a.cB H H')(y:Tab H' a.cB Up):TB a H':=⟨t.sm.rJ t.le k T.tne01,y,t.si.rJ t.le k T.tne12.symm,t.al.rJ t.le k T.tne13.symm⟩
theorem TB.ksi(T:Txt K mg a)(t:TB a H)(k:KB a.cC H H')(y:Tab H' a.cC Uq):TB a H':=⟨t.sm.rJ t.si k T.tne02,t.le.rJ t.si k T.tne12,y,t.al.rJ t.si k T.tne23.symm⟩
theorem TB.kal(T:Txt K mg a)(t:TB a H)(k:KB a.cn H H')(y:Tab H' a.cn Ur):TB a H':=⟨t.sm.rJ t.al k T.tne03,t.le.rJ t.al k T.tne13,t.si.rJ t.al k T.tne23,y⟩
end
theorem apart2{p q:Pos×Str}(h:p.1.line≠q.1.line):Apart [p,q]:=λa ha b hb e _=>by
 rcases Ae.mp ha with z | z<;>rcases Ae.mp hb with y | y
 ·rw[z,y]
 ·rw[z,AW.mp y] at e;exact absurd e h
 ·rw[y,AW.mp z] at e;exact absurd e.symm h
 ·rw[AW.mp z,AW.mp y]
def rK(ls:Bool)(b:Nat)(su:List Int)(r:Option Int)(c:Nat):Option Int:=if ls then r.map λi=>(i-su.getD c 0) / (b:Int) else P7 b r (su.getD c 0)
def xu(ls:Bool)(r:Option Int):Bool:=if ls then(match r with | some i=>decide (0<=i) | none=>false) else decide (r=some 0)
def JU(ls:Bool)(r:Option Int):Prop:=ls=true->r.isSome=true
def dG(ls:Bool)(t u:Term):Int:=if ls then u.num-t.num-1 else u.num-t.num
def lI(sa:Addr)(su:List Int)(H:Hp):Prop:=H sa=some (.lst (su.map V.int))
theorem lI.kx{a:bh}{sa:Addr}{su:List Int}{H H':Hp}(e:lI sa su H)(k:KX a H H'):lI sa su H':=k _ _ e λ_ y=>nomatch y
theorem lI.dA{sa:Addr}{su:List Int}{H:Hp}{D:List Addr}(hD:∀a∈D,∃φ,H a=some (.ext φ))(e:lI sa su H):lI sa su (L2.dA D H):=ky hD e (λ_ y=>nomatch y)
theorem YV{ls:Bool}{b:Nat}{su:List Int}{r:Option Int}{c:Nat}(h:JU ls r):JU ls (rK ls b su r c):=λe=>by
 subst e
 obtain⟨i,rfl⟩:=CI.mp (h rfl)
 rfl
inductive YW (P:Ah)(w:World)(K:AB)(mg:Str->Option Value)(base:Heap)(a:bh)(ls:Bool)(vs:List V)(H:Hp)(Q:VK)(aJ:XK):Prop where
 | mk (b:Nat) (nm sy ta tb:Addr) (w0:V) (t u:Term) (ss:List Str) (cG:vs=[.int b,.ref nm,.ref sy]) (cD:2<=b) (cE:b<=4) (dc:H sy=some (.tup [w0,.ref ta,.ref tb])) (dZ:bp H ta t) (fU:bp H tb u) (iH:t.parts.length<=100) (j8:u.parts.length<=100) (mM:H nm=some (.tup (ss.map V.str))) (rF:ss.length<=4) (sX:TB a H) (Jx:∀(g f1 f2 sa:Addr) (D:List Addr) (H':Hp),KX a H H'->TB a H'->(∀a∈D,∃φ,H' a=some (.ext φ))->lI sa (aE b (ss.map λn=>t.at n-u.at n)) H'->H' g=some (.tup [.int (dG ls t u),.ref f1,.ref f2])->dM P w K mg base H' D 2 f1 2 (sQ (Iz P w) (b ^ ss.length) (rK ls b (aE b (ss.map λn=>t.at n-u.at n))) (JU ls) (lI sa (aE b (ss.map λn=>t.at n-u.at n))))->dM P w K mg base H' D 2 f2 1 (sU (Iz P w) (xu ls) (JU ls) (lI sa (aE b (ss.map λn=>t.at n-u.at n))))->Q (.ref g) H')
def Us(P:Ah)(w:World)(K:AB)(mg:Str->Option Value)(base:Heap)(a:bh)(ls:Bool):Sp:=λvs H Q aJ=>YW P w K mg base a ls vs H Q aJ
theorem eX:aP ["base","names","saying","sums","first","onward"] ["base","names","saying"] (ah bV):=⟨rfl,rfl,rfl,by decide+kernel,rfl,by decide+kernel,by decide+kernel⟩
set_option maxHeartbeats 16000000 in
theorem xv{a:bh}(T:Txt K mg a)(hB:eG mg base):aO P w K mg base aW 3 a.cM a.gi ["base","names","saying"] (Us P w K mg base a false):=by
 have du:=iZ (P:=P) (w:=w) (base:=base) T
 have mJ:=qc (P:=P) (w:=w) (base:=base) T
 refine T.lU.okR eX (λvs H Q E h=>?_) (λAr outer sh H vs Q E inj hr h=>?_)
 ·obtain⟨b,nm,sy,ta,tb',w0,t,u,ss,rfl,_⟩:=h
  rfl
 ·obtain⟨b,nm,sy,ta,tb',w0,t,u,ss,rfl,hb2,hb4,es,e1,e2,l1,l2,o_,ls,tb,q⟩:=h
  have cW:aK 2 _:=hr
  have kY:aK 2 _:=hr
  refine⟨_,cH (aw (i:=3) eX.nd rfl (CT rfl) (aq du cW rfl T.g7 T.g8 T.g9 .nil az (ae (pv 0) (ae (aq mJ kY rfl T.rn T.rA T.rB .nil az (ae (pv 2) (ae (pv 1) ag))) ag))))
   (cH (aw (i:=4) eX.nd rfl (Ab rfl) (aI ix (au (ao K) (au (ao K) (pv 2) ai (λ_ _=>rfl)) ai (λ_ _=>rfl)) (au (ao K) (au (ao K) (pv 2) ai (λ_ _=>rfl)) ai (λ_ _=>rfl))))
   (cH (aw (i:=5) eX.nd rfl (Ab rfl) (jD (T:=a.cA) (L:=Uo) rfl T.rC hB rfl rfl (AL) (apart2 (by decide)) rfl))
   (vO (bq (ae (pv 4) (ae (pv 5) (ae (jD (T:=a.cA) (L:=Uo) rfl T.rC hB rfl rfl (AJ _ AL) (apart2 (by decide)) rfl) ag))))))),?_⟩
  refine⟨_,rfl,_,rfl,_,rfl,sy,ta,tb',nm,w0,t,u,ss,rfl,es,e1,e2,l1,l2,o_,by omega,λD0 H0 yA s0 d0=>?_⟩
  refine⟨b,D0,_,rfl,hb4,d0,by rw[AA];exact ls,λsa H1 hsa s1' d1=>?_⟩
  have s1:=s0.trans s1'
  rw[show((lets b (ss.map λn=>t.at n-u.at n).length).map λl=>dot l (ss.map λn=>t.at n-u.at n))=aE b (ss.map λn=>t.at n-u.at n) from rfl] at d1
  have tu:(aE b (ss.map λn=>t.at n-u.at n)).length=b ^ ss.length:=by rw[lH,AA]
  generalize aE b (ss.map λn=>t.at n-u.at n)=su at d1 q tu
  dsimp only[aD]
  obtain⟨b1,ps1,a11,_⟩:=e1.keep s1.kt
  obtain⟨b2',ps2,a21,_⟩:=e2.keep s1.kt
  have es1:=s1 _ _ es
  refine⟨_,rfl,sy,_,_,.ref tb',rfl,rfl,.of es1,ak (j:=2) rfl,tb',_,_,.int u.num,rfl,rfl,.of a21,ak (j:=0) rfl,_,rfl,sy,_,_,.ref ta,rfl,rfl,.of es1,ak (j:=1) rfl,ta,_,_,.int t.num,rfl,rfl,.of a11,ak (j:=0) rfl,_,_,rfl,rfl,?_⟩
  have ev1:lI sa su H1:=d1
  have gp:=tb.same s1
  dsimp only[aD]
  refine⟨gp.sm,λf1 d1 Sv H3 hf1 JV JW u9 kb3=>?_⟩
  have k3:KX a H1 H3:=KX.kb gp.sm kb3
  have oh:=gp.ksm T kb3 u9
  dsimp only[aD]
  refine⟨_,rfl,_,rfl,oh.sm,λf2 d2 Sw H5 hf2 JX JY vb tD=>?_⟩
  have k35:KX a H3 H5:=KX.kb oh.sm tD
  have uw:=oh.ksm T tD vb
  refine⟨by show 3<=sizeLine;decide,λg hg=>?_⟩
  have sg:=Same.new (o:=.tup [.int (dG false t u),.ref f1,.ref f2]) hg
  obtain⟨c1,h1⟩:∃c,(BJ "same_growth" (ah bV) sh.heap.objs.size a.cM (.ref a.g_)).cells.lookup ("base":Str)=some c:=cQ rfl
  obtain⟨c2',h2⟩:∃c,(BJ "same_growth" (ah bV) sh.heap.objs.size a.cM (.ref a.g_)).cells.lookup ("sums":Str)=some c:=cQ rfl
  let l:List (Nat×Str×Addr×V):=[(0,"base",c1,.int (b:Nat)),(3,"sums",c2',.ref sa)]
  have C:uj (jR aW P w K mg base ["base","names","saying","sums","first","onward"] "same_growth" (ah bV) a.cM (.ref a.g_) Ar outer sh H E) [some (.int (b:Nat)),some (.ref nm),some (.ref sy),some (.ref sa),some (.int (dG false t u)),some (.ref f1)] l:=
   ⟨Aa.mpr ⟨⟨rfl,rfl,rfl,h1⟩,Aa.mpr ⟨⟨rfl,rfl,rfl,h2⟩,λ_ h=>nomatch h⟩⟩,show(["base","sums"]:List Str).Nodup by decide+kernel⟩
  refine⟨jY l,C.cells,λfr=>?_⟩
  have sm:=jE fr
  have g1:=C.got inj (upd H5 g (.tup [.int (dG false t u),.ref f1,.ref f2])) (q:=(0,"base",c1,.int (b:Nat))) (by simp[l])
  have g2:=C.got inj (upd H5 g (.tup [.int (dG false t u),.ref f1,.ref f2])) (q:=(3,"sums",c2',.ref sa)) (by simp[l])
  have s6:=sg.trans sm
  have k36:=k35.trans (KX.same s6)
  have oi:=k36 _ _ JV λ_ y=>nomatch y
  have oj:=k36 _ _ JW λ_ y=>nomatch y
  have om:=s6 _ _ JX
  have oq:=s6 _ _ JY
  have JZ:=lI.kx ev1 (k3.trans k36)
  have J_:∀x∈[f1,d1,f2,d2,c1,c2'],∃φ,jX (jY l) (upd H5 g (.tup [.int (dG false t u),.ref f1,.ref f2])) x=some (.ext φ):=λx hx=>by
   simp only[Ae,Bq,or_false] at hx
   rcases hx with z | z | z | z | z | z
   ·rw[z];exact⟨_,oi⟩
   ·rw[z];exact⟨_,oj⟩
   ·rw[z];exact⟨_,om⟩
   ·rw[z];exact⟨_,oq⟩
   ·rw[z];exact⟨_,g1⟩
   ·rw[z];exact⟨_,g2⟩
  refine q g f1 f2 sa [f1,d1,f2,d2,c1,c2'] _ ((KX.same s1).trans (k3.trans k36)) (uw.same s6) J_ JZ (sm _ _ af) ?_ ?_
  ·refine dM.lam oi (by simp) oj (by simp) (ps:=["room","letter"]) (aR:=["base","sums"]) (fvs:=[.int (b:Nat),.ref sa]) (dJ.mk' rfl rfl rfl (by decide+kernel) (by decide+kernel) (by decide+kernel) (by decide+kernel) (by decide+kernel)) inj (Aa.mpr ⟨⟨rfl,AG (i:=1) rfl⟩,Aa.mpr ⟨⟨rfl,AG (i:=0) rfl⟩,λ_ h=>nomatch h⟩⟩)
    (.cons ⟨c1,rfl,h1,by simp,g1⟩ (.cons ⟨c2',rfl,h2,by simp,g2⟩ .nil)) (λus hl=>match us,hl with | [_,_],_=>rfl) (λvs H Q E h=>?_) (λbase' W A outer s H vs Q E hr h=>?_)
   ·obtain⟨x,v,c,rfl,_⟩:=h
    rfl
   ·obtain⟨S,vv,c,rfl,rfl,vZ,hc,ev,kk⟩:=h
    have wq:su[c]? =some (su.getD c 0):=item_at 0 (by rw[tu];exact hc)
    have zt:aO P w K mg base' aW 1 a.gZ a.iU ["base","room","total"] JO:=xr T
    have hr1:aK 1 _:=hr
    refine⟨_,aq zt hr1 (by rfl) T.zc T.zf T.zg .nil az (ae (pv 2) (ae (pv 0) (ae (au (cS K) (pv 3) (pv 1) (λ_ _=>rfl)) ag))),?_⟩
    exact⟨_,rfl,_,rfl,_,rfl,_,rfl,sa,_,_,.int (su.getD c 0),rfl,rfl,.of ev,ak (by rw[AU,wq];rfl),b,S,_,rfl,hb2,hb4,kk _ H (.refl _) rfl⟩
  ·refine dM.lam om (by simp) oq (by simp) (ps:=["room"]) (aR:=[]) (fvs:=[]) (dJ.mk' rfl rfl rfl (by decide+kernel) (by decide+kernel) (by decide+kernel) (by decide+kernel) (by decide+kernel)) inj (λ_ h=>nomatch h)
    .nil (λus hl=>match us,hl with | [_],_=>rfl) (λvs H Q E h=>?_) (λbase' W A outer s H vs Q E hr h=>?_)
   ·obtain⟨x,v,rfl,_⟩:=h
    rfl
   ·obtain⟨S,vv,rfl,rfl,vZ,ev,kk⟩:=h
    refine⟨_,ic dQ (pv 0) ai (a_ _),?_⟩
    have key:decide (oV S=V.int 0)=xu false S:=by
     cases S with
     | none=>rfl
     | some i=>
      show decide (V.int i=V.int 0)=decide ((some i:Option Int)=some 0)
      by_cases e:i=0
      ·subst e;rfl
      ·rw[decide_eq_false (λz=>e (V.int.inj z)),decide_eq_false (λz=>e (AS z))]
    refine⟨_,rfl,by cases S<;>rfl,?_⟩
    rw[key]
    exact kk H (.refl _)
theorem eY:aP ["base","names","saying","sums","first","onward"] ["base","names","saying"] (ah bW):=⟨rfl,rfl,rfl,by decide+kernel,rfl,by decide+kernel,by decide+kernel⟩
set_option maxHeartbeats 16000000 in
theorem xx{a:bh}(T:Txt K mg a)(hB:eG mg base):aO P w K mg base aW 3 a.cN a.gj ["base","names","saying"] (Us P w K mg base a true):=by
 have du:=iZ (P:=P) (w:=w) (base:=base) T
 have mJ:=qc (P:=P) (w:=w) (base:=base) T
 refine T.lY.okR eY (λvs H Q E h=>?_) (λAr outer sh H vs Q E inj hr h=>?_)
 ·obtain⟨b,nm,sy,ta,tb',w0,t,u,ss,rfl,_⟩:=h
  rfl
 ·obtain⟨b,nm,sy,ta,tb',w0,t,u,ss,rfl,hb2,hb4,es,e1,e2,l1,l2,o_,ls,tb,q⟩:=h
  have cW:aK 2 _:=hr
  have kY:aK 2 _:=hr
  refine⟨_,cH (aw (i:=3) eY.nd rfl (CT rfl) (aq du cW rfl T.g7 T.g8 T.g9 .nil az (ae (pv 0) (ae (aq mJ kY rfl T.rn T.rA T.rB .nil az (ae (pv 2) (ae (pv 1) ag))) ag))))
   (cH (aw (i:=4) eY.nd rfl (Ab rfl) (aI ix (aI ix (au (ao K) (au (ao K) (pv 2) ai (λ_ _=>rfl)) ai (λ_ _=>rfl)) (au (ao K) (au (ao K) (pv 2) ai (λ_ _=>rfl)) ai (λ_ _=>rfl))) ai))
   (cH (aw (i:=5) eY.nd rfl (Ab rfl) (jD (T:=a.cB) (L:=Up) rfl T.rD hB rfl rfl (AL) (apart2 (by decide)) rfl))
   (vO (bq (ae (pv 4) (ae (pv 5) (ae (jD (T:=a.cB) (L:=Up) rfl T.rD hB rfl rfl (AJ _ AL) (apart2 (by decide)) rfl) ag))))))),?_⟩
  refine⟨_,rfl,_,rfl,_,rfl,sy,ta,tb',nm,w0,t,u,ss,rfl,es,e1,e2,l1,l2,o_,by omega,λD0 H0 yA s0 d0=>?_⟩
  refine⟨b,D0,_,rfl,hb4,d0,by rw[AA];exact ls,λsa H1 hsa s1' d1=>?_⟩
  have s1:=s0.trans s1'
  rw[show((lets b (ss.map λn=>t.at n-u.at n).length).map λl=>dot l (ss.map λn=>t.at n-u.at n))=aE b (ss.map λn=>t.at n-u.at n) from rfl] at d1
  have tu:(aE b (ss.map λn=>t.at n-u.at n)).length=b ^ ss.length:=by rw[lH,AA]
  generalize aE b (ss.map λn=>t.at n-u.at n)=su at d1 q tu
  dsimp only[aD]
  obtain⟨b1,ps1,a11,_⟩:=e1.keep s1.kt
  obtain⟨b2',ps2,a21,_⟩:=e2.keep s1.kt
  have es1:=s1 _ _ es
  refine⟨_,rfl,sy,_,_,.ref tb',rfl,rfl,.of es1,ak (j:=2) rfl,tb',_,_,.int u.num,rfl,rfl,.of a21,ak (j:=0) rfl,_,rfl,sy,_,_,.ref ta,rfl,rfl,.of es1,ak (j:=1) rfl,ta,_,_,.int t.num,rfl,rfl,.of a11,ak (j:=0) rfl,_,_,rfl,rfl,_,_,rfl,rfl,?_⟩
  have ev1:lI sa su H1:=d1
  have gp:=tb.same s1
  dsimp only[aD]
  refine⟨gp.le,λf1 d1 Sv H3 hf1 JV JW u9 kb3=>?_⟩
  have k3:KX a H1 H3:=KX.kb gp.le kb3
  have oh:=gp.kle T kb3 u9
  dsimp only[aD]
  refine⟨_,rfl,_,rfl,oh.le,λf2 d2 Sw H5 hf2 JX JY vb tD=>?_⟩
  have k35:KX a H3 H5:=KX.kb oh.le tD
  have uw:=oh.kle T tD vb
  refine⟨by show 3<=sizeLine;decide,λg hg=>?_⟩
  have sg:=Same.new (o:=.tup [.int (dG true t u),.ref f1,.ref f2]) hg
  obtain⟨c1,h1⟩:∃c,(BJ "less_growth" (ah bW) sh.heap.objs.size a.cN (.ref a.g0)).cells.lookup ("base":Str)=some c:=cQ rfl
  obtain⟨c2',h2⟩:∃c,(BJ "less_growth" (ah bW) sh.heap.objs.size a.cN (.ref a.g0)).cells.lookup ("sums":Str)=some c:=cQ rfl
  let l:List (Nat×Str×Addr×V):=[(0,"base",c1,.int (b:Nat)),(3,"sums",c2',.ref sa)]
  have C:uj (jR aW P w K mg base ["base","names","saying","sums","first","onward"] "less_growth" (ah bW) a.cN (.ref a.g0) Ar outer sh H E) [some (.int (b:Nat)),some (.ref nm),some (.ref sy),some (.ref sa),some (.int (dG true t u)),some (.ref f1)] l:=
   ⟨Aa.mpr ⟨⟨rfl,rfl,rfl,h1⟩,Aa.mpr ⟨⟨rfl,rfl,rfl,h2⟩,λ_ h=>nomatch h⟩⟩,show(["base","sums"]:List Str).Nodup by decide+kernel⟩
  refine⟨jY l,C.cells,λfr=>?_⟩
  have sm:=jE fr
  have g1:=C.got inj (upd H5 g (.tup [.int (dG true t u),.ref f1,.ref f2])) (q:=(0,"base",c1,.int (b:Nat))) (by simp[l])
  have g2:=C.got inj (upd H5 g (.tup [.int (dG true t u),.ref f1,.ref f2])) (q:=(3,"sums",c2',.ref sa)) (by simp[l])
  have s6:=sg.trans sm
  have k36:=k35.trans (KX.same s6)
  have oi:=k36 _ _ JV λ_ y=>nomatch y
  have oj:=k36 _ _ JW λ_ y=>nomatch y
  have om:=s6 _ _ JX
  have oq:=s6 _ _ JY
  have JZ:=lI.kx ev1 (k3.trans k36)
  have J_:∀x∈[f1,d1,f2,d2,c1,c2'],∃φ,jX (jY l) (upd H5 g (.tup [.int (dG true t u),.ref f1,.ref f2])) x=some (.ext φ):=λx hx=>by
   simp only[Ae,Bq,or_false] at hx
   rcases hx with z | z | z | z | z | z
   ·rw[z];exact⟨_,oi⟩
   ·rw[z];exact⟨_,oj⟩
   ·rw[z];exact⟨_,om⟩
   ·rw[z];exact⟨_,oq⟩
   ·rw[z];exact⟨_,g1⟩
   ·rw[z];exact⟨_,g2⟩
  refine q g f1 f2 sa [f1,d1,f2,d2,c1,c2'] _ ((KX.same s1).trans (k3.trans k36)) (uw.same s6) J_ JZ (sm _ _ af) ?_ ?_
  ·refine dM.lam oi (by simp) oj (by simp) (ps:=["room","letter"]) (aR:=["base","sums"]) (fvs:=[.int (b:Nat),.ref sa]) (dJ.mk' rfl rfl rfl (by decide+kernel) (by decide+kernel) (by decide+kernel) (by decide+kernel) (by decide+kernel)) inj (Aa.mpr ⟨⟨rfl,AG (i:=1) rfl⟩,Aa.mpr ⟨⟨rfl,AG (i:=0) rfl⟩,λ_ h=>nomatch h⟩⟩)
    (.cons ⟨c1,rfl,h1,by simp,g1⟩ (.cons ⟨c2',rfl,h2,by simp,g2⟩ .nil)) (λus hl=>match us,hl with | [_,_],_=>rfl) (λvs H Q E h=>?_) (λbase' W A outer s H vs Q E hr h=>?_)
   ·obtain⟨x,v,c,rfl,_⟩:=h
    rfl
   ·obtain⟨S,vv,c,rfl,rfl,vZ,hc,ev,kk⟩:=h
    have wq:su[c]? =some (su.getD c 0):=item_at 0 (by rw[tu];exact hc)
    obtain⟨i,rfl⟩:∃i,S=some i:=CI.mp (vZ rfl)
    refine⟨_,aI gK (aI ix (pv 0) (au (cS K) (pv 3) (pv 1) (λ_ _=>rfl))) (pv 2),?_⟩
    have lg:((b:Nat):Int).natAbs.log2<9000:=by
     rw[Cf]
     exact Ay (Dc b) (by omega)
    exact⟨_,rfl,_,rfl,_,rfl,sa,_,_,.int (su.getD c 0),rfl,rfl,.of ev,ak (by rw[AU,wq];rfl),_,_,rfl,rfl,_,rfl,_,_,rfl,rfl,⟨by omega,lg⟩,kk _ H (.refl _) rfl⟩
  ·refine dM.lam om (by simp) oq (by simp) (ps:=["room"]) (aR:=[]) (fvs:=[]) (dJ.mk' rfl rfl rfl (by decide+kernel) (by decide+kernel) (by decide+kernel) (by decide+kernel) (by decide+kernel)) inj (λ_ h=>nomatch h)
    .nil (λus hl=>match us,hl with | [_],_=>rfl) (λvs H Q E h=>?_) (λbase' W A outer s H vs Q E hr h=>?_)
   ·obtain⟨x,v,rfl,_⟩:=h
    rfl
   ·obtain⟨S,vv,rfl,rfl,vZ,ev,kk⟩:=h
    obtain⟨i,rfl⟩:∃i,S=some i:=CI.mp (vZ rfl)
    refine⟨_,ic Tv (pv 0) ai (a_ _),?_⟩
    exact⟨_,rfl,_,_,rfl,rfl,kk H (.refl _)⟩
def ux(b:Nat)(mv:List (List Nat))(su:List Int)(p:List Nat)(L:Nat):List Nat:=onRow b mv (p.getD 0 0) (p.getD 1 0) (su.getD L 0).toNat
def J5(b:Nat)(sg:List Nat)(mv:List (List Nat))(sn:Int)(p:List Nat):Bool:=decide (((dB b sg mv (p.getD 0 0) (p.getD 1 0):Nat):Int)=sn)
def J6(n B:Nat)(p:List Nat):Prop:=∃r c,p=[r,c]/\r<n/\c<=B
structure jK (ra sa sy:Addr)(sg:List Nat)(mv:List (List Nat))(su:List Int)(ws:List V)(H:Hp):Prop where
 jS:og H ra sg mv
 s:H sa=some (.lst (su.map V.int))
 y:H sy=some (.tup ws)
theorem jK.keep{ra sa sy:Addr}{sg:List Nat}{mv:List (List Nat)}{su:List Int}{ws:List V}{H H':Hp}(e:jK ra sa sy sg mv su ws H)(kt:bj H H')(kl:∀b xs,H b=some (.lst xs)->H' b=some (.lst xs)):jK ra sa sy sg mv su ws H':=⟨e.jS.keep kt,kl _ _ e.s,kt _ _ e.y⟩
theorem jK.kx{a:bh}{ra sa sy:Addr}{sg:List Nat}{mv:List (List Nat)}{su:List Int}{ws:List V}{H H':Hp}(e:jK ra sa sy sg mv su ws H)(k:KX a H H'):jK ra sa sy sg mv su ws H':=e.keep k.kt λb xs z=>k _ _ z λ_ y=>nomatch y
theorem jK.same{ra sa sy:Addr}{sg:List Nat}{mv:List (List Nat)}{su:List Int}{ws:List V}{H H':Hp}(e:jK ra sa sy sg mv su ws H)(s:Same H H'):jK ra sa sy sg mv su ws H':=e.keep s.kt λb xs z=>s _ _ z
theorem jK.dA{ra sa sy:Addr}{sg:List Nat}{mv:List (List Nat)}{su:List Int}{ws:List V}{H:Hp}{D:List Addr}(hD:∀a∈D,∃φ,H a=some (.ext φ))(e:jK ra sa sy sg mv su ws H):jK ra sa sy sg mv su ws (L2.dA D H):=
 e.keep (λb xs z=>ky hD z (λ_ y=>nomatch y)) λb xs z=>ky hD z (λ_ y=>nomatch y)
theorem YX{b n B:Nat}(hb:2<=b){mv:List (List Nat)}(m:Moves n b mv){su:List Int}(hs:∀x∈su,x<=(B:Int)){p:List Nat}(h:J6 n B p)(L:Nat):J6 n B (ux b mv su p L):=by
 obtain⟨r,c,rfl,hr,hc⟩:=h
 refine⟨_,_,rfl,m.stp hr (CV _ (by omega)),?_⟩
 have hL:(su.getD L 0).toNat<=B:=by
  rw[BA]
  cases e:su[L]? with
  | none=>exact A6 _
  | some x=>have:=hs x (AG e);show x.toNat<=B;omega
 show(c+(su.getD L 0).toNat) / b<=B
 have:(c+(su.getD L 0).toNat) / b<=(c+(su.getD L 0).toNat) / 2:=Nat.div_le_div_left hb (by decide)
 omega
inductive Wj (P:Ah)(w:World)(K:AB)(mg:Str->Option Value)(base:Heap)(a:bh)(vs:List V)(H:Hp)(Q:VK)(aJ:XK):Prop where
 | mk (b n B:Nat) (wo Dw nm sy ra ta:Addr) (kvs:List (Key×V)) (x:Str) (w0:V) (t:Term) (sn:Int) (sg:List Nat) (mv:List (List Nat)) (ss:List Str) (cG:vs=[.ref wo,.ref nm,.ref sy]) (cD:2<=b) (cE:b<=4) (dc:H wo=some (.tup [.int b,.ref Dw])) (dZ:Rd H Dw (.dK kvs)) (fU:aZ kvs (Am x)=some (.ref ra)) (iH:og H ra sg mv) (j8:sg.length=n) (mM:0<n) (rF:Moves n b mv) (sX:H sy=some (.tup [w0,.str x,.ref ta,.int sn])) (Jx:bp H ta t) (M0:t.parts.length<=100) (R9:(∃c:Nat,t.num=(c:Int)/\c<=B)) (R':(∀z∈aE b (ss.map t.at),0<=z/\z<=(B:Int))) (Yn:B<2 ^ 20000) (Yo:H nm=some (.tup (ss.map V.str))) (aeJ:ss.length<=4) (aeK:TB a H) (aeL:∀(g z0 f1 f2 sa:Addr) (D:List Addr) (H':Hp),KX a H H'->TB a H'->(∀a∈D,∃φ,H' a=some (.ext φ))->jK ra sa sy sg mv (aE b (ss.map t.at)) [w0,.str x,.ref ta,.int sn] H'->H' z0=some (.tup [.int 0,.int t.num])->H' g=some (.tup [.ref z0,.ref f1,.ref f2])->dM P w K mg base H' D 3 f1 2 (sQ (o8.toS P w) (b ^ ss.length) (ux b mv (aE b (ss.map t.at))) (J6 n B) (jK ra sa sy sg mv (aE b (ss.map t.at)) [w0,.str x,.ref ta,.int sn]))->dM P w K mg base H' D 3 f2 1 (sU (o8.toS P w) (J5 b sg mv sn) (J6 n B) (jK ra sa sy sg mv (aE b (ss.map t.at)) [w0,.str x,.ref ta,.int sn]))->Q (.ref g) H')
def YY(P:Ah)(w:World)(K:AB)(mg:Str->Option Value)(base:Heap)(a:bh):Sp:=λvs H Q aJ=>Wj P w K mg base a vs H Q aJ
theorem cX:aP ["world","names","saying","base","row","sums","onward","is_yes"] ["world","names","saying"] (ah bP):=⟨rfl,rfl,rfl,by decide+kernel,rfl,by decide+kernel,by decide+kernel⟩
set_option maxHeartbeats 16000000 in
theorem xy{a:bh}(T:Txt K mg a)(hB:eG mg base):aO P w K mg base aW 3 a.ck a.gm ["world","names","saying"] (YY P w K mg base a):=by
 have du:=iZ (P:=P) (w:=w) (base:=base) T
 have gW:=pB (P:=P) (w:=w) (base:=base) T
 refine T.mf.okR cX (λvs H Q E h=>?_) (λAr outer sh H vs Q E inj hr h=>?_)
 ·obtain⟨b,n,B,wo,Dw,nm,sy,ra,ta,kvs,x,w0,t,sn,sg,mv,ss,rfl,_⟩:=h
  rfl
 ·obtain⟨b,n,B,wo,Dw,nm,sy,ra,ta,kvs,x,w0,t,sn,sg,mv,ss,rfl,hb2,hb4,ew,Ut,ex,aeM,YZ,n0,b_,es,et,lt,hnum,ow,hB2,o_,J7,tb,q⟩:=h
  have cW:aK 2 _:=hr
  have fS:aK 1 _:=hr.mono (by decide)
  refine⟨_,cH (aw (i:=3) cX.nd rfl (CT rfl) (au (ao K) (pv 0) ai (λ_ _=>rfl)))
   (cH (aw (i:=4) cX.nd rfl (CT rfl) (cv (cf hr) (au (ao K) (pv 0) ai (λ_ _=>rfl)) (au (ao K) (pv 2) ai (λ_ _=>rfl)) (λ_ _=>rfl)))
   (cH (aw (i:=5) cX.nd rfl (CT rfl) (aq du cW rfl T.g7 T.g8 T.g9 .nil az (ae (pv 3) (ae (aq gW fS rfl T.j5 T.j6 T.j7 .nil az (ae (au (ao K) (pv 2) ai (λ_ _=>rfl)) (ae (pv 1) ag))) ag))))
   (cH (aw (i:=6) cX.nd rfl (Ab rfl) (jD (T:=a.cC) (L:=Uq) rfl T.rE hB rfl rfl (AL) (apart2 (by decide)) rfl))
   (cH (aw (i:=7) cX.nd rfl (Ab rfl) (jD (T:=a.cC) (L:=Uq) rfl T.rE hB rfl rfl (AJ _ AL) (apart2 (by decide)) rfl))
   (vO (bq (ae (bq (ae ai (ae (au (ao K) (au (ao K) (pv 2) ai (λ_ _=>rfl)) ai (λ_ _=>rfl)) ag))) (ae (pv 6) (ae (pv 7) ag))))))))),?_⟩
  refine⟨_,rfl,wo,_,_,.int (b:Nat),rfl,rfl,.of ew,ak (j:=0) rfl,?_⟩
  dsimp only[aD]
  refine⟨_,rfl,wo,_,_,.ref Dw,rfl,rfl,.of ew,ak (j:=1) rfl,_,rfl,sy,_,_,.str x,rfl,rfl,.of es,ak (j:=1) rfl,Dw,.ref ra,rfl,.inl ⟨kvs,Am x,Ut,rfl,ex.symm⟩,?_⟩
  dsimp only[aD]
  refine⟨_,rfl,_,rfl,sy,_,_,.ref ta,rfl,rfl,.of es,ak (j:=2) rfl,_,rfl,ta,nm,t,ss,rfl,et,lt,o_,by omega,λD0 H0 yA s0 d0=>?_⟩
  refine⟨b,D0,_,rfl,hb4,d0,by rw[AA];exact J7,λsa H1 hsa s1' d1=>?_⟩
  have s1:=s0.trans s1'
  rw[show((lets b (ss.map t.at).length).map λl=>dot l (ss.map t.at))=aE b (ss.map t.at) from rfl] at d1
  have tu:(aE b (ss.map t.at)).length=b ^ ss.length:=by rw[lH,AA]
  generalize aE b (ss.map t.at)=su at d1 q tu ow
  have ev1:jK ra sa sy sg mv su [w0,.str x,.ref ta,.int sn] H1:=⟨aeM.keep s1.kt,d1,s1 _ _ es⟩
  have gp:=tb.same s1
  obtain⟨tb',tps,Y_,_,_⟩:=et.keep s1.kt
  dsimp only[aD]
  refine⟨gp.si,λf1 d1 Sv H3 hf1 JV JW u9 kb3=>?_⟩
  have k3:KX a H1 H3:=KX.kb gp.si kb3
  have oh:=gp.ksi T kb3 u9
  dsimp only[aD]
  refine⟨oh.si,λf2 d2 Sw H5 hf2 JX JY vb tD=>?_⟩
  have k35:KX a H3 H5:=KX.kb oh.si tD
  have uw:=oh.ksi T tD vb
  have k15:=k3.trans k35
  dsimp only[aD]
  refine⟨_,rfl,sy,_,_,.ref ta,rfl,rfl,.of (k15.kt _ _ ev1.y),ak (j:=2) rfl,ta,_,_,.int t.num,rfl,rfl,.of (k15.kt _ _ Y_),ak (j:=0) rfl,by show 2<=sizeLine;decide,λz0 hz0=>⟨_,rfl,_,rfl,by show 3<=sizeLine;decide,λg hg=>?_⟩⟩
  have sz:=Same.new (o:=.tup [.int 0,.int t.num]) hz0
  have Qb:=Same.new (o:=.tup [.ref z0,.ref f1,.ref f2]) hg
  obtain⟨c1,h1⟩:∃c,(BJ "sign_growth" (ah bP) sh.heap.objs.size a.ck (.ref a.eB)).cells.lookup ("base":Str)=some c:=cQ rfl
  obtain⟨c2,h2⟩:∃c,(BJ "sign_growth" (ah bP) sh.heap.objs.size a.ck (.ref a.eB)).cells.lookup ("row":Str)=some c:=cQ rfl
  obtain⟨c3,h3⟩:∃c,(BJ "sign_growth" (ah bP) sh.heap.objs.size a.ck (.ref a.eB)).cells.lookup ("sums":Str)=some c:=cQ rfl
  obtain⟨c4,h4⟩:∃c,(BJ "sign_growth" (ah bP) sh.heap.objs.size a.ck (.ref a.eB)).cells.lookup ("saying":Str)=some c:=cQ rfl
  let l:List (Nat×Str×Addr×V):=[(3,"base",c1,.int (b:Nat)),(4,"row",c2,.ref ra),(5,"sums",c3,.ref sa),(2,"saying",c4,.ref sy)]
  have C:uj (jR aW P w K mg base ["world","names","saying","base","row","sums","onward","is_yes"] "sign_growth" (ah bP) a.ck (.ref a.eB) Ar outer sh H E) [some (.ref wo),some (.ref nm),some (.ref sy),some (.int (b:Nat)),some (.ref ra),some (.ref sa),some (.ref f1),some (.ref f2)] l:=
   ⟨Aa.mpr ⟨⟨rfl,rfl,rfl,h1⟩,Aa.mpr ⟨⟨rfl,rfl,rfl,h2⟩,Aa.mpr ⟨⟨rfl,rfl,rfl,h3⟩,Aa.mpr ⟨⟨rfl,rfl,rfl,h4⟩,λ_ h=>nomatch h⟩⟩⟩⟩,show(["base","row","sums","saying"]:List Str).Nodup by decide+kernel⟩
  refine⟨jY l,C.cells,λfr=>?_⟩
  have sm:=jE fr
  have g1:=C.got inj (upd (upd H5 z0 (.tup [.int 0,.int t.num])) g (.tup [.ref z0,.ref f1,.ref f2])) (q:=(3,"base",c1,.int (b:Nat))) (by simp[l])
  have g2:=C.got inj (upd (upd H5 z0 (.tup [.int 0,.int t.num])) g (.tup [.ref z0,.ref f1,.ref f2])) (q:=(4,"row",c2,.ref ra)) (by simp[l])
  have g3:=C.got inj (upd (upd H5 z0 (.tup [.int 0,.int t.num])) g (.tup [.ref z0,.ref f1,.ref f2])) (q:=(5,"sums",c3,.ref sa)) (by simp[l])
  have g4:=C.got inj (upd (upd H5 z0 (.tup [.int 0,.int t.num])) g (.tup [.ref z0,.ref f1,.ref f2])) (q:=(2,"saying",c4,.ref sy)) (by simp[l])
  have s6:=(sz.trans Qb).trans sm
  have k36:=k35.trans (KX.same (a:=a) s6)
  have oi:=k36 _ _ JV λ_ y=>nomatch y
  have oj:=k36 _ _ JW λ_ y=>nomatch y
  have om:=s6 _ _ JX
  have oq:=s6 _ _ JY
  have JZ:=ev1.kx (k3.trans k36)
  have J_:∀x∈[f1,d1,f2,d2,c1,c2,c3,c4],∃φ,jX (jY l) (upd (upd H5 z0 (.tup [.int 0,.int t.num])) g (.tup [.ref z0,.ref f1,.ref f2])) x=some (.ext φ):=λx hx=>by
   simp only[Ae,Bq,or_false] at hx
   rcases hx with z | z | z | z | z | z | z | z
   ·rw[z];exact⟨_,oi⟩
   ·rw[z];exact⟨_,oj⟩
   ·rw[z];exact⟨_,om⟩
   ·rw[z];exact⟨_,oq⟩
   ·rw[z];exact⟨_,g1⟩
   ·rw[z];exact⟨_,g2⟩
   ·rw[z];exact⟨_,g3⟩
   ·rw[z];exact⟨_,g4⟩
  refine q g z0 f1 f2 sa [f1,d1,f2,d2,c1,c2,c3,c4] _ ((KX.same s1).trans (k3.trans k36)) (uw.same s6) J_ JZ ((Qb.trans sm) _ _ af) (sm _ _ af) ?_ ?_
  ·refine dM.lam oi (by simp) oj (by simp) (ps:=["pair","letter"]) (aR:=["base","row","sums"]) (fvs:=[.int (b:Nat),.ref ra,.ref sa]) (dJ.mk' rfl rfl rfl (by decide+kernel) (by decide+kernel) (by decide+kernel) (by decide+kernel) (by decide+kernel)) inj (Aa.mpr ⟨⟨rfl,AG (i:=2) rfl⟩,Aa.mpr ⟨⟨rfl,AG (i:=1) rfl⟩,Aa.mpr ⟨⟨rfl,AG (i:=0) rfl⟩,λ_ h=>nomatch h⟩⟩⟩)
    (.cons ⟨c1,rfl,h1,by simp,g1⟩ (.cons ⟨c2,rfl,h2,by simp,g2⟩ (.cons ⟨c3,rfl,h3,by simp,g3⟩ .nil))) (λus hl=>match us,hl with | [_,_],_=>rfl) (λvs H Q E h=>?_) (λbase' W A outer s H vs Q E hr h=>?_)
   ·obtain⟨x,v,c,rfl,_⟩:=h
    rfl
   ·obtain⟨S,vv,c,rfl,⟨pp,rfl,ep⟩,⟨r,cc,rfl,hr',hcc⟩,hc,ev,kk⟩:=h
    have ka:aO P w K mg base' aW 1 a.gk a.g6 ["base","row","pair","total"] xt:=rH T
    have hr1:aK 1 _:=hr.mono (by decide)
    refine⟨_,aq ka hr1 (by rfl) T.nL T.nO T.nP .nil az (ae (pv 2) (ae (pv 3) (ae (pv 0) (ae (au (cS K) (pv 4) (pv 1) (λ_ _=>rfl)) ag)))),?_⟩
    have wq:su[c]? =some (su.getD c 0):=item_at 0 (by rw[tu];exact hc)
    have hn0:=(ow _ (AG wq)).1
    refine⟨_,rfl,_,rfl,_,rfl,_,rfl,_,rfl,sa,_,_,.int (su.getD c 0),rfl,rfl,.of ev.s,ak (by rw[AU,wq];rfl),b,n,r,cc,(su.getD c 0).toNat,ra,pp,sg,mv,?_,hb2,hb4,ev.jS,b_,hr',ep,λp H' s' e'=>?_⟩
    ·rw[BH hn0];rfl
    ·exact kk _ H' s' ⟨p,rfl,by rw[show((ux b mv su [r,cc] c).map λ(z:Nat)=>V.int (z:Int))=(aC (onRow b mv r cc (su.getD c 0).toNat)).map V.int by unfold aC;rw[BL];rfl];exact e'⟩
  ·refine dM.lam om (by simp) oq (by simp) (ps:=["pair"]) (aR:=["base","row","saying"]) (fvs:=[.int (b:Nat),.ref ra,.ref sy]) (dJ.mk' rfl rfl rfl (by decide+kernel) (by decide+kernel) (by decide+kernel) (by decide+kernel) (by decide+kernel)) inj (Aa.mpr ⟨⟨rfl,AG (i:=2) rfl⟩,Aa.mpr ⟨⟨rfl,AG (i:=1) rfl⟩,Aa.mpr ⟨⟨rfl,AG (i:=0) rfl⟩,λ_ h=>nomatch h⟩⟩⟩)
    (.cons ⟨c1,rfl,h1,by simp,g1⟩ (.cons ⟨c2,rfl,h2,by simp,g2⟩ (.cons ⟨c4,rfl,h4,by simp,g4⟩ .nil))) (λus hl=>match us,hl with | [_],_=>rfl) (λvs H Q E h=>?_) (λbase' W A outer s H vs Q E hr h=>?_)
   ·obtain⟨x,v,rfl,_⟩:=h
    rfl
   ·obtain⟨S,vv,rfl,⟨pp,rfl,ep⟩,⟨r,cc,rfl,hr',hcc⟩,ev,kk⟩:=h
    have lj:aO P w K mg base' aW 2 a.ij a.iE ["base","row","pair"] qR:=tj T
    have hr2:aK 2 _:=hr
    refine⟨_,ic dQ (aq lj hr2 (by rfl) T.pj T.px T.pz .nil az (ae (pv 1) (ae (pv 2) (ae (pv 0) ag)))) (au (ao K) (pv 3) ai (λ_ _=>rfl)) (a_ _),?_⟩
    refine⟨_,rfl,_,rfl,_,rfl,b,n,r,cc,ra,pp,sg,mv,rfl,hb2,hb4,ev.jS,YZ,b_,hr',Ay hcc hB2,ep,λH' s'=>⟨_,rfl,sy,_,_,.int sn,rfl,rfl,.of (s' _ _ ev.y),ak (j:=3) rfl,rfl,?_⟩⟩
    rw[show decide (V.int ((dB b sg mv r cc:Nat):Int)=V.int sn)=J5 b sg mv sn [r,cc] from decide_eq_decide.mpr ⟨λe=>V.int.inj e,λe=>congrArg V.int e⟩]
    exact kk H' s'
structure Rw where
 n:Nat
 ra:Addr
 sg:List Nat
 mv:List (List Nat)
structure Rw.Ok (R:Rw)(b:Nat)(H:Hp):Prop where
 row:og H R.ra R.sg R.mv
 len:R.sg.length=R.n
 pos:0<R.n
 b_:Moves R.n b R.mv
theorem Rw.Ok.keep{R:Rw}{b:Nat}{H H':Hp}(h:R.Ok b H)(k:bj H H'):R.Ok b H':=⟨h.row.keep k,h.len,h.pos,h.b_⟩
def Uu(b:Nat)(R S:Rw)(su sv:List Int)(p:List Nat)(L:Nat):List Nat:=onRow b R.mv (p.getD 0 0) (p.getD 1 0) (su.getD L 0).toNat++onRow b S.mv (p.getD 2 0) (p.getD 3 0) (sv.getD L 0).toNat
def J8(b:Nat)(R S:Rw)(p:List Nat):Bool:=decide (((dB b R.sg R.mv (p.getD 0 0) (p.getD 1 0):Nat):Int)=((dB b S.sg S.mv (p.getD 2 0) (p.getD 3 0):Nat):Int))
def J9(R S:Rw)(B:Nat)(p:List Nat):Prop:=∃r c r' c',p=[r,c,r',c']/\r<R.n/\c<=B/\r'<S.n/\c'<=B
structure jL (b:Nat)(R S:Rw)(sa sb:Addr)(su sv:List Int)(H:Hp):Prop where
 r1:R.Ok b H
 r2:S.Ok b H
 s:H sa=some (.lst (su.map V.int))
 t:H sb=some (.lst (sv.map V.int))
section
variable{b:Nat}{R S:Rw}{sa sb:Addr}{su sv:List Int}{H H':Hp}
theorem jL.keep(e:jL b R S sa sb su sv H)(kt:bj H H')(kl:∀b xs,H b=some (.lst xs)->H' b=some (.lst xs)):jL b R S sa sb su sv H':=⟨e.r1.keep kt,e.r2.keep kt,kl _ _ e.s,kl _ _ e.t⟩
theorem jL.kx{a:bh}(e:jL b R S sa sb su sv H)(k:KX a H H'):jL b R S sa sb su sv H':=e.keep k.kt λb xs z=>k _ _ z λ_ y=>nomatch y
theorem jL.same(e:jL b R S sa sb su sv H)(s:Same H H'):jL b R S sa sb su sv H':=e.keep s.kt λb xs z=>s _ _ z
theorem jL.dA{D:List Addr}(hD:∀a∈D,∃φ,H a=some (.ext φ))(e:jL b R S sa sb su sv H):jL b R S sa sb su sv (L2.dA D H):=
 e.keep (λb xs z=>ky hD z (λ_ y=>nomatch y)) λb xs z=>ky hD z (λ_ y=>nomatch y)
end
theorem Uv{B:Nat}{su:List Int}(hs:∀x∈su,x<=(B:Int))(L:Nat):(su.getD L 0).toNat<=B:=by
 rw[BA]
 cases e:su[L]? with
 | none=>exact A6 _
 | some x=>have:=hs x (AG e);show x.toNat<=B;omega
theorem J'{b B c s:Nat}(hb:2<=b)(hc:c<=B)(hs:s<=B):(c+s) / b<=B:=by
 have:(c+s) / b<=(c+s) / 2:=Nat.div_le_div_left hb (by decide)
 omega
theorem Y0{b B:Nat}(hb:2<=b){R S:Rw}(m:Moves R.n b R.mv)(m':Moves S.n b S.mv){su sv:List Int}(hs:∀x∈su,x<=(B:Int))(hv:∀x∈sv,x<=(B:Int)){p:List Nat}(h:J9 R S B p)(L:Nat):J9 R S B (Uu b R S su sv p L):=by
 obtain⟨r,c,r',c',rfl,hr,hc,hr',hc'⟩:=h
 exact⟨_,_,_,_,rfl,m.stp hr (CV _ (by omega)),J' hb hc (Uv hs L),m'.stp hr' (CV _ (by omega)),J' hb hc' (Uv hv L)⟩
inductive Wk (P:Ah)(w:World)(K:AB)(mg:Str->Option Value)(base:Heap)(a:bh)(vs:List V)(H:Hp)(Q:VK)(aJ:XK):Prop where
 | mk (b B:Nat) (R S:Rw) (wo Dw nm sy ta tb:Addr) (kvs:List (Key×V)) (x y:Str) (w0:V) (t u:Term) (ss:List Str) (cG:vs=[.ref wo,.ref nm,.ref sy]) (cD:2<=b) (cE:b<=4) (dc:H wo=some (.tup [.int b,.ref Dw])) (dZ:Rd H Dw (.dK kvs)) (fU:aZ kvs (Am x)=some (.ref R.ra)) (iH:aZ kvs (Am y)=some (.ref S.ra)) (j8:R.Ok b H) (mM:S.Ok b H) (rF:H sy=some (.tup [w0,.str x,.ref ta,.str y,.ref tb])) (sX:bp H ta t) (Jx:bp H tb u) (M0:t.parts.length<=100) (R9:u.parts.length<=100) (R':(∀z∈aE b (ss.map t.at),0<=z/\z<=(B:Int))) (Yn:(∀z∈aE b (ss.map u.at),0<=z/\z<=(B:Int))) (Yo:B<2 ^ 20000) (aeJ:H nm=some (.tup (ss.map V.str))) (aeK:ss.length<=4) (aeL:TB a H) (amF:∀(g z0 f1 f2 sa sb:Addr) (D:List Addr) (H':Hp),KX a H H'->TB a H'->(∀a∈D,∃φ,H' a=some (.ext φ))->jL b R S sa sb (aE b (ss.map t.at)) (aE b (ss.map u.at)) H'->H' z0=some (.tup [.int 0,.int t.num,.int 0,.int u.num])->H' g=some (.tup [.ref z0,.ref f1,.ref f2])->dM P w K mg base H' D 3 f1 2 (sQ (o8.toS P w) (b ^ ss.length) (Uu b R S (aE b (ss.map t.at)) (aE b (ss.map u.at))) (J9 R S B) (jL b R S sa sb (aE b (ss.map t.at)) (aE b (ss.map u.at))))->dM P w K mg base H' D 3 f2 1 (sU (o8.toS P w) (J8 b R S) (J9 R S B) (jL b R S sa sb (aE b (ss.map t.at)) (aE b (ss.map u.at))))->Q (.ref g) H')
def Y1(P:Ah)(w:World)(K:AB)(mg:Str->Option Value)(base:Heap)(a:bh):Sp:=λvs H Q aJ=>Wk P w K mg base a vs H Q aJ
theorem cg:aP ["world","names","saying","base","one","other","left","right","onward","is_yes"] ["world","names","saying"] (ah bt):=⟨rfl,rfl,rfl,by decide+kernel,rfl,by decide+kernel,by decide+kernel⟩
set_option maxHeartbeats 16000000 in
theorem wt{a:bh}(T:Txt K mg a)(hB:eG mg base):aO P w K mg base aW 3 a.bT a.fK ["world","names","saying"] (Y1 P w K mg base a):=by
 have du:=iZ (P:=P) (w:=w) (base:=base) T
 have gW:=pB (P:=P) (w:=w) (base:=base) T
 refine T.kI.okR cg (λvs H Q E h=>?_) (λAr outer sh H vs Q E inj hr h=>?_)
 ·obtain⟨b,B,R,S,wo,Dw,nm,sy,ta,tb',kvs,x,y,w0,t,u,ss,rfl,_⟩:=h
  rfl
 ·obtain⟨b,B,R,S,wo,Dw,nm,sy,ta,tb',kvs,x,y,w0,t,u,ss,rfl,hb2,hb4,ew,Ut,ex,ey,er1,YR,es,et,eu,lt,lu,ow,hsv,hB2,o_,J7,tb,q⟩:=h
  have cW:aK 2 _:=hr
  have fS:aK 1 _:=hr.mono (by decide)
  refine⟨_,cH (aw (i:=3) cg.nd rfl (CT rfl) (au (ao K) (pv 0) ai (λ_ _=>rfl)))
   (cH (aw (i:=4) cg.nd rfl (CT rfl) (cv (cf hr) (au (ao K) (pv 0) ai (λ_ _=>rfl)) (au (ao K) (pv 2) ai (λ_ _=>rfl)) (λ_ _=>rfl)))
   (cH (aw (i:=5) cg.nd rfl (CT rfl) (cv (cf hr) (au (ao K) (pv 0) ai (λ_ _=>rfl)) (au (ao K) (pv 2) ai (λ_ _=>rfl)) (λ_ _=>rfl)))
   (cH (aw (i:=6) cg.nd rfl (CT rfl) (aq du cW rfl T.g7 T.g8 T.g9 .nil az (ae (pv 3) (ae (aq gW fS rfl T.j5 T.j6 T.j7 .nil az (ae (au (ao K) (pv 2) ai (λ_ _=>rfl)) (ae (pv 1) ag))) ag))))
   (cH (aw (i:=7) cg.nd rfl (CT rfl) (aq du cW rfl T.g7 T.g8 T.g9 .nil az (ae (pv 3) (ae (aq gW fS rfl T.j5 T.j6 T.j7 .nil az (ae (au (ao K) (pv 2) ai (λ_ _=>rfl)) (ae (pv 1) ag))) ag))))
   (cH (aw (i:=8) cg.nd rfl (Ab rfl) (jD (T:=a.cn) (L:=Ur) rfl T.p_ hB rfl rfl (AL) (apart2 (by decide)) rfl))
   (cH (aw (i:=9) cg.nd rfl (Ab rfl) (jD (T:=a.cn) (L:=Ur) rfl T.p_ hB rfl rfl (AJ _ AL) (apart2 (by decide)) rfl))
   (vO (bq (ae (bq (ae ai (ae (au (ao K) (au (ao K) (pv 2) ai (λ_ _=>rfl)) ai (λ_ _=>rfl)) (ae ai (ae (au (ao K) (au (ao K) (pv 2) ai (λ_ _=>rfl)) ai (λ_ _=>rfl)) ag))))) (ae (pv 8) (ae (pv 9) ag))))))))))),?_⟩
  refine⟨_,rfl,wo,_,_,.int (b:Nat),rfl,rfl,.of ew,ak (j:=0) rfl,?_⟩
  dsimp only[aD]
  refine⟨_,rfl,wo,_,_,.ref Dw,rfl,rfl,.of ew,ak (j:=1) rfl,_,rfl,sy,_,_,.str x,rfl,rfl,.of es,ak (j:=1) rfl,Dw,.ref R.ra,rfl,.inl ⟨kvs,Am x,Ut,rfl,ex.symm⟩,?_⟩
  dsimp only[aD]
  refine⟨_,rfl,wo,_,_,.ref Dw,rfl,rfl,.of ew,ak (j:=1) rfl,_,rfl,sy,_,_,.str y,rfl,rfl,.of es,ak (j:=3) rfl,Dw,.ref S.ra,rfl,.inl ⟨kvs,Am y,Ut,rfl,ey.symm⟩,?_⟩
  dsimp only[aD]
  refine⟨_,rfl,_,rfl,sy,_,_,.ref ta,rfl,rfl,.of es,ak (j:=2) rfl,_,rfl,ta,nm,t,ss,rfl,et,lt,o_,by omega,λD0 H0 yA s0 d0=>?_⟩
  refine⟨b,D0,_,rfl,hb4,d0,by rw[AA];exact J7,λsa H1' hsa s1' d1'=>?_⟩
  have Uw:=s0.trans s1'
  have es':=Uw _ _ es
  have eu':=eu.keep Uw.kt
  have aeN:=Uw _ _ o_
  dsimp only[aD]
  refine⟨_,rfl,_,rfl,sy,_,_,.ref tb',rfl,rfl,.of es',ak (j:=4) rfl,_,rfl,tb',nm,u,ss,rfl,eu',lu,aeN,by omega,λD2 H2 hD2 s2 d2=>?_⟩
  refine⟨b,D2,_,rfl,hb4,d2,by rw[AA];exact J7,λsb H1 hsb s2' d1=>?_⟩
  have s1:=Uw.trans (s2.trans s2')
  have d1':=(s2.trans s2') _ _ d1'
  rw[show((lets b (ss.map t.at).length).map λl=>dot l (ss.map t.at))=aE b (ss.map t.at) from rfl] at d1'
  rw[show((lets b (ss.map u.at).length).map λl=>dot l (ss.map u.at))=aE b (ss.map u.at) from rfl] at d1
  have tu:(aE b (ss.map t.at)).length=b ^ ss.length:=by rw[lH,AA]
  have lsv:(aE b (ss.map u.at)).length=b ^ ss.length:=by rw[lH,AA]
  generalize aE b (ss.map t.at)=su at d1' q tu ow
  generalize aE b (ss.map u.at)=sv at d1 q lsv hsv
  have ev1:jL b R S sa sb su sv H1:=⟨er1.keep s1.kt,YR.keep s1.kt,d1',d1⟩
  have gp:=tb.same s1
  have es1:=s1 _ _ es
  obtain⟨tq1,amG,Y_,_,_⟩:=et.keep s1.kt
  obtain⟨tq2,amH,ta2,_,_⟩:=eu.keep s1.kt
  dsimp only[aD]
  refine⟨gp.al,λf1 d1 Sv H3 hf1 JV JW u9 kb3=>?_⟩
  have k3:KX a H1 H3:=KX.kb gp.al kb3
  have oh:=gp.kal T kb3 u9
  dsimp only[aD]
  refine⟨oh.al,λf2 d2 Sw H5 hf2 JX JY vb tD=>?_⟩
  have k35:KX a H3 H5:=KX.kb oh.al tD
  have uw:=oh.kal T tD vb
  have k15:=k3.trans k35
  dsimp only[aD]
  refine⟨_,rfl,sy,_,_,.ref ta,rfl,rfl,.of (k15.kt _ _ es1),ak (j:=2) rfl,ta,_,_,.int t.num,rfl,rfl,.of (k15.kt _ _ Y_),ak (j:=0) rfl,_,rfl,sy,_,_,.ref tb',rfl,rfl,.of (k15.kt _ _ es1),ak (j:=4) rfl,tb',_,_,.int u.num,rfl,rfl,.of (k15.kt _ _ ta2),ak (j:=0) rfl,by show 4<=sizeLine;decide,λz0 hz0=>⟨_,rfl,_,rfl,by show 3<=sizeLine;decide,λg hg=>?_⟩⟩
  have sz:=Same.new (o:=.tup [.int 0,.int t.num,.int 0,.int u.num]) hz0
  have Qb:=Same.new (o:=.tup [.ref z0,.ref f1,.ref f2]) hg
  obtain⟨c1,h1⟩:∃c,(BJ "alike_growth" (ah bt) sh.heap.objs.size a.bT (.ref a.cV)).cells.lookup ("base":Str)=some c:=cQ rfl
  obtain⟨c2,h2⟩:∃c,(BJ "alike_growth" (ah bt) sh.heap.objs.size a.bT (.ref a.cV)).cells.lookup ("one":Str)=some c:=cQ rfl
  obtain⟨c3,h3⟩:∃c,(BJ "alike_growth" (ah bt) sh.heap.objs.size a.bT (.ref a.cV)).cells.lookup ("other":Str)=some c:=cQ rfl
  obtain⟨c4,h4⟩:∃c,(BJ "alike_growth" (ah bt) sh.heap.objs.size a.bT (.ref a.cV)).cells.lookup ("left":Str)=some c:=cQ rfl
  obtain⟨c5,h5⟩:∃c,(BJ "alike_growth" (ah bt) sh.heap.objs.size a.bT (.ref a.cV)).cells.lookup ("right":Str)=some c:=cQ rfl
  let l:List (Nat×Str×Addr×V):=[(3,"base",c1,.int (b:Nat)),(4,"one",c2,.ref R.ra),(5,"other",c3,.ref S.ra),(6,"left",c4,.ref sa),(7,"right",c5,.ref sb)]
  have C:uj (jR aW P w K mg base ["world","names","saying","base","one","other","left","right","onward","is_yes"] "alike_growth" (ah bt) a.bT (.ref a.cV) Ar outer sh H E) [some (.ref wo),some (.ref nm),some (.ref sy),some (.int (b:Nat)),some (.ref R.ra),some (.ref S.ra),some (.ref sa),some (.ref sb),some (.ref f1),some (.ref f2)] l:=
   ⟨Aa.mpr ⟨⟨rfl,rfl,rfl,h1⟩,Aa.mpr ⟨⟨rfl,rfl,rfl,h2⟩,Aa.mpr ⟨⟨rfl,rfl,rfl,h3⟩,Aa.mpr ⟨⟨rfl,rfl,rfl,h4⟩,Aa.mpr ⟨⟨rfl,rfl,rfl,h5⟩,λ_ h=>nomatch h⟩⟩⟩⟩⟩,show(["base","one","other","left","right"]:List Str).Nodup by decide+kernel⟩
  refine⟨jY l,C.cells,λfr=>?_⟩
  have sm:=jE fr
  have g1:=C.got inj (upd (upd H5 z0 (.tup [.int 0,.int t.num,.int 0,.int u.num])) g (.tup [.ref z0,.ref f1,.ref f2])) (q:=(3,"base",c1,.int (b:Nat))) (by simp[l])
  have g2:=C.got inj (upd (upd H5 z0 (.tup [.int 0,.int t.num,.int 0,.int u.num])) g (.tup [.ref z0,.ref f1,.ref f2])) (q:=(4,"one",c2,.ref R.ra)) (by simp[l])
  have g3:=C.got inj (upd (upd H5 z0 (.tup [.int 0,.int t.num,.int 0,.int u.num])) g (.tup [.ref z0,.ref f1,.ref f2])) (q:=(5,"other",c3,.ref S.ra)) (by simp[l])
  have g4:=C.got inj (upd (upd H5 z0 (.tup [.int 0,.int t.num,.int 0,.int u.num])) g (.tup [.ref z0,.ref f1,.ref f2])) (q:=(6,"left",c4,.ref sa)) (by simp[l])
  have g5:=C.got inj (upd (upd H5 z0 (.tup [.int 0,.int t.num,.int 0,.int u.num])) g (.tup [.ref z0,.ref f1,.ref f2])) (q:=(7,"right",c5,.ref sb)) (by simp[l])
  have s6:=(sz.trans Qb).trans sm
  have k36:=k35.trans (KX.same (a:=a) s6)
  have oi:=k36 _ _ JV λ_ y=>nomatch y
  have oj:=k36 _ _ JW λ_ y=>nomatch y
  have om:=s6 _ _ JX
  have oq:=s6 _ _ JY
  have JZ:=ev1.kx (k3.trans k36)
  have J_:∀x∈[f1,d1,f2,d2,c1,c2,c3,c4,c5],∃φ,jX (jY l) (upd (upd H5 z0 (.tup [.int 0,.int t.num,.int 0,.int u.num])) g (.tup [.ref z0,.ref f1,.ref f2])) x=some (.ext φ):=λx hx=>by
   simp only[Ae,Bq,or_false] at hx
   rcases hx with z | z | z | z | z | z | z | z | z
   ·rw[z];exact⟨_,oi⟩
   ·rw[z];exact⟨_,oj⟩
   ·rw[z];exact⟨_,om⟩
   ·rw[z];exact⟨_,oq⟩
   ·rw[z];exact⟨_,g1⟩
   ·rw[z];exact⟨_,g2⟩
   ·rw[z];exact⟨_,g3⟩
   ·rw[z];exact⟨_,g4⟩
   ·rw[z];exact⟨_,g5⟩
  refine q g z0 f1 f2 sa sb [f1,d1,f2,d2,c1,c2,c3,c4,c5] _ ((KX.same s1).trans (k3.trans k36)) (uw.same s6) J_ JZ ((Qb.trans sm) _ _ af) (sm _ _ af) ?_ ?_
  ·refine dM.lam oi (by simp) oj (by simp) (ps:=["four","letter"]) (aR:=["base","one","other","left","right"]) (fvs:=[.int (b:Nat),.ref R.ra,.ref S.ra,.ref sa,.ref sb]) (dJ.mk' rfl rfl rfl (by decide+kernel) (by decide+kernel) (by decide+kernel) (by decide+kernel) (by decide+kernel)) inj (Aa.mpr ⟨⟨rfl,AG (i:=4) rfl⟩,Aa.mpr ⟨⟨rfl,AG (i:=2) rfl⟩,Aa.mpr ⟨⟨rfl,AG (i:=1) rfl⟩,Aa.mpr ⟨⟨rfl,AG (i:=3) rfl⟩,Aa.mpr ⟨⟨rfl,AG (i:=0) rfl⟩,λ_ h=>nomatch h⟩⟩⟩⟩⟩)
    (.cons ⟨c1,rfl,h1,by simp,g1⟩ (.cons ⟨c2,rfl,h2,by simp,g2⟩ (.cons ⟨c3,rfl,h3,by simp,g3⟩ (.cons ⟨c4,rfl,h4,by simp,g4⟩ (.cons ⟨c5,rfl,h5,by simp,g5⟩ .nil))))) (λus hl=>match us,hl with | [_,_],_=>rfl) (λvs H Q E h=>?_) (λbase' W A outer s H vs Q E hr h=>?_)
   ·obtain⟨x,v,c,rfl,_⟩:=h
    rfl
   ·obtain⟨S0,vv,c,rfl,⟨pp,rfl,ep⟩,⟨r,cc,r',cc',rfl,hr1,hcc,hr2,Y3⟩,hc,ev,kk⟩:=h
    have ka:aO P w K mg base' aW 1 a.gk a.g6 ["base","row","pair","total"] xt:=rH T
    have Y4:aK 1 _:=hr.mono (by decide)
    refine⟨_,aI (Lx K) (aq ka Y4 (by rfl) T.nL T.nO T.nP .nil az (ae (pv 2) (ae (pv 3) (ae (iy (pU K) (pv 0) fu (ie ai)) (ae (au (cS K) (pv 5) (pv 1) (λ_ _=>rfl)) ag)))))
     (aq ka Y4 (by rfl) T.nL T.nO T.nP .nil az (ae (pv 2) (ae (pv 4) (ae (iy (pU K) (pv 0) (ie ai) fu) (ae (au (cS K) (pv 6) (pv 1) (λ_ _=>rfl)) ag))))),?_⟩
    have wq:su[c]? =some (su.getD c 0):=item_at 0 (by rw[tu];exact hc)
    have hn0:=(ow _ (AG wq)).1
    have ecv:sv[c]? =some (sv.getD c 0):=item_at 0 (by rw[lsv];exact hc)
    have hv0:=(hsv _ (AG ecv)).1
    have ep':H pp=some (.tup [.int (r:Nat),.int (cc:Nat),.int (r':Nat),.int (cc':Nat)]):=ep
    refine⟨_,rfl,_,rfl,_,rfl,?_⟩
    dsimp only[mV,vC,tC]
    refine⟨2,rfl,OO 2 ep' λp1 H1 s1 e1=>?_⟩
    have ev1:=ev.same s1
    refine⟨_,rfl,_,rfl,sa,_,_,.int (su.getD c 0),rfl,rfl,.of ev1.s,ak (by rw[AU,wq];rfl),b,R.n,r,cc,(su.getD c 0).toNat,R.ra,p1,R.sg,R.mv,?_,hb2,hb4,ev1.r1.row,ev1.r1.b_,hr1,e1,λp2 H2 s2 e2=>?_⟩
    ·rw[BH hn0];rfl
    have ev2:=ev1.same s2
    refine⟨_,rfl,_,rfl,_,rfl,?_⟩
    dsimp only[mV,vC,tC]
    refine⟨2,rfl,IC 2 ((s1.trans s2) _ _ ep') λp3 H3 s3 e3=>?_⟩
    have uo:=ev2.same s3
    refine⟨_,rfl,_,rfl,sb,_,_,.int (sv.getD c 0),rfl,rfl,.of uo.t,ak (by rw[AU,ecv];rfl),b,S.n,r',cc',(sv.getD c 0).toNat,S.ra,p3,S.sg,S.mv,?_,hb2,hb4,uo.r2.row,uo.r2.b_,hr2,e3,λp4 H4 s4 e4=>?_⟩
    ·rw[BH hv0];rfl
    refine⟨p2,p4,_,_,rfl,rfl,(s3.trans s4) _ _ e2,e4,by show 4<=sizeLine;decide,λp5 H5 s5 e5=>?_⟩
    refine kk _ H5 ((((s1.trans s2).trans s3).trans s4).trans s5) ⟨p5,rfl,?_⟩
    rw[e5];rfl
  ·refine dM.lam om (by simp) oq (by simp) (ps:=["four"]) (aR:=["base","one","other"]) (fvs:=[.int (b:Nat),.ref R.ra,.ref S.ra]) (dJ.mk' rfl rfl rfl (by decide+kernel) (by decide+kernel) (by decide+kernel) (by decide+kernel) (by decide+kernel)) inj (Aa.mpr ⟨⟨rfl,AG (i:=2) rfl⟩,Aa.mpr ⟨⟨rfl,AG (i:=1) rfl⟩,Aa.mpr ⟨⟨rfl,AG (i:=0) rfl⟩,λ_ h=>nomatch h⟩⟩⟩)
    (.cons ⟨c1,rfl,h1,by simp,g1⟩ (.cons ⟨c2,rfl,h2,by simp,g2⟩ (.cons ⟨c3,rfl,h3,by simp,g3⟩ .nil))) (λus hl=>match us,hl with | [_],_=>rfl) (λvs H Q E h=>?_) (λbase' W A outer s H vs Q E hr h=>?_)
   ·obtain⟨x,v,rfl,_⟩:=h
    rfl
   ·obtain⟨S0,vv,rfl,⟨pp,rfl,ep⟩,⟨r,cc,r',cc',rfl,hr1,hcc,hr2,Y3⟩,ev,kk⟩:=h
    have lj:aO P w K mg base' aW 2 a.ij a.iE ["base","row","pair"] qR:=tj T
    have hr2':aK 2 _:=hr
    have ep':H pp=some (.tup [.int (r:Nat),.int (cc:Nat),.int (r':Nat),.int (cc':Nat)]):=ep
    refine⟨_,ic dQ (aq lj hr2' (by rfl) T.pj T.px T.pz .nil az (ae (pv 1) (ae (pv 2) (ae (iy (pU K) (pv 0) fu (ie ai)) ag)))) (aq lj hr2' (by rfl) T.pj T.px T.pz .nil az (ae (pv 1) (ae (pv 3) (ae (iy (pU K) (pv 0) (ie ai) fu) ag)))) (a_ _),?_⟩
    refine⟨_,rfl,_,rfl,_,rfl,?_⟩
    dsimp only[mV,vC,tC]
    refine⟨2,rfl,OO 2 ep' λp1 H1 s1 e1=>?_⟩
    have ev1:=ev.same s1
    refine⟨b,R.n,r,cc,R.ra,p1,R.sg,R.mv,rfl,hb2,hb4,ev1.r1.row,ev1.r1.len,ev1.r1.b_,hr1,Ay hcc hB2,e1,λH2 s2=>?_⟩
    have ev2:=ev1.same s2
    refine⟨_,rfl,_,rfl,_,rfl,?_⟩
    dsimp only[mV,vC,tC]
    refine⟨2,rfl,IC 2 ((s1.trans s2) _ _ ep') λp3 H3 s3 e3=>?_⟩
    have uo:=ev2.same s3
    refine⟨b,S.n,r',cc',S.ra,p3,S.sg,S.mv,rfl,hb2,hb4,uo.r2.row,uo.r2.len,uo.r2.b_,hr2,Ay Y3 hB2,e3,λH4 s4=>⟨rfl,?_⟩⟩
    rw[show decide (V.int ((dB b R.sg R.mv r cc:Nat):Int)=V.int ((dB b S.sg S.mv r' cc':Nat):Int))=J8 b R S [r,cc,r',cc'] from decide_eq_decide.mpr ⟨λe=>V.int.inj e,λe=>congrArg V.int e⟩]
    exact kk H4 (((s1.trans s2).trans s3).trans s4)
theorem _root_.L2.aO.or{P:Ah}{w:World}{K:AB}{mg:Str->Option Value}{base:Heap}{CX:rV}{k:Nat}{f:Addr}{fd:Av}{ps:List Str}{sp sq:Sp}(F:aO P w K mg base CX k f fd ps sp)(G:aO P w K mg base CX k f fd ps sq):aO P w K mg base CX k f fd ps (λvs H Q E=>sp vs H Q E∨sq vs H Q E):=
 ⟨λvs H Q E h=>h.elim (F.len vs H Q E) (G.len vs H Q E),λA outer s H args us vs Q E hr he hb hv hs=>hs.elim (F.run A outer s H args us vs Q E hr he hb hv) (G.run A outer s H args us vs Q E hr he hb hv)⟩
def tE(ls:Bool)(t u:Term):ay:=if ls then .less t u else .same t u
def zE(ls:Bool):Str:=if ls then "less" else "same"
def iq(t u:Term)(ks:List Str):List Int:=ks.map λn=>t.at n-u.at n
def qS(H:Hp)(sy ta tb:Addr)(ls:Bool)(t u:Term):Prop:=H sy=some (.tup [.str (zE ls),.ref ta,.ref tb])/\bp H ta t/\bp H tb u
theorem qS.keep{H H':Hp}{sy ta tb:Addr}{ls:Bool}{t u:Term}(h:qS H sy ta tb ls t u)(k:bj H H'):qS H' sy ta tb ls t u:=⟨k _ _ h.1,h.2.1.keep k,h.2.2.keep k⟩
theorem bp.dat{K:AB}{H:Hp}{a:Addr}{t:Term}(h:bp H a t):ax K H (.ref a) t.dt:=by
 obtain⟨b,ps,h1,h2,h3⟩:=h
 refine iR (.of h1) (bA wY (bA (iR (.of h2) ?_) d_))
 clear h1 h2
 generalize t.parts=l at h3
 induction h3 with
 | nil=>exact d_
 | cons h _ ih=>exact bA (iR (.of h) (bA iQ (bA wY d_))) ih
theorem qS.dat{K:AB}{H:Hp}{sy ta tb:Addr}{ls:Bool}{t u:Term}(h:qS H sy ta tb ls t u):ax K H (.ref sy) (tE ls t u).dt:=by
 obtain⟨h1,h2,h3⟩:=h
 cases ls
 ·exact iR (.of h1) (bA iQ (bA h2.dat (bA h3.dat d_)))
 ·exact iR (.of h1) (bA iQ (bA h2.dat (bA h3.dat d_)))
inductive Qd (P:Ah)(w:World)(K:AB)(mg:Str->Option Value)(base:Heap)(a:bh)(vs:List V)(H:Hp)(Q:VK)(aJ:XK):Prop where
 | mk (ls:Bool) (b:Nat) (wo nm sy ta tb:Addr) (wv:V) (t u:Term) (ss:List Str) (cG:vs=[.ref wo,.ref nm,.ref sy]) (cD:2<=b) (cE:b<=4) (dc:H wo=some (.tup [.int b,wv])) (dZ:qS H sy ta tb ls t u) (fU:t.parts.length<=100) (iH:u.parts.length<=100) (j8:H nm=some (.tup (ss.map V.str))) (mM:ss.length<=4) (rF:TB a H) (sX:∀(g f1 f2 sa:Addr) (D:List Addr) (H':Hp),KX a H H'->TB a H'->(∀a∈D,∃φ,H' a=some (.ext φ))->lI sa (aE b (iq t u ss)) H'->H' g=some (.tup [.int (dG ls t u),.ref f1,.ref f2])->dM P w K mg base H' D 2 f1 2 (sQ (Iz P w) (b ^ ss.length) (rK ls b (aE b (iq t u ss))) (JU ls) (lI sa (aE b (iq t u ss))))->dM P w K mg base H' D 2 f2 1 (sU (Iz P w) (xu ls) (JU ls) (lI sa (aE b (iq t u ss))))->Q (.ref g) H')
def Sx(P:Ah)(w:World)(K:AB)(mg:Str->Option Value)(base:Heap)(a:bh):Sp:=λvs H Q aJ=>Qd P w K mg base a vs H Q aJ
theorem kZ:aP ["world","names","saying"] ["world","names","saying"] (ah fA):=⟨rfl,rfl,rfl,by decide+kernel,rfl,by decide+kernel,by decide+kernel⟩
theorem wu{a:bh}(T:Txt K mg a)(hB:eG mg base):aO P w K mg base aW 4 a.fD a.gn ["world","names","saying"] (Sx P w K mg base a):=by
 have hG:=xv (P:=P) (w:=w) (base:=base) T hB
 have hJ:=xx (P:=P) (w:=w) (base:=base) T hB
 have hU:aO P w K mg base aW 1 a.ck a.gm ["world","names","saying"] (λ_ _ _ _=>False):=T.mf.okR cX (λvs H Q E h=>h.elim) (λAr outer sh H vs Q E inj hr h=>h.elim)
 have gq:aO P w K mg base aW 1 a.bT a.fK ["world","names","saying"] (λ_ _ _ _=>False):=T.kI.okR cg (λvs H Q E h=>h.elim) (λAr outer sh H vs Q E inj hr h=>h.elim)
 refine T.mn.ok kZ (λvs H Q E h=>?_) (λcdv A outer s H vs Q E hr h=>?_)
 ·obtain⟨ls,b,wo,nm,sy,ta,tb',wv,t,u,ss,rfl,_⟩:=h
  rfl
 ·obtain⟨ls,b,wo,nm,sy,ta,tb',wv,t,u,ss,rfl,hb2,hb4,ew,⟨es,e1,e2⟩,l1,l2,en,l4,tb,q⟩:=h
  have gs:aK 3 _:=hr
  have gu:aK 3 _:=hr
  have gw:aK 1 _:=hr.mono (by decide)
  have fN:aK 1 _:=hr.mono (by decide)
  refine⟨_,(aj (cq (aV dQ (au (ao K) (pv 2) ai (λ_ _=>rfl)) aX (a_ _))
   (av (aL (aq hG gs rfl T.lV T.lW T.lX .nil az (ae (au (ao K) (pv 0) ai (λ_ _=>rfl)) (ae (pv 1) (ae (pv 2) ag))))))
   bG)
  (aj (cq (aV dQ (au (ao K) (pv 2) ai (λ_ _=>rfl)) aX (a_ _))
   (av (aL (aq hJ gu rfl T.lZ T.md T.me .nil az (ae (au (ao K) (pv 0) ai (λ_ _=>rfl)) (ae (pv 1) (ae (pv 2) ag))))))
   bG)
  (aj (cq (aV dQ (au (ao K) (pv 2) ai (λ_ _=>rfl)) aX (a_ _))
   (av (aL (aq hU gw rfl T.mh T.mj T.ml .nil az (ae (pv 0) (ae (pv 1) (ae (pv 2) ag))))))
   bG)
  (av (aL (aq gq fN rfl T.kK T.kN T.kO .nil az (ae (pv 0) (ae (pv 1) (ae (pv 2) ag))))))))),?_⟩
  refine⟨_,rfl,sy,_,_,.str (zE ls),rfl,rfl,.of es,ak (j:=0) rfl,by cases ls<;>rfl,_,rfl,?_⟩
  cases ls with
  | false=>
   refine bJ (λ_=>?_) (λz=>absurd (by decide) z)
   exact⟨_,rfl,wo,_,_,.int (b:Nat),rfl,rfl,.of ew,ak (j:=0) rfl,_,rfl,_,rfl,b,nm,sy,ta,tb',_,t,u,ss,rfl,hb2,hb4,es,e1,e2,l1,l2,en,l4,tb,q⟩
  | true=>
   refine bJ (λz=>absurd z (by decide)) (λ_=>?_)
   refine⟨_,rfl,sy,_,_,.str (zE true),rfl,rfl,.of es,ak (j:=0) rfl,rfl,_,rfl,?_⟩
   refine bJ (λ_=>?_) (λz=>absurd (by decide) z)
   exact⟨_,rfl,wo,_,_,.int (b:Nat),rfl,rfl,.of ew,ak (j:=0) rfl,_,rfl,_,rfl,b,nm,sy,ta,tb',_,t,u,ss,rfl,hb2,hb4,es,e1,e2,l1,l2,en,l4,tb,q⟩
abbrev Ux (ls:Bool)(b:Nat)(t u:Term)(ks:List Str):Option Int->Nat->Option Int:=rK ls b (aE b (iq t u ks))
inductive Nc (a:bh)(vs:List V)(H:Hp)(Q:VK)(aJ:XK):Prop where
 | mk (ls:Bool) (b most:Nat) (wo sy ta tb:Addr) (wv:V) (t u:Term) (ss:List Str) (cG:vs=[.ref wo,.ref sy,.int most]) (cD:2<=b) (cE:b<=4) (dc:H wo=some (.tup [.int b,wv])) (dZ:qS H sy ta tb ls t u) (fU:(tE ls t u).Over ss) (iH:ss.length<=4) (j8:most<=10000) (mM:TB a H) (rF:(∀(ks:List Str) (xs:List (Option Int)) (H':Hp),KX a H H'->TB a H'->cL ks (tE ls t u)->xs.Nodup->(∀x∈xs,∃w,fm (b ^ ks.length) w/\x=dh (Ux ls b t u ks) (some (dG ls t u)) w)->most<xs.length->Q .non H')) (sX:∀(ks:List Str) (p nm:Addr) (xs:List (Option Int)) (mv:List (List Nat)) (H':Hp),KX a H H'->TB a H'->cL ks (tE ls t u)->jc H' p nm (xs.map (xu ls)) mv->H' nm=some (.tup (ks.map V.str))->mv.length=xs.length->xs.length<=most->dD (some (dG ls t u)) (Ux ls b t u ks) (b ^ ks.length) xs mv->Q (.ref p) H')
def yI(a:bh):Sp:=λvs H Q aJ=>Nc a vs H Q aJ
theorem Qe{ls:Bool}{t u:Term}{ss:List Str}(h:(tE ls t u).Over ss):fq ss t/\fq ss u:=by cases ls<;>exact h
theorem i_:aP ["world","saying","most","names"] ["world","saying","most"] (ah dr):=⟨rfl,rfl,rfl,by decide+kernel,rfl,by decide+kernel,by decide+kernel⟩
theorem K_{a:bh}{pb:mD}{pc:oa}(T:Txt K mg a)(hB:eG mg base)(U:jr K w.params mg pb)(Y:j9 K w.params mg pc):aO P w K mg base aW 5 a.iF a.gR ["world","saying","most"] (yI a):=by
 have iJ:aO P w K mg base aW 4 a.fk a.fC ["saying"] (wj K):=mG T U Y
 have hV:=wu (P:=P) (w:=w) (base:=base) T hB
 have iK:=mB (P:=P) (w:=w) (base:=base) T 2
 refine T.sH.ok i_ (λvs H Q E h=>?_) (λAr outer s H vs Q E hr h=>?_)
 ·obtain⟨ls,b,most,wo,sy,ta,tb',wv,t,u,ss,rfl,_⟩:=h
  rfl
 ·obtain⟨ls,b,most,wo,sy,ta,tb',wv,t,u,ss,rfl,hb2,hb4,ew,sat,ov,l4,hm,tb,q0,q⟩:=h
  have h_:aK 4 _:=hr
  have gx:aK 4 _:=hr
  have h9:aK 4 _:=hr
  refine⟨_,(aj (aw (i:=3) i_.nd rfl (Ab rfl) (aq iJ h_ rfl T.nI T.nJ T.nK .nil az (ae (pv 1) ag)))
  (av (aL (aq iK h9 rfl T.nF T.nG T.nH .nil az (ae (au (ao K) (pv 0) ai (λ_ _=>rfl)) (ae (pv 3) (ae (aq hV gx rfl T.mq T.mr T.mx .nil az (ae (pv 0) (ae (pv 3) (ae (pv 1) ag)))) (ae (pv 2) ag)))))))),?_⟩
  have hov:=Qe ov
  refine⟨_,rfl,_,_,ss,rfl,sat.dat,by cases ls<;>exact A6 _,ov,by omega,λnm ks H1 s1 en fr=>?_⟩
  have lk:ks.length<=4:=A5 (fr.len ov) l4
  dsimp only[aD]
  have ew1:=s1 _ _ ew
  refine⟨_,rfl,wo,_,_,.int (b:Nat),rfl,rfl,.of ew1,ak (j:=0) rfl,_,rfl,_,rfl,_,rfl,_,rfl,ls,b,wo,nm,sy,ta,tb',wv,t,u,ks,rfl,hb2,hb4,ew1,sat.keep s1.kt,by have:=hov.1.1;omega,by have:=hov.2.1;omega,en,lk,tb.same s1,λg f1 f2 sa D H2 k2 tb2 hD ev eg F1 F2=>?_⟩
  refine⟨_,rfl,b,most,nm,g,ks,Option Int,Iz P w,Ux ls b t u ks,xu ls,JU ls,lI sa (aE b (iq t u ks)),some (dG ls t u),_,f1,f2,D,rfl,hb4,lk,k2.kt _ _ en,eg,hD,F1,F2,λ_ _ h _=>YV h,λH H' e s=>s _ _ e,λD H hD e=>e.dA hD,rfl,λ_=>rfl,ev,hm,λxs H3 s3 nd rc lt=>?_,λxs mv p H3 s3 hl hle gr lJ=>?_⟩
  ·exact q0 ks xs H3 ((KX.same s1).trans (k2.trans (KX.same s3))) (tb2.same s3) fr nd rc lt
  ·exact q ks p nm xs mv H3 ((KX.same s1).trans (k2.trans (KX.same s3))) (tb2.same s3) fr lJ (s3 _ _ (k2.kt _ _ en)) hl hle gr
structure Ka (b n B:Nat)(wo Dw sy ra ta:Addr)(kvs:List (Key×V))(x:Str)(t:Term)(sn:Int)(sg:List Nat)(mv:List (List Nat))(H:Hp):Prop where
 wo:H wo=some (.tup [.int b,.ref Dw])
 dw:Rd H Dw (.dK kvs)
 at':aZ kvs (Am x)=some (.ref ra)
 row:og H ra sg mv
 len:sg.length=n
 pos:0<n
 b_:Moves n b mv
 sy:H sy=some (.tup [.str "sign",.str x,.ref ta,.int sn])
 tm:bp H ta t
 few:t.parts.length<=100
 num:∃c:Nat,t.num=(c:Int)/\c<=B
 big:B<2 ^ 20000
theorem Ka.kx{a:bh}{b n B:Nat}{wo Dw sy ra ta:Addr}{kvs:List (Key×V)}{x:Str}{t:Term}{sn:Int}{sg:List Nat}{mv:List (List Nat)}{H H':Hp}(h:Ka b n B wo Dw sy ra ta kvs x t sn sg mv H)(k:KX a H H'):Ka b n B wo Dw sy ra ta kvs x t sn sg mv H':=
 ⟨k.kt _ _ h.wo,h.dw.elim (λe=>.inl (k _ _ e λ_ y=>nomatch y)) (λ⟨o,e⟩=>.inr ⟨o,k _ _ e λ_ y=>nomatch y⟩),h.at',h.row.keep k.kt,h.len,h.pos,h.b_,k.kt _ _ h.sy,h.tm.keep k.kt,h.few,h.num,h.big⟩
abbrev Uy (b:Nat)(mv:List (List Nat))(t:Term)(ks:List Str):List Nat->Nat->List Nat:=ux b mv (aE b (ks.map t.at))
inductive Qg (P:Ah)(w:World)(K:AB)(mg:Str->Option Value)(base:Heap)(a:bh)(vs:List V)(H:Hp)(Q:VK)(aJ:XK):Prop where
 | mk (b n B:Nat) (wo Dw nm sy ra ta:Addr) (kvs:List (Key×V)) (x:Str) (t:Term) (sn:Int) (sg:List Nat) (mv:List (List Nat)) (ss:List Str) (cG:vs=[.ref wo,.ref nm,.ref sy]) (cD:2<=b) (cE:b<=4) (dc:Ka b n B wo Dw sy ra ta kvs x t sn sg mv H) (dZ:(∀z∈aE b (ss.map t.at),0<=z/\z<=(B:Int))) (fU:H nm=some (.tup (ss.map V.str))) (iH:ss.length<=4) (j8:TB a H) (mM:∀(g z0 f1 f2 sa:Addr) (D:List Addr) (H':Hp),KX a H H'->TB a H'->(∀a∈D,∃φ,H' a=some (.ext φ))->jK ra sa sy sg mv (aE b (ss.map t.at)) [.str "sign",.str x,.ref ta,.int sn] H'->H' z0=some (.tup [.int 0,.int t.num])->H' g=some (.tup [.ref z0,.ref f1,.ref f2])->dM P w K mg base H' D 3 f1 2 (sQ (o8.toS P w) (b ^ ss.length) (Uy b mv t ss) (J6 n B) (jK ra sa sy sg mv (aE b (ss.map t.at)) [.str "sign",.str x,.ref ta,.int sn]))->dM P w K mg base H' D 3 f2 1 (sU (o8.toS P w) (J5 b sg mv sn) (J6 n B) (jK ra sa sy sg mv (aE b (ss.map t.at)) [.str "sign",.str x,.ref ta,.int sn]))->Q (.ref g) H')
def Sy(P:Ah)(w:World)(K:AB)(mg:Str->Option Value)(base:Heap)(a:bh):Sp:=λvs H Q aJ=>Qg P w K mg base a vs H Q aJ
theorem wx{a:bh}(T:Txt K mg a)(hB:eG mg base):aO P w K mg base aW 4 a.fD a.gn ["world","names","saying"] (Sy P w K mg base a):=by
 have hU:=xy (P:=P) (w:=w) (base:=base) T hB
 have hG:aO P w K mg base aW 1 a.cM a.gi ["base","names","saying"] (λ_ _ _ _=>False):=T.lU.okR eX (λvs H Q E h=>h.elim) (λAr outer sh H vs Q E inj hr h=>h.elim)
 have hJ:aO P w K mg base aW 1 a.cN a.gj ["base","names","saying"] (λ_ _ _ _=>False):=T.lY.okR eY (λvs H Q E h=>h.elim) (λAr outer sh H vs Q E inj hr h=>h.elim)
 have gq:aO P w K mg base aW 1 a.bT a.fK ["world","names","saying"] (λ_ _ _ _=>False):=T.kI.okR cg (λvs H Q E h=>h.elim) (λAr outer sh H vs Q E inj hr h=>h.elim)
 refine T.mn.ok kZ (λvs H Q E h=>?_) (λcdv A outer s H vs Q E hr h=>?_)
 ·obtain⟨b,n,B,wo,Dw,nm,sy,ra,ta,kvs,x,t,sn,sg,mv,ss,rfl,_⟩:=h
  rfl
 ·obtain⟨b,n,B,wo,Dw,nm,sy,ra,ta,kvs,x,t,sn,sg,mv,ss,rfl,hb2,hb4,S,ow,en,l4,tb,q⟩:=h
  have gs:aK 1 _:=hr.mono (by decide)
  have gu:aK 1 _:=hr.mono (by decide)
  have gw:aK 3 _:=hr
  have fN:aK 1 _:=hr.mono (by decide)
  refine⟨_,(aj (cq (aV dQ (au (ao K) (pv 2) ai (λ_ _=>rfl)) aX (a_ _))
   (av (aL (aq hG gs rfl T.lV T.lW T.lX .nil az (ae (au (ao K) (pv 0) ai (λ_ _=>rfl)) (ae (pv 1) (ae (pv 2) ag))))))
   bG)
  (aj (cq (aV dQ (au (ao K) (pv 2) ai (λ_ _=>rfl)) aX (a_ _))
   (av (aL (aq hJ gu rfl T.lZ T.md T.me .nil az (ae (au (ao K) (pv 0) ai (λ_ _=>rfl)) (ae (pv 1) (ae (pv 2) ag))))))
   bG)
  (aj (cq (aV dQ (au (ao K) (pv 2) ai (λ_ _=>rfl)) aX (a_ _))
   (av (aL (aq hU gw rfl T.mh T.mj T.ml .nil az (ae (pv 0) (ae (pv 1) (ae (pv 2) ag))))))
   bG)
  (av (aL (aq gq fN rfl T.kK T.kN T.kO .nil az (ae (pv 0) (ae (pv 1) (ae (pv 2) ag))))))))),?_⟩
  refine⟨_,rfl,sy,_,_,.str "sign",rfl,rfl,.of S.sy,ak (j:=0) rfl,rfl,_,rfl,?_⟩
  refine bJ (λz=>absurd z (by decide)) (λ_=>?_)
  refine⟨_,rfl,sy,_,_,.str "sign",rfl,rfl,.of S.sy,ak (j:=0) rfl,rfl,_,rfl,?_⟩
  refine bJ (λz=>absurd z (by decide)) (λ_=>?_)
  refine⟨_,rfl,sy,_,_,.str "sign",rfl,rfl,.of S.sy,ak (j:=0) rfl,rfl,_,rfl,?_⟩
  refine bJ (λ_=>?_) (λz=>absurd (by decide) z)
  exact⟨_,rfl,_,rfl,_,rfl,b,n,B,wo,Dw,nm,sy,ra,ta,kvs,x,_,t,sn,sg,mv,ss,rfl,hb2,hb4,S.wo,S.dw,S.at',S.row,S.len,S.pos,S.b_,S.sy,S.tm,S.few,S.num,ow,S.big,en,l4,tb,q⟩
inductive Nd (a:bh)(vs:List V)(H:Hp)(Q:VK)(aJ:XK):Prop where
 | mk (b n B most:Nat) (wo Dw sy ra ta:Addr) (kvs:List (Key×V)) (x:Str) (t:Term) (sn:Int) (sg:List Nat) (mv:List (List Nat)) (ss:List Str) (cG:vs=[.ref wo,.ref sy,.int most]) (cD:2<=b) (cE:b<=4) (dc:Ka b n B wo Dw sy ra ta kvs x t sn sg mv H) (dZ:(∀ks:List Str,ks.length<=4->∀z∈aE b (ks.map t.at),0<=z/\z<=(B:Int))) (fU:fq ss t) (iH:ss.length<=4) (j8:most<=10000) (mM:TB a H) (rF:(∀(ks:List Str) (xs:List (List Nat)) (c:Nat) (H':Hp),KX a H H'->TB a H'->cL ks (.sign x t sn)->t.num=(c:Int)->xs.Nodup->(∀p∈xs,∃w,fm (b ^ ks.length) w/\p=dh (Uy b mv t ks) [0,c] w)->most<xs.length->Q .non H')) (sX:∀(ks:List Str) (p nm:Addr) (xs:List (List Nat)) (c:Nat) (mw:List (List Nat)) (H':Hp),KX a H H'->TB a H'->cL ks (.sign x t sn)->t.num=(c:Int)->jc H' p nm (xs.map (J5 b sg mv sn)) mw->H' nm=some (.tup (ks.map V.str))->mw.length=xs.length->xs.length<=most->dD [0,c] (Uy b mv t ks) (b ^ ks.length) xs mw->Q (.ref p) H')
def yJ(a:bh):Sp:=λvs H Q aJ=>Nd a vs H Q aJ
theorem K0{a:bh}{pb:mD}{pc:oa}(T:Txt K mg a)(hB:eG mg base)(U:jr K w.params mg pb)(Y:j9 K w.params mg pc):aO P w K mg base aW 6 a.iF a.gR ["world","saying","most"] (yJ a):=by
 have iJ:aO P w K mg base aW 4 a.fk a.fC ["saying"] (wj K):=mG T U Y
 have hV:=wx (P:=P) (w:=w) (base:=base) T hB
 have iK:=mB (P:=P) (w:=w) (base:=base) T 3
 refine T.sH.ok i_ (λvs H Q E h=>?_) (λAr outer s H vs Q E hr h=>?_)
 ·obtain⟨b,n,B,most,wo,Dw,sy,ra,ta,kvs,x,t,sn,sg,mv,ss,rfl,_⟩:=h
  rfl
 ·obtain⟨b,n,B,most,wo,Dw,sy,ra,ta,kvs,x,t,sn,sg,mv,ss,rfl,hb2,hb4,S,ow,ov,l4,hm,tb,q0,q⟩:=h
  have h_:aK 4 _:=hr.mono (by decide)
  have gx:aK 4 _:=hr.mono (by decide)
  have h9:aK 5 _:=hr
  refine⟨_,(aj (aw (i:=3) i_.nd rfl (Ab rfl) (aq iJ h_ rfl T.nI T.nJ T.nK .nil az (ae (pv 1) ag)))
  (av (aL (aq iK h9 rfl T.nF T.nG T.nH .nil az (ae (au (ao K) (pv 0) ai (λ_ _=>rfl)) (ae (pv 3) (ae (aq hV gx rfl T.mq T.mr T.mx .nil az (ae (pv 0) (ae (pv 3) (ae (pv 1) ag)))) (ae (pv 2) ag)))))))),?_⟩
  have dat:ax K H (.ref sy) (ay.sign x t sn).dt:=iR (.of S.sy) (bA iQ (bA iQ (bA S.tm.dat (bA wY d_))))
  obtain⟨c,hc,hcB⟩:=S.num
  refine⟨_,rfl,_,ay.sign x t sn,ss,rfl,dat,A6 _,ov,by omega,λnm ks H1 s1 en fr=>?_⟩
  have lk:ks.length<=4:=A5 (fr.len ov) l4
  have S1:=S.kx (KX.same (a:=a) s1)
  dsimp only[aD]
  refine⟨_,rfl,wo,_,_,.int (b:Nat),rfl,rfl,.of S1.wo,ak (j:=0) rfl,_,rfl,_,rfl,_,rfl,_,rfl,b,n,B,wo,Dw,nm,sy,ra,ta,kvs,x,t,sn,sg,mv,ks,rfl,hb2,hb4,S1,ow ks lk,en,lk,tb.same s1,λg z0 f1 f2 sa D H2 k2 tb2 hD ev ez eg F1 F2=>?_⟩
  refine⟨_,rfl,b,most,nm,g,ks,List Nat,o8.toS P w,Uy b mv t ks,J5 b sg mv sn,J6 n B,jK ra sa sy sg mv (aE b (ks.map t.at)) [.str "sign",.str x,.ref ta,.int sn],[0,c],_,f1,f2,D,rfl,hb4,lk,k2.kt _ _ en,eg,hD,F1,F2,λ_ _ h _=>YX hb2 S.b_ (λz hz=>(ow ks lk z hz).2) h _,λH H' e s=>e.same s,λD H hD e=>e.dA hD,⟨z0,rfl,by rw[ez,hc];rfl⟩,⟨0,c,rfl,S.pos,hcB⟩,ev,hm,λxs H3 s3 nd rc lt=>?_,λxs mw p H3 s3 hl hle gr lJ=>?_⟩
  ·exact q0 ks xs c H3 ((KX.same s1).trans (k2.trans (KX.same s3))) (tb2.same s3) fr hc nd rc lt
  ·exact q ks p nm xs c mw H3 ((KX.same s1).trans (k2.trans (KX.same s3))) (tb2.same s3) fr hc lJ (s3 _ _ (k2.kt _ _ en)) hl hle gr
structure Kb (b B:Nat)(R S:Rw)(wo Dw sy ta tb:Addr)(kvs:List (Key×V))(x y:Str)(t u:Term)(H:Hp):Prop where
 wo:H wo=some (.tup [.int b,.ref Dw])
 dw:Rd H Dw (.dK kvs)
 at1:aZ kvs (Am x)=some (.ref R.ra)
 at2:aZ kvs (Am y)=some (.ref S.ra)
 r1:R.Ok b H
 r2:S.Ok b H
 sy:H sy=some (.tup [.str "alike",.str x,.ref ta,.str y,.ref tb])
 t1:bp H ta t
 t2:bp H tb u
 Y5:t.parts.length<=100
 Y6:u.parts.length<=100
 Y7:∃c:Nat,t.num=(c:Int)/\c<=B
 Y8:∃c:Nat,u.num=(c:Int)/\c<=B
 big:B<2 ^ 20000
theorem Kb.kx{a:bh}{b B:Nat}{R S:Rw}{wo Dw sy ta tb:Addr}{kvs:List (Key×V)}{x y:Str}{t u:Term}{H H':Hp}(h:Kb b B R S wo Dw sy ta tb kvs x y t u H)(k:KX a H H'):Kb b B R S wo Dw sy ta tb kvs x y t u H':=
 ⟨k.kt _ _ h.wo,h.dw.elim (λe=>.inl (k _ _ e λ_ y=>nomatch y)) (λ⟨o,e⟩=>.inr ⟨o,k _ _ e λ_ y=>nomatch y⟩),h.at1,h.at2,h.r1.keep k.kt,h.r2.keep k.kt,k.kt _ _ h.sy,h.t1.keep k.kt,h.t2.keep k.kt,h.Y5,h.Y6,h.Y7,h.Y8,h.big⟩
abbrev Uz (b:Nat)(R S:Rw)(t u:Term)(ks:List Str):List Nat->Nat->List Nat:=Uu b R S (aE b (ks.map t.at)) (aE b (ks.map u.at))
inductive Qh (P:Ah)(w:World)(K:AB)(mg:Str->Option Value)(base:Heap)(a:bh)(vs:List V)(H:Hp)(Q:VK)(aJ:XK):Prop where
 | mk (b B:Nat) (R S:Rw) (wo Dw nm sy ta tb:Addr) (kvs:List (Key×V)) (x y:Str) (t u:Term) (ss:List Str) (cG:vs=[.ref wo,.ref nm,.ref sy]) (cD:2<=b) (cE:b<=4) (dc:Kb b B R S wo Dw sy ta tb kvs x y t u H) (dZ:(∀z∈aE b (ss.map t.at),0<=z/\z<=(B:Int))) (fU:(∀z∈aE b (ss.map u.at),0<=z/\z<=(B:Int))) (iH:H nm=some (.tup (ss.map V.str))) (j8:ss.length<=4) (mM:TB a H) (rF:∀(g z0 f1 f2 sa sb:Addr) (D:List Addr) (H':Hp),KX a H H'->TB a H'->(∀a∈D,∃φ,H' a=some (.ext φ))->jL b R S sa sb (aE b (ss.map t.at)) (aE b (ss.map u.at)) H'->H' z0=some (.tup [.int 0,.int t.num,.int 0,.int u.num])->H' g=some (.tup [.ref z0,.ref f1,.ref f2])->dM P w K mg base H' D 3 f1 2 (sQ (o8.toS P w) (b ^ ss.length) (Uz b R S t u ss) (J9 R S B) (jL b R S sa sb (aE b (ss.map t.at)) (aE b (ss.map u.at))))->dM P w K mg base H' D 3 f2 1 (sU (o8.toS P w) (J8 b R S) (J9 R S B) (jL b R S sa sb (aE b (ss.map t.at)) (aE b (ss.map u.at))))->Q (.ref g) H')
def Sz(P:Ah)(w:World)(K:AB)(mg:Str->Option Value)(base:Heap)(a:bh):Sp:=λvs H Q aJ=>Qh P w K mg base a vs H Q aJ
theorem wy{a:bh}(T:Txt K mg a)(hB:eG mg base):aO P w K mg base aW 4 a.fD a.gn ["world","names","saying"] (Sz P w K mg base a):=by
 have gq:=wt (P:=P) (w:=w) (base:=base) T hB
 have hG:aO P w K mg base aW 1 a.cM a.gi ["base","names","saying"] (λ_ _ _ _=>False):=T.lU.okR eX (λvs H Q E h=>h.elim) (λAr outer sh H vs Q E inj hr h=>h.elim)
 have hJ:aO P w K mg base aW 1 a.cN a.gj ["base","names","saying"] (λ_ _ _ _=>False):=T.lY.okR eY (λvs H Q E h=>h.elim) (λAr outer sh H vs Q E inj hr h=>h.elim)
 have hU:aO P w K mg base aW 1 a.ck a.gm ["world","names","saying"] (λ_ _ _ _=>False):=T.mf.okR cX (λvs H Q E h=>h.elim) (λAr outer sh H vs Q E inj hr h=>h.elim)
 refine T.mn.ok kZ (λvs H Q E h=>?_) (λcdv A outer s H vs Q E hr h=>?_)
 ·obtain⟨b,B,R,S,wo,Dw,nm,sy,ta,tb',kvs,x,y,t,u,ss,rfl,_⟩:=h
  rfl
 ·obtain⟨b,B,R,S,wo,Dw,nm,sy,ta,tb',kvs,x,y,t,u,ss,rfl,hb2,hb4,A',ow,hsv,en,l4,tb,q⟩:=h
  have gs:aK 1 _:=hr.mono (by decide)
  have gu:aK 1 _:=hr.mono (by decide)
  have gw:aK 1 _:=hr.mono (by decide)
  have fN:aK 3 _:=hr
  refine⟨_,(aj (cq (aV dQ (au (ao K) (pv 2) ai (λ_ _=>rfl)) aX (a_ _))
   (av (aL (aq hG gs rfl T.lV T.lW T.lX .nil az (ae (au (ao K) (pv 0) ai (λ_ _=>rfl)) (ae (pv 1) (ae (pv 2) ag))))))
   bG)
  (aj (cq (aV dQ (au (ao K) (pv 2) ai (λ_ _=>rfl)) aX (a_ _))
   (av (aL (aq hJ gu rfl T.lZ T.md T.me .nil az (ae (au (ao K) (pv 0) ai (λ_ _=>rfl)) (ae (pv 1) (ae (pv 2) ag))))))
   bG)
  (aj (cq (aV dQ (au (ao K) (pv 2) ai (λ_ _=>rfl)) aX (a_ _))
   (av (aL (aq hU gw rfl T.mh T.mj T.ml .nil az (ae (pv 0) (ae (pv 1) (ae (pv 2) ag))))))
   bG)
  (av (aL (aq gq fN rfl T.kK T.kN T.kO .nil az (ae (pv 0) (ae (pv 1) (ae (pv 2) ag))))))))),?_⟩
  refine⟨_,rfl,sy,_,_,.str "alike",rfl,rfl,.of A'.sy,ak (j:=0) rfl,rfl,_,rfl,?_⟩
  refine bJ (λz=>absurd z (by decide)) (λ_=>?_)
  refine⟨_,rfl,sy,_,_,.str "alike",rfl,rfl,.of A'.sy,ak (j:=0) rfl,rfl,_,rfl,?_⟩
  refine bJ (λz=>absurd z (by decide)) (λ_=>?_)
  refine⟨_,rfl,sy,_,_,.str "alike",rfl,rfl,.of A'.sy,ak (j:=0) rfl,rfl,_,rfl,?_⟩
  refine bJ (λz=>absurd z (by decide)) (λ_=>?_)
  exact⟨_,rfl,_,rfl,_,rfl,b,B,R,S,wo,Dw,nm,sy,ta,tb',kvs,x,y,_,t,u,ss,rfl,hb2,hb4,A'.wo,A'.dw,A'.at1,A'.at2,A'.r1,A'.r2,A'.sy,A'.t1,A'.t2,A'.Y5,A'.Y6,ow,hsv,A'.big,en,l4,tb,q⟩
inductive Nf (a:bh)(vs:List V)(H:Hp)(Q:VK)(aJ:XK):Prop where
 | mk (b B most:Nat) (R S:Rw) (wo Dw sy ta tb:Addr) (kvs:List (Key×V)) (x y:Str) (t u:Term) (ss:List Str) (cG:vs=[.ref wo,.ref sy,.int most]) (cD:2<=b) (cE:b<=4) (dc:Kb b B R S wo Dw sy ta tb kvs x y t u H) (dZ:(∀ks:List Str,ks.length<=4->∀z∈aE b (ks.map t.at),0<=z/\z<=(B:Int))) (fU:(∀ks:List Str,ks.length<=4->∀z∈aE b (ks.map u.at),0<=z/\z<=(B:Int))) (iH:fq ss t) (j8:fq ss u) (mM:ss.length<=4) (rF:most<=10000) (sX:TB a H) (Jx:(∀(ks:List Str) (xs:List (List Nat)) (c d:Nat) (H':Hp),KX a H H'->TB a H'->cL ks (.alike x t y u)->t.num=(c:Int)->u.num=(d:Int)->xs.Nodup->(∀p∈xs,∃w,fm (b ^ ks.length) w/\p=dh (Uz b R S t u ks) [0,c,0,d] w)->most<xs.length->Q .non H')) (M0:∀(ks:List Str) (p nm:Addr) (xs:List (List Nat)) (c d:Nat) (mw:List (List Nat)) (H':Hp),KX a H H'->TB a H'->cL ks (.alike x t y u)->t.num=(c:Int)->u.num=(d:Int)->jc H' p nm (xs.map (J8 b R S)) mw->H' nm=some (.tup (ks.map V.str))->mw.length=xs.length->xs.length<=most->dD [0,c,0,d] (Uz b R S t u ks) (b ^ ks.length) xs mw->Q (.ref p) H')
def yK(a:bh):Sp:=λvs H Q aJ=>Nf a vs H Q aJ
theorem K1{a:bh}{pb:mD}{pc:oa}(T:Txt K mg a)(hB:eG mg base)(U:jr K w.params mg pb)(Y:j9 K w.params mg pc):aO P w K mg base aW 6 a.iF a.gR ["world","saying","most"] (yK a):=by
 have iJ:aO P w K mg base aW 4 a.fk a.fC ["saying"] (wj K):=mG T U Y
 have hV:=wy (P:=P) (w:=w) (base:=base) T hB
 have iK:=mB (P:=P) (w:=w) (base:=base) T 3
 refine T.sH.ok i_ (λvs H Q E h=>?_) (λAr outer s H vs Q E hr h=>?_)
 ·obtain⟨b,B,most,R,S,wo,Dw,sy,ta,tb',kvs,x,y,t,u,ss,rfl,_⟩:=h
  rfl
 ·obtain⟨b,B,most,R,S,wo,Dw,sy,ta,tb',kvs,x,y,t,u,ss,rfl,hb2,hb4,A',ow,hsv,ov,ov',l4,hm,tb,q0,q⟩:=h
  have h_:aK 4 _:=hr.mono (by decide)
  have gx:aK 4 _:=hr.mono (by decide)
  have h9:aK 5 _:=hr
  refine⟨_,(aj (aw (i:=3) i_.nd rfl (Ab rfl) (aq iJ h_ rfl T.nI T.nJ T.nK .nil az (ae (pv 1) ag)))
  (av (aL (aq iK h9 rfl T.nF T.nG T.nH .nil az (ae (au (ao K) (pv 0) ai (λ_ _=>rfl)) (ae (pv 3) (ae (aq hV gx rfl T.mq T.mr T.mx .nil az (ae (pv 0) (ae (pv 3) (ae (pv 1) ag)))) (ae (pv 2) ag)))))))),?_⟩
  have dat:ax K H (.ref sy) (ay.alike x t y u).dt:=iR (.of A'.sy) (bA iQ (bA iQ (bA A'.t1.dat (bA iQ (bA A'.t2.dat d_)))))
  obtain⟨c,hc,hcB⟩:=A'.Y7
  obtain⟨d,hd,hdB⟩:=A'.Y8
  refine⟨_,rfl,_,ay.alike x t y u,ss,rfl,dat,A6 _,⟨ov,ov'⟩,by omega,λnm ks H1 s1 en fr=>?_⟩
  have lk:ks.length<=4:=A5 (fr.len ⟨ov,ov'⟩) l4
  have A1:=A'.kx (KX.same (a:=a) s1)
  dsimp only[aD]
  refine⟨_,rfl,wo,_,_,.int (b:Nat),rfl,rfl,.of A1.wo,ak (j:=0) rfl,_,rfl,_,rfl,_,rfl,_,rfl,b,B,R,S,wo,Dw,nm,sy,ta,tb',kvs,x,y,t,u,ks,rfl,hb2,hb4,A1,ow ks lk,hsv ks lk,en,lk,tb.same s1,λg z0 f1 f2 sa sb D H2 k2 tb2 hD ev ez eg F1 F2=>?_⟩
  refine⟨_,rfl,b,most,nm,g,ks,List Nat,o8.toS P w,Uz b R S t u ks,J8 b R S,J9 R S B,jL b R S sa sb (aE b (ks.map t.at)) (aE b (ks.map u.at)),[0,c,0,d],_,f1,f2,D,rfl,hb4,lk,k2.kt _ _ en,eg,hD,F1,F2,λ_ _ h _=>Y0 hb2 A'.r1.b_ A'.r2.b_ (λz hz=>(ow ks lk z hz).2) (λz hz=>(hsv ks lk z hz).2) h _,λH H' e s=>e.same s,λD H hD e=>e.dA hD,⟨z0,rfl,by rw[ez,hc,hd];rfl⟩,⟨0,c,0,d,rfl,A'.r1.pos,hcB,A'.r2.pos,hdB⟩,ev,hm,λxs H3 s3 nd rc lt=>?_,λxs mw p H3 s3 hl hle gr lJ=>?_⟩
  ·exact q0 ks xs c d H3 ((KX.same s1).trans (k2.trans (KX.same s3))) (tb2.same s3) fr hc hd nd rc lt
  ·exact q ks p nm xs c d mw H3 ((KX.same s1).trans (k2.trans (KX.same s3))) (tb2.same s3) fr hc hd lJ (s3 _ _ (k2.kt _ _ en)) hl hle gr
def cm(f:Nat->Nat):Nat->Nat->Nat
 | 0,x=>x
 | k+1,x=>f (cm f k x)
theorem qd(f:Nat->Nat):∀a b x,cm f (a+b) x=cm f a (cm f b x)
 | 0,b,x=>by rw[EL];rfl
 | a+1,b,x=>by rw[Nat.succ_add];exact congrArg f (qd f a b x)
theorem tF{f:Nat->Nat}{n:Nat}(h:∀x,x<n->f x<n):∀k x,x<n->cm f k x<n
 | 0,x,hx=>hx
 | k+1,x,hx=>h _ (tF h k x hx)
theorem pig:∀(n:Nat) (g:Nat->Nat),(∀k,k<=n->g k<n)->∃i j,i<j/\j<=n/\g i=g j
 | 0,g,h=>absurd (h 0 (AM _)) (Nat.not_lt_zero _)
 | n+1,g,h=>by
  by_cases e:∃i,i<=n/\g i=g (n+1)
  ·obtain⟨i,hi,e⟩:=e
   exact⟨i,n+1,by omega,AM _,e⟩
  ·have ne:∀i,i<=n->g i≠g (n+1):=λi hi z=>e ⟨i,hi,z⟩
   have hv:=h (n+1) (AM _)
   obtain⟨i,j,hij,hj,eq⟩:=pig n (λk=>if g (n+1)<g k then g k-1 else g k) (λk hk=>by
    have h1:=h k (by omega)
    have h2:=ne k hk
    show(if g (n+1)<g k then g k-1 else g k)<n
    split<;>omega)
   refine⟨i,j,hij,by omega,?_⟩
   have h1:=ne i (by omega)
   have h2:=ne j hj
   have eq':(if g (n+1)<g i then g i-1 else g i)=(if g (n+1)<g j then g j-1 else g j):=eq
   split at eq'<;>split at eq'<;>omega
theorem ring{f:Nat->Nat}{n r:Nat}(h:∀x,x<n->f x<n)(hr:r<n):∃p,0<p/\p<=n/\cm f p (cm f n r)=cm f n r:=by
 obtain⟨i,j,hij,hj,e⟩:=pig n (λk=>cm f k r) (λk _=>tF h k r hr)
 refine⟨j-i,by omega,by omega,?_⟩
 have e1:cm f n r=cm f (n-j) (cm f j r):=by rw[<-qd];congr 1;omega
 have e2:cm f (j-i) (cm f n r)=cm f (n-i) (cm f j r):=by rw[e1,<-qd];congr 1;omega
 have e3:cm f n r=cm f (n-i) (cm f i r):=by rw[<-qd];congr 1;omega
 rw[e2,e3]
 exact congrArg _ e.symm
theorem o4(f:Nat->Nat):∀k x,cm f k (f x)=cm f (k+1) x
 | 0,_=>rfl
 | k+1,x=>congrArg f (o4 f k x)
def qe(f:Nat->Nat)(n x m:Nat):Prop:=(∃k,m=cm f k (cm f n x))/\∀k,m<=cm f k (cm f n x)
theorem qe.next{f:Nat->Nat}{n x m m':Nat}(h:∀x,x<n->f x<n)(hx:x<n)(a:qe f n x m)(b:qe f n (f x) m'):m'=m:=by
 obtain⟨p,p0,_,hp⟩:=ring h hx
 have e:cm f n (f x)=f (cm f n x):=o4 f n x
 unfold qe at a b
 rw[e] at b
 generalize cm f n x=c at a b hp
 obtain⟨⟨k1,e1⟩,l1⟩:=a
 obtain⟨⟨k2,e2⟩,l2⟩:=b
 rw[o4] at e2
 have h1:=l1 (k2+1)
 have h3:cm f k1 c=cm f (k1+(p-1)) (f c):=by
  rw[o4,show k1+(p-1)+1=k1+p by omega,qd,hp]
 have h2:=l2 (k1+(p-1))
 rw[<-h3] at h2
 omega
inductive Qi (vs:List V)(H:Hp)(Q:VK)(aJ:XK):Prop where
 | mk (M:Addr) (ps:List Addr) (n b:Nat) (mv:List (List Nat)) (cG:vs=[.ref M]) (cD:H M=some (.tup (ps.map V.ref))) (cE:fP H ps (mv.map aC)) (dc:Moves n b mv) (dZ:0<b) (fU:n<=2000) (iH:∀(D:Addr) (rs:List Nat) (H':Hp),H D=none->Same H H'->H' D=some (.lst ((aC rs).map V.int))->rs.length=n->(∀r∈rs,r<n)->(∀r,r<n->rs.getD (stp mv r 0) 0=rs.getD r 0)->Q (.ref D) H')
def SA:Sp:=λvs H Q aJ=>Qi vs H Q aJ
theorem gX:aP ["_law_moves","_law_found","_law_room","_law_at","_law_turn","_law_ring"] ["_law_moves"] (ah jI):=⟨rfl,rfl,rfl,by decide+kernel,rfl,by decide+kernel,by decide+kernel⟩
theorem K2{a:bh}(T:Txt K mg a):aO P w K mg base aW 1 a.oT a.qF ["_law_moves"] SA:=by
 refine T.O7.ok gX (λvs H Q E h=>?_) (λcdv A outer s H vs Q E hr h=>?_)
 ·obtain⟨M,ps,n,b,mv,rfl,_⟩:=h
  rfl
 ·obtain⟨M,ps,n,b,mv,rfl,eM,tp,hm,hb,hn,k⟩:=h
  refine⟨_,(aj (aw (i:=1) gX.nd rfl (Ab rfl) (df ag))
  (aj (cK Aw rfl (dm rfl T.eP (ae (bo (cx K) (by rfl) T.gT fb (ae (pv 0) ag)) ag)) (aF (i:=2) gX.nd rfl (Ab rfl))
   (aj (aw (i:=3) gX.nd rfl (Ab rfl) (pv 2))
   (aj (cK Aw rfl (dF (pv 0)) (aF (i:=4) gX.nd rfl (Ab rfl))
    (av (aw (i:=3) gX.nd rfl (Ab rfl) (au (ao K) (au (ao K) (pv 0) (pv 3) (λ_ _=>rfl)) ai (λ_ _=>rfl)))))
   (aj (aw (i:=5) gX.nd rfl (Ab rfl) (df (ae (pv 3) ag)))
   (aj (iw Aw (aV vw (au (ao K) (au (ao K) (pv 0) (au (cS K) (pv 5) (zx vt ai) (λ_ _=>rfl)) (λ_ _=>rfl)) ai (λ_ _=>rfl)) (pv 3) (a_ _))
    (av (dX (fV Az BC BD dq (pv 5) (ae (au (ao K) (au (ao K) (pv 0) (au (cS K) (pv 5) (zx vt ai) (λ_ _=>rfl)) (λ_ _=>rfl)) ai (λ_ _=>rfl)) ag)))))
   (av (dX (fV Az BC BD dq (pv 1) (ae (bo (OA K rfl) (by rfl) T.abv Xh (ae (pv 5) ag)) ag)))))))))
  (av (aL (pv 1))))),?_⟩
  have big:(10000:Nat)<=sizeLine:=by decide
  have lp:ps.length=n:=by rw[Ag tp,AA,hm.len]
  let f:Nat->Nat:=λx=>(mv.getD x []).getD 0 0
  have hf:∀x,x<n->f x<n:=λx hx=>hm.at hx hb
  have look:∀{H':Hp} (x:Nat),Same H H'->x<n->bF K H' M (ps.map V.ref)/\mK (ps.map V.ref) (x:Int)=some (.ref (ps.getD x 0))/\bF K H' (ps.getD x 0) ((aC (mv.getD x [])).map V.int)/\mK ((aC (mv.getD x [])).map V.int) 0=some (.int (f x:Nat)):=λx s hx=>by
   obtain⟨h1,h2,h3⟩:=hm.row tp hx
   exact⟨.of (s _ _ eM),ak (by rw[AU,h1];rfl),.of (s _ _ h2),ak (j:=0) (eJ (by omega))⟩
  refine aU λY hY=>?_
  refine⟨by decide,λD hD=>?_⟩
  dsimp only[aD]
  subst hY
  refine aU λY hY=>?_
  have sD:=Same.new (o:=.lst []) hD
  have nMD:M≠D:=aA eM hD
  refine⟨_,rfl,_,n,rfl,.inr ⟨_,.of (sD _ _ eM),by rw[AA,lp]⟩,_,rfl,by omega,by omega,mR (n:=(n:Int).toNat) (λi σ H'=>∃(rs:List Nat) (v2 v3 v4 v5:Option V),σ=[some (.ref M),some (.ref D),v2,v3,v4,v5]/\Same H H'/\H' D=some (.lst ((aC rs).map V.int))/\rs.length=i/\(∀r∈rs,r<n)/\∀j,j<i->qe f n j (rs.getD j 0))
   ⟨[],none,none,none,none,rfl,sD,af,rfl,λr hr=>(by cases hr),λj hj=>absurd hj (Nat.not_lt_zero _)⟩ ?_ ?_⟩
  ·rintro i σ H1 N hN hi ⟨rs,v2,v3,v4,v5,rfl,s1,d1,lr,hrs,hra⟩
   rw[Au] at hi
   have ei:(0:Int)+(i:Int)=((cm f 0 i:Nat):Int):=by show _=(i:Int);omega
   dsimp only[aD]
   refine aU λY2 tG=>?_
   refine⟨_,rfl,?_⟩
   dsimp only[aD]
   subst tG
   refine aU λY2 tG=>?_
   refine⟨_,rfl,M,rfl,⟨_,.of (s1 _ _ eM)⟩,Iv (xs:=ps.map V.ref) (λj σ H'=>∃v4:Option V,σ=[some (.ref M),some (.ref D),some (.int (0+(i:Int))),some (.int (cm f j i:Nat)),v4,v5]/\H'=H1)
    ⟨v4,?st,rfl⟩ (by rintro j σ H' _ ⟨_,_,e⟩;rw[e];exact .of (s1 _ _ eM)) ?_ ?_⟩
   case st=>rw[<-ei];rfl
   ·rintro j x σ H2 N2 Yg hx ⟨v4,rfl,rfl⟩
    obtain⟨l1,l2,l3,l4⟩:=look (cm f j i) s1 (tF hf j i hi)
    exact⟨_,rfl,_,rfl,M,_,_,_,rfl,rfl,l1,l2,_,_,_,_,rfl,rfl,l3,l4,Yg _ _ ⟨some x,rfl,rfl⟩⟩
   rintro σ H2 ⟨v4,rfl,rfl⟩
   rw[AA,lp]
   have hat:=tF hf n i hi
   obtain⟨p,hp0,hpn,hp⟩:=ring hf hi
   generalize aeO:cm f n i=at_ at hat hp ⊢
   subst tG
   dsimp only
   refine aU λY2 tG=>?_
   refine⟨_,rfl,by show 1<=sizeLine;decide,λR hR=>?_⟩
   have sR:=Same.new (o:=.lst [.int (at_:Nat)]) hR
   have nRD:D≠R:=aA d1 hR
   have nR0:H R=none:=s1.free hR
   dsimp only[aD]
   subst tG
   refine aU λY2 tG=>?_
   refine xg (λm σ H'=>∃(ks:List Nat) (j:Nat),m=p-j/\j<p/\σ=[some (.ref M),some (.ref D),some (.int (0+(i:Int))),some (.int (at_:Nat)),v4,some (.ref R)]/\Same H H'/\H' D=some (.lst ((aC rs).map V.int))/\H' R=some (.lst ((aC (ks++[cm f j at_])).map V.int))/\ks.length=j/\(∀x∈ks,x<n)/\ks=(A9 j).map λk=>cm f k at_)
    ⟨_,[],0,rfl,hp0,rfl,s1.trans sR,by rw[aB nRD];exact d1,af,rfl,λx hx=>(by cases hx),rfl⟩ ?_ ?_
   ·rintro m σ H2 N3 hN3 ⟨ks,j,rfl,hj,rfl,s2,d2,r2,lk,hks,ek⟩
    have hc:=tF hf j at_ hat
    have stp:cm f (j+1) at_=f (cm f j at_):=rfl
    obtain⟨l1,l2,l3,l4⟩:=look (cm f j at_) s2 hc
    have lst:∀c:Nat,(aC (ks++[c])).map V.int=(aC ks).map V.int++[.int (c:Nat)]:=λc=>by rw[eO,AI];rfl
    have la:mK ((aC (ks++[cm f j at_])).map V.int) (-1)=some (.int (cm f j at_:Nat)):=by rw[lst];exact Q5 _ _
    have len:((aC (ks++[cm f j at_])).map V.int).length<sizeLine:=by rw[AA,cj,AK,lk];show j+1<_;omega
    generalize hcj:cm f j at_=c at*
    refine⟨_,rfl,_,rfl,_,rfl,R,_,_,_,rfl,rfl,.of r2,la,M,_,_,_,rfl,rfl,l1,l2,_,_,_,_,rfl,rfl,l3,l4,_,rfl,rfl,_,rfl,?_⟩
    refine bJ (λz=>?_) (λzz=>?_)
    ·have ne:f c≠at_:=λy=>by rw[y] at z;simp at z
     have lt:j+1<p:=by
      rcases Nat.lt_or_ge (j+1) p with y | y
      ·exact y
      ·have e:p=j+1:=by omega
       rw[e,stp] at hp
       exact absurd hp ne
     refine⟨_,rfl,.inl ⟨rfl,_,.of r2⟩,_,rfl,_,rfl,_,rfl,R,_,_,_,rfl,rfl,.of r2,la,M,_,_,_,rfl,rfl,l1,l2,_,_,_,_,rfl,rfl,l3,l4,R,_,_,rfl,rfl,r2,len,hN3 _ _ (p-(j+1)) (by omega) ⟨ks++[c],j+1,rfl,lt,rfl,s2.kbn nR0 KB.write,by rw[aB nRD];exact d2,?_,by rw[AK,lk];rfl,λx hx=>?_,by rw[DG,AI,ek];exact congrArg (λq=>(A9 j).map (λk=>cm f k at_)++[q]) hcj.symm⟩⟩
     ·rw[af,stp,eO (ks++[c]),AI];rfl
     ·rcases Ac.mp hx with y | y
      ·exact hks x y
      ·rw[AW.mp y];exact hc
    ·subst tG
     dsimp only
     refine⟨_,rfl,.inl ⟨rfl,_,.of d2⟩,_,rfl,R,_,rfl,.of r2,?nn,λm hmm hle=>?_⟩
     case nn=>intro z;have:=congrArg Ed z;rw[cj,AK] at this;cases this
     obtain⟨x,hx,rfl⟩:=AZ.mp hmm
     have hxn:x<n:=by
      rcases Ac.mp hx with y | y
      ·exact hks x y
      ·rw[AW.mp y];exact hc
     refine⟨D,_,_,rfl,rfl,d2,?_,hN _ _ ⟨rs++[x],_,_,_,_,rfl,s2.kbn hD KB.write,?_,by rw[AK,lr];rfl,λr hr=>?_,λq hq=>?_⟩⟩
     ·rw[AA,cj];omega
     ·rw[af,eO,AI];rfl
     ·rcases Ac.mp hr with y | y
      ·exact hrs r y
      ·rw[AW.mp y];exact hxn
     ·by_cases hqi:q<i
      ·rw[BA,Ax (by omega),<-BA];exact hra q hqi
      ·have eqi:q=i:=by omega
       subst eqi
       rw[BA,Aq (by omega),show q-rs.length=0 by omega]
       have fc:f c=at_:=Classical.byContradiction λy=>zz (by rw[Bool.not_eq_true',decide_eq_false_iff_not];intro w;injection w with w;exact y (by omega))
       have all:∀k,cm f k at_∈ks++[c]:=λk=>by
        have eL:ks++[c]=(A9 (j+1)).map λk=>cm f k at_:=by rw[DG,AI,ek];exact congrArg (λq=>(A9 j).map (λk=>cm f k at_)++[q]) hcj.symm
        rw[eL]
        induction k with
        | zero=>exact AZ.mpr ⟨0,Bv.mpr (by omega),rfl⟩
        | succ k ih=>
         obtain⟨q,hq,e⟩:=AZ.mp ih
         have hq:=Bv.mp hq
         show f (cm f k at_)∈_
         rw[<-e]
         by_cases hqj:q<j
         ·exact AZ.mpr ⟨q+1,Bv.mpr (by omega),rfl⟩
         ·have:q=j:=by omega
          subst this
          rw[show f (cm f q at_)=at_ by rw[hcj];exact fc]
          exact AZ.mpr ⟨0,Bv.mpr (by omega),rfl⟩
       have ex:∃k,x=cm f k at_:=by
        rcases Ac.mp hx with y | y
        ·rw[ek] at y
         obtain⟨k,_,e⟩:=AZ.mp y
         exact⟨k,e.symm⟩
        ·rw[AW.mp y];exact⟨j,hcj.symm⟩
       have le:∀k,x<=cm f k at_:=λk=>by
        have:=hle _ (AZ.mpr ⟨_,all k,rfl⟩)
        omega
       unfold qe
       rw[aeO]
       exact⟨ex,le⟩
   ·rintro σ H Q Q' hQ ⟨v1,e1,v2,e2,v3,e3,a1,x1,i1,w1,e4,e5,h6,h7,a2,x2,i2,w2,e8,e9,h10,h11,a3,x3,i3,w3,Ym,e13,h14,h15,v4,e16,e17,b,e18,q⟩
    exact⟨v1,e1,v2,e2,v3,e3,a1,x1,i1,w1,e4,e5,h6,h7,a2,x2,i2,w2,e8,e9,h10,h11,a3,x3,i3,w3,Ym,e13,h14,h15,v4,e16,e17,b,e18,hQ _ _ q⟩
  ·rintro σ H1 ⟨rs,v2,v3,v4,v5,rfl,s1,d1,lr,hrs,hra⟩
   rw[Au] at lr hra
   subst hY
   exact⟨_,rfl,k D rs H1 hD s1 d1 lr hrs λr hr=>(hra r hr).next hf hr (hra _ (hf r hr))⟩
theorem bK.ktu{H H':Hp}{F L:Addr}(h:bK H F L)(k:cy F L H H'):bj H H':=λb ys e=>by
 obtain⟨ms,n,sd,e1,e2,_⟩:=h.ex
 exact k b _ e (fE e e1 (λz=>nomatch z)) (fE e e2 (λz=>nomatch z))
inductive Y9 (vs:List V)(H:Hp)(Q:VK)(aJ:XK):Prop where
 | mk (F L:Addr) (b:Nat) (cG:vs=[.ref F,.int b]) (cD:bK H F L) (cE:2<=b) (dc:b<=4) (dZ:∀(ra:Addr) (sg:List Nat) (mv:List (List Nat)) (n:Nat) (H':Hp),cy F L H H'->bK H' F L->og H' ra sg mv->sg.length=n->0<n->n<=27->Moves n b mv->(∀x∈sg,x<=9)->(∀r,r<n->sg.getD (stp mv r 0) 0=sg.getD r 0)->Q (.ref ra) H')
def aby:Sp:=λvs H Q aJ=>Y9 vs H Q aJ
theorem qT:aP ["_law_feed_here","_law_base","_law_many","_law_moves","_law_signs"] ["_law_feed_here","_law_base"] (ah iT):=⟨rfl,rfl,rfl,by decide+kernel,rfl,by decide+kernel,by decide+kernel⟩
set_option maxHeartbeats 16000000 in
theorem SD{a:bh}(T:Txt K mg a):aO P w K mg base aW 2 a.tT a.uM ["_law_feed_here","_law_base"] aby:=by
 have bb:=iG (P:=P) (w:=w) (base:=base) T
 have Qj:=K2 (P:=P) (w:=w) (base:=base) T
 refine T.VY.ok qT (λvs H Q E h=>?_) (λcdv A outer s H vs Q E hr h=>?_)
 ·obtain⟨F,L,b,rfl,_⟩:=h
  rfl
 ·obtain⟨F,L,b,rfl,hf,hb2,hb4,k⟩:=h
  have aS:aK 1 _:=hr
  have Ng:aK 1 _:=hr
  refine⟨_,(aj (aw (i:=2) qT.nd rfl (CT rfl) (aI de ai (aq bb aS rfl T.bB T.bC T.bD .nil az (ae (pv 0) (ae ai ag)))))
  (aj (aw (i:=3) qT.nd rfl (Ab rfl) (bw (cz K) (by rfl) T.eQ dI (ae (bU (aN.mk' (esc:=ah iT) (N:=["_law_feed_here","_law_base","_law_many","_law_moves","_law_signs"]) (own:=["_law_room"]) (aR:=["_law_feed_here","_law_many","_law_base"]) (bS:=[0,2,1]) rfl rfl (by decide+kernel)) rfl (dm rfl T.eP (ae (pv 2) ag)) (λ_ _ _ _=>(aF (i:=0) (show A4 (["_law_room","_law_feed_here","_law_many","_law_base"]:List Str) by decide+kernel) rfl (Ab rfl))) (λ_ _ _ _=>bz) (λ_ _ _ _=>(bw (cz K) (by rfl) T.eQ dI (ae (bU (aN.mk' (esc:=_) (N:=["_law_room","_law_feed_here","_law_many","_law_base"]) (own:=["_law_figure"]) (aR:=["_law_feed_here","_law_many"]) (bS:=[1,2]) rfl rfl (by rfl)) rfl (dm rfl T.eP (ae (pv 3) ag)) (λ_ _ _ _=>(aF (i:=0) (show A4 (["_law_figure","_law_feed_here","_law_many"]:List Str) by decide+kernel) rfl (Ab rfl))) (λ_ _ _ _=>bz) (λ_ _ _ _=>(aq bb aS rfl T.bB T.bC T.bD .nil az (ae (pv 1) (ae (pv 2) ag))))) ag)))) ag)))
  (aj (aw (i:=4) qT.nd rfl (CT rfl) (bU (aN.mk' (esc:=ah iT) (N:=["_law_feed_here","_law_base","_law_many","_law_moves","_law_signs"]) (own:=["_law_room"]) (aR:=["_law_feed_here"]) (bS:=[0]) rfl rfl (by decide+kernel)) rfl (dF (pv 3)) (λ_ _ _ _=>(aF (i:=0) (show A4 (["_law_room","_law_feed_here"]:List Str) by decide+kernel) rfl (Ab rfl))) (λ_ _ _ _=>bz) (λ_ _ _ _=>(aq bb aS rfl T.bB T.bC T.bD .nil az (ae (pv 1) (ae (au (cS K) (df (ae ai (ae ai ag))) (aq bb aS rfl T.bB T.bC T.bD .nil az (ae (pv 1) (ae ai ag))) (λ_ _=>rfl)) ag))))))
  (av (aL (bq (ae (bw (cz K) (by rfl) T.eQ dI (ae (bU (aN.mk' (esc:=ah iT) (N:=["_law_feed_here","_law_base","_law_many","_law_moves","_law_signs"]) (own:=["_law_room"]) (aR:=["_law_signs"]) (bS:=[4]) rfl rfl (by decide+kernel)) rfl (dH (aq Qj Ng rfl T.O8 T.O9 T.O' .nil az (ae (pv 3) ag))) (λ_ _ _ _=>(aF (i:=0) (show A4 (["_law_room","_law_signs"]:List Str) by decide+kernel) rfl (Ab rfl))) (λ_ _ _ _=>bz) (λ_ _ _ _=>(au (cS K) (pv 1) (pv 0) (λ_ _=>rfl)))) ag)) (ae (pv 3) ag)))))))),?_⟩
  have wz:(2 ^ 10:Nat)<2 ^ 1000:=Cw (by decide) (by decide)
  have big:(10000:Nat)<=sizeLine:=by decide
  have small:∀x:Nat,x<=1000->x<2 ^ 1000:=λx hx=>CL (show x<2 ^ 10 by omega) wz
  refine aU λY hY=>?_
  refine⟨_,rfl,F,L,8,rfl,hf,by decide,small _ (by decide),λr H1 r1 k1 f1=>⟨_,_,rfl,rfl,?_⟩⟩
  have en:(1:Int)+(r:Int)=((1+r:Nat):Int):=by omega
  dsimp only[aD]
  subst hY
  rw[en]
  generalize hN:1+r=n
  have n0:0<n:=by omega
  have n1:n<=27:=by omega
  refine aU λY hY=>?_
  refine⟨_,rfl,_,rfl,by omega,by omega,λM hM=>?_⟩
  have nM:=f1.jJ hM
  refine jV (λi σ H'=>∃(ps:List Addr) (mv:List (List Nat)) (v8:Option V),σ=[v8,some (.ref F),some (.int (n:Nat)),some (.int (b:Nat))]/\cy F L H1 H'/\bK H' F L/\H' M=some (.lst (ps.map V.ref))/\fP H' ps (mv.map aC)/\mv.length=i/\∀l∈mv,l.length=b/\∀x∈l,x<n)
   ⟨[],[],none,?sg0,(Same.new hM).kb2,f1.same (Same.new hM),af,.nil,rfl,λl hl=>(by cases hl)⟩ ?_ ?_
  case sg0=>rfl
  ·rintro i σ H2 hi ⟨ps,mv,v8,rfl,k2,f2,m2,Qk,lm,ok⟩
   rw[Au] at hi
   refine⟨_,rfl,_,rfl,by omega,by omega,λC hC=>?_⟩
   have nC:=f2.jJ hC
   have nMC:M≠C:=aA m2 hC
   refine jV (λj σ H'=>∃(rs:List Nat) (v:Option V),σ=[v,some (.ref F),some (.int (n:Nat))]/\cy F L H2 H'/\bK H' F L/\H' C=some (.lst ((aC rs).map V.int))/\rs.length=j/\∀r∈rs,r<n)
    ⟨[],none,?sg,(Same.new hC).kb2,f2.same (Same.new hC),af,rfl,λr hr=>(by cases hr)⟩ ?_ ?_
   case sg=>rfl
   ·rintro j σ H3 hj ⟨rs,v,rfl,k3,f3,c3,lr,hrs⟩
    rw[Au] at hj
    refine⟨_,rfl,_,rfl,F,L,n,rfl,f3,n0,small _ (by omega),λq H4 q1 k4 f4=>?_⟩
    refine⟨_,k4 _ _ c3 nC.1 nC.2,?_,rs++[q],_,rfl,cy.qO (k3.trans k4) hC,f4.upd nC,?_,by rw[AK,lr];rfl,λx hx=>?_⟩
    ·rw[AA,cj];omega
    ·rw[af,eO,AI];rfl
    ·rcases Ac.mp hx with z | z
     ·exact hrs x z
     ·rw[AW.mp z];exact q1
   rintro σ H3 ⟨rs,v,rfl,k3,f3,c3,lr,hrs⟩
   rw[Au] at lr
   have m3:=k3 _ _ m2 nM.1 nM.2
   refine⟨C,_,rfl,.inl ⟨.of c3,λD hD=>?_⟩⟩
   have sD:=Same.new (o:=.tup ((aC rs).map V.int)) hD
   have m4:=sD _ _ m3
   have tp4:fP (upd H3 D (.tup ((aC rs).map V.int))) ps (mv.map aC):=(Qk.keep (f2.ktu k3)).keep sD.kt
   have lps:ps.length=i:=by rw[Ag Qk,AA,lm]
   have ktM:bj (upd H3 D (.tup ((aC rs).map V.int))) (upd (upd H3 D (.tup ((aC rs).map V.int))) M (.lst (ps.map V.ref++[.ref D]))):=bj.lst m4
   refine⟨_,m4,?_,ps++[D],mv++[rs],_,rfl,?_,?_,?_,?_,by rw[AK,lm];rfl,λl hl=>?_⟩
   ·rw[AA,lps];omega
   ·exact cy.qO ((k2.trans k3).trans sD.kb2) hM
   ·exact(f3.same sD).upd nM
   ·rw[af,AI];rfl
   ·rw[AI]
    exact bO (tp4.keep ktM) (.cons (ktM _ _ af) .nil)
   ·rcases Ac.mp hl with z | z
    ·exact ok l z
    ·rw[AW.mp z];exact⟨lr,hrs⟩
  rintro σ H2 ⟨ps,mv,v8,rfl,k2,f2,m2,Qk,lm,ok⟩
  rw[Au] at lm
  have b_:Moves n b mv:=⟨lm,ok⟩
  have lps:ps.length=n:=by rw[Ag Qk,AA,lm]
  refine⟨M,_,rfl,.inl ⟨.of m2,λMt hMt=>?_⟩⟩
  have Y':=Same.new (o:=.tup (ps.map V.ref)) hMt
  have UA:(upd H2 Mt (.tup (ps.map V.ref))) Mt=some (.tup (ps.map V.ref)):=af
  have k2':=k2.trans Y'.kb2
  have LZ:=f2.same Y'
  have Za:=Qk.keep Y'.kt
  generalize upd H2 Mt (.tup (ps.map V.ref))=H2' at UA k2' LZ Za ⊢
  dsimp only[aD]
  subst hY
  refine aU λW hW=>?_
  refine⟨_,rfl,Mt,rfl,⟨_,.of UA⟩,λY hY=>?_⟩
  have nY:=LZ.jJ hY
  refine cR (xs:=ps.map V.ref) (λj σ H'=>∃(bs:List Nat) (v:Option V),σ=[v,some (.ref F)]/\cy F L H2' H'/\bK H' F L/\H' Y=some (.lst ((aC bs).map V.int))/\bs.length=j/\∀x∈bs,x<=9)
   ⟨[],none,?sg1,(Same.new hY).kb2,LZ.same (Same.new hY),af,rfl,λx hx=>(by cases hx)⟩ (by rintro j σ H' _ ⟨_,_,_,k',_⟩;exact .of (LZ.ktu k' _ _ UA)) ?_ ?_
  case sg1=>rfl
  ·rintro j x σ H3 hx ⟨bs,v,rfl,k3,f3,y3,lb,hb9⟩
   have hj:j<ps.length:=by have:=(AF.mp hx).1;rwa [AA] at this
   refine⟨_,rfl,by show 2<=sizeLine;decide,λZ hZ=>?_⟩
   have sZ:=Same.new (o:=.lst [.int 2,.int 10]) hZ
   have nZ:=f3.jJ hZ
   refine⟨_,rfl,F,L,2,rfl,f3.same sZ,by decide,small _ (by decide),λr2 H4 q2 k4 f4=>?_⟩
   obtain⟨d,hd,hd0,hd9⟩:∃d:Nat,mK ([.int 2,.int 10]:List V) (r2:Int)=some (.int (d:Nat))/\0<d/\d<=10:=by
    match r2,q2 with
    | 0,_=>exact⟨2,rfl,by decide,by decide⟩
    | 1,_=>exact⟨10,rfl,by decide,by decide⟩
   refine⟨Z,_,_,.int (d:Nat),rfl,rfl,.of (k4 _ _ af nZ.1 nZ.2),hd,F,L,d,rfl,f4,hd0,small _ (by omega),λq H5 q1 k5 f5=>?_⟩
   have k35:=(sZ.kb2.trans k4).trans k5
   refine⟨_,k35 _ _ y3 nY.1 nY.2,?_,bs++[q],_,rfl,cy.qO (k3.trans k35) hY,f5.upd nY,?_,by rw[AK,lb];rfl,λz hz=>?_⟩
   ·rw[AA,cj];omega
   ·rw[af,eO,AI];rfl
   ·rcases Ac.mp hz with y | y
    ·exact hb9 z y
    ·rw[AW.mp y];omega
  rintro σ H3 ⟨bs,v,rfl,k3,f3,y3,lb,hb9⟩
  rw[AA,lps] at lb
  have eM3:=LZ.ktu k3 _ _ UA
  have PD:=Za.keep (LZ.ktu k3)
  have kk:=(k1.trans k2').trans k3
  dsimp only[aD]
  subst hW
  refine⟨_,rfl,Mt,ps,n,b,mv,rfl,eM3,PD,b_,by omega,by omega,λR rs H4 hR s4 r4 lr hrs hst=>?_⟩
  have y4:=s4 _ _ y3
  refine⟨R,rfl,⟨_,.of r4⟩,λC hC=>?_⟩
  refine gA (xs:=(aC rs).map V.int) (λj σ H'=>∃(cs:List Nat) (v:Option V),σ=[v,some (.ref Y)]/\Same H4 H'/\H' C=some (.lst ((aC cs).map V.int))/\cs.length=j/\cs=(rs.take j).map λr=>bs.getD r 0)
   ⟨[],none,?sg2,Same.new hC,af,rfl,rfl⟩ (by rintro j σ H' _ ⟨_,_,_,s',_⟩;exact .of (s' _ _ r4)) ?_ ?_
  case sg2=>rfl
  ·rintro j x σ H5 hx ⟨cs,v,rfl,s5,c5,lc,Ql⟩
   obtain⟨q,rfl,eq⟩:=tU hx
   have hq:=hrs q (AG eq)
   have hj:j<rs.length:=(AF.mp eq).1
   refine⟨_,rfl,_,rfl,Y,_,_,.int (bs.getD q 0:Nat),rfl,rfl,.of (s5 _ _ y4),ak (eJ (by omega)),_,c5,?_,cs++[bs.getD q 0],_,rfl,s5.kbn hC KB.write,?_,by rw[AK,lc];rfl,?_⟩
   ·rw[AA,cj];omega
   ·rw[af,eO,AI];rfl
   ·rw[take_snoc eq,AI,<-Ql];rfl
  rintro σ H5 ⟨cs,v,rfl,s5,c5,lc,Ql⟩
  rw[AA,cj,lr] at lc
  rw[AA,cj,Ap] at Ql
  have csd:∀r,r<n->cs.getD r 0=bs.getD (rs.getD r 0) 0:=λr hr=>by
   rw[Ql,BA,AU,item_at 0 (by omega:r<rs.length)];rfl
  refine⟨C,_,rfl,.inl ⟨.of c5,λD hD=>?_⟩⟩
  have sD:=Same.new (o:=.tup ((aC cs).map V.int)) hD
  have s35:=(s4.trans s5).trans sD
  refine⟨_,rfl,by show 2<=sizeLine;decide,λra hra=>?_⟩
  have sra:=Same.new (o:=.tup [.ref D,.ref Mt]) hra
  have gU:=s35.trans sra
  refine k ra cs mv n _ (kk.trans gU.kb2) (f3.same gU) ⟨D,Mt,ps,af,sra _ _ af,gU _ _ eM3,PD.keep gU.kt⟩ lc n0 n1 b_ (λx hx=>?_) (λr hr=>by rw[csd _ (b_.stp hr (by omega)),csd _ hr,hst r hr])
  rw[Ql] at hx
  obtain⟨r,hr',rfl⟩:=AZ.mp hx
  have:=hrs r hr'
  exact hb9 _ (AG (item_at 0 (show r<bs.length by omega)))
theorem Qm{b i:Nat}(hb:2<=b){ns:List Nat}(h:∀n∈ns,n / b ^ i=0):i5 b ns<=i:=by
 by_cases e:ns=[]
 ·subst e;exact A6 _
 ·obtain⟨n,hn,en⟩:=LI (b:=b) e
  rw[<-en]
  rcases Nat.lt_or_ge i (di b n).length with z | z
  ·have:=(vX hb i n).mp z
   have:=h n hn
   omega
  ·exact z
theorem L_{b i:Nat}(hb:2<=b){ns:List Nat}(h:i5 b ns<=i):∀n∈ns,n / b ^ i=0:=λn hn=>by
 have h1:=Ju (b:=b) hn
 rcases FI (n / b ^ i) with z | z
 ·exact z
 ·have:=(vX hb i n).mpr z
  omega
theorem qf(ds:List Int):dot [] ds=0:=by cases ds<;>rfl
theorem xA:∀(xs ys ds:List Int),xs.length=ys.length->dot (EN (· + ·) xs ys) ds=dot xs ds+dot ys ds
 | [],[],ds,_=>by rw[List.zipWith_nil_left,qf];rfl
 | [],_::_,_,h=>by cases h
 | _::_,[],_,h=>by cases h
 | x::xs,y::ys,[],_=>rfl
 | x::xs,y::ys,d::ds,h=>by
  rw[GP]
  show(x+y)*d+dot (EN (· + ·) xs ys) ds=x*d+dot xs ds+(y*d+dot ys ds)
  rw[xA xs ys ds (DV h),Int.add_mul]
  omega
theorem ox(c:Int):∀(xs ds:List Int),dot (xs.map (c* ·)) ds=c*dot xs ds
 | [],ds=>by rw[CW,qf,EO]
 | x::xs,[]=>by rw[Aj];show(0:Int)=c*0;rw[EO]
 | x::xs,d::ds=>by
  rw[Aj]
  show c*x*d+dot (xs.map (c* ·)) ds=c*(x*d+dot xs ds)
  rw[ox c xs ds,Hs,Fl]
def part(b:Nat)(ns:List Nat)(ds:List Int)(k:Nat):Int:=dot (aC (ns.map (· % b ^ k))) ds
def lK(b:Nat)(ns:List Nat)(ds:List Int)(k:Nat):Int:=dot (aC (ns.map λn=>n / b ^ k % b)) ds
theorem yL(b:Nat)(ns:List Nat)(ds:List Int):part b ns ds 0=0:=by
 unfold part
 have e:aC (ns.map (· % b ^ 0))=(aC ns).map ((0:Int)* ·):=by
  unfold aC
  rw[BL,BL]
  refine BI λn _=>?_
  show((n % b ^ 0:Nat):Int)=0*(n:Int)
  rw[EJ,Nat.mod_one];omega
 rw[e,ox,Int.zero_mul]
theorem yM(b:Nat)(ns:List Nat)(ds:List Int)(k:Nat):part b ns ds (k+1)=part b ns ds k+((b ^ k:Nat):Int)*lK b ns ds k:=by
 unfold part lK
 rw[<-ox,<-xA _ _ _ (by unfold aC;simp)]
 congr 1
 unfold aC
 rw[BL,BL,BL,BL,List.zipWith_map,List.zipWith_self]
 refine BI λn _=>?_
 show((n % b ^ (k+1):Nat):Int)=((n % b ^ k:Nat):Int)+((b ^ k:Nat):Int)*((n / b ^ k % b:Nat):Int)
 rw[Bi,Nat.mod_mul,Cq,CA]
theorem SE{b k:Nat}(hb:0<b){ns:List Nat}(h:∀n∈ns,n / b ^ k=0)(ds:List Int):part b ns ds k=dot (aC ns) ds:=by
 unfold part
 congr 2
 refine(BI λn hn=>?_).trans (Ee _)
 refine F' ?_
 rcases(Nat.div_eq_zero_iff).mp (h n hn) with z | z
 ·exact absurd z (CH (FY hb))
 ·exact z
theorem vd{b:Nat}(hb:0<b){ns:List Nat}{ds:List Int}(hl:ns.length=ds.length)(k:Nat):(aE b ds).getD (i4 b ns k) 0=lK b ns ds k:=by
 unfold aE lK
 rw[BA,AU,<-hl,LH hb ns.length _ (vY hb ns k),Yc hb]
 rfl
theorem Qn(x d:Int){m b:Int}(hm:0<m)(hb:0<b):(x / m-d) / b=(x-m*d) / (m*b):=by
 have e:x / m-d=(x-m*d) / m:=by
  rw[show x-m*d=x+m*(-d) by rw[Int.mul_neg];rfl,Int.add_mul_ediv_left _ _ (by omega)]
  omega
 rw[e,Int.ediv_ediv_of_nonneg (by omega)]
def yN(b:Nat)(ns:List Nat)(k:Nat):List Nat:=(A9 k).map (i4 b ns)
theorem ve(b:Nat)(ns:List Nat)(k:Nat):yN b ns (k+1)=yN b ns k++[i4 b ns k]:=by unfold yN;rw[DG,AI];rfl
theorem Kc{b:Nat}(hb:0<b){ns:List Nat}{ds:List Int}(hl:ns.length=ds.length)(f:Int):∀k,dh (rK true b (aE b ds)) (some f) (yN b ns k)=some ((f-part b ns ds k) / ((b ^ k:Nat):Int))
 | 0=>by
  show some f=_
  rw[yL,EJ]
  show some f=some ((f-0) / 1)
  rw[Int.ediv_one];congr 1;omega
 | k+1=>by
  have hm:(0:Int)<((b ^ k:Nat):Int):=by have:=FY (n:=k) hb;omega
  rw[ve,nT,Kc hb hl f k]
  show rK true b (aE b ds) (some ((f-part b ns ds k) / ((b ^ k:Nat):Int))) (i4 b ns k)=_
  show some (((f-part b ns ds k) / ((b ^ k:Nat):Int)-(aE b ds).getD (i4 b ns k) 0) / (b:Int))=_
  rw[vd hb hl,Qn _ _ hm (by omega),yM,Bi,CA]
  congr 2
  omega
theorem Kd{b:Nat}(hb:0<b){ns:List Nat}{ds:List Int}(hl:ns.length=ds.length)(f:Int):∀k,(∃r,dh (rK false b (aE b ds)) (some f) (yN b ns k)=some r/\f-part b ns ds k=((b ^ k:Nat):Int)*r)∨(dh (rK false b (aE b ds)) (some f) (yN b ns k)=none/\¬((b ^ k:Nat):Int) ∣ f-part b ns ds k)
 | 0=>.inl ⟨f,rfl,by rw[yL,EJ];show f-0=1*f;omega⟩
 | k+1=>by
  have hm:(0:Int)<((b ^ k:Nat):Int):=by have:=FY (n:=k) hb;omega
  have e1:f-part b ns ds (k+1)=f-part b ns ds k-((b ^ k:Nat):Int)*lK b ns ds k:=by rw[yM];omega
  have ep:((b ^ (k+1):Nat):Int)=((b ^ k:Nat):Int)*(b:Int):=by rw[Bi,CA]
  rw[ve,nT]
  rcases Kd hb hl f k with⟨r,h1,h2⟩ | ⟨h1,h2⟩
  ·rw[h1]
   have st:dh (rK false b (aE b ds)) (some r) [i4 b ns k]=if(r-lK b ns ds k) % (b:Int)=0 then some ((r-lK b ns ds k) / (b:Int)) else none:=by
    show(if(r-(aE b ds).getD (i4 b ns k) 0) % (b:Int)=0 then some ((r-(aE b ds).getD (i4 b ns k) 0) / (b:Int)) else none)=_
    rw[vd hb hl]
   rw[st,e1,h2,<-Int.mul_sub,ep]
   by_cases z:(r-lK b ns ds k) % (b:Int)=0
   ·rw[if_pos z]
    refine .inl ⟨_,rfl,?_⟩
    rw[Fl,Int.mul_ediv_cancel' (Int.dvd_of_emod_eq_zero z)]
   ·rw[if_neg z]
    refine .inr ⟨rfl,λh=>z ?_⟩
    exact Int.emod_eq_zero_of_dvd (Int.dvd_of_mul_dvd_mul_left (by omega) h)
  ·rw[h1]
   refine .inr ⟨rfl,λh=>h2 ?_⟩
   rw[e1,ep] at h
   have h3:((b ^ k:Nat):Int) ∣ f-part b ns ds k-((b ^ k:Nat):Int)*lK b ns ds k:=Int.dvd_trans (Int.dvd_mul_right _ _) h
   have:=Int.dvd_add h3 (Int.dvd_mul_right ((b ^ k:Nat):Int) (lK b ns ds k))
   rwa [Int.sub_add_cancel] at this
def UB(ls:Bool)(f:Int)(ns:List Nat)(ds:List Int):Bool:=if ls then decide (0<=f-dot (aC ns) ds) else decide (f-dot (aC ns) ds=0)
theorem mean{b:Nat}(hb:2<=b){ns:List Nat}{ds:List Int}(hl:ns.length=ds.length)(ls:Bool)(f:Int):xu ls (dh (rK ls b (aE b ds)) (some f) (sO b ns))=UB ls f ns ds:=by
 have hb0:0<b:=by omega
 have hm:(0:Int)<((b ^ i5 b ns:Nat):Int):=by have:=FY (n:=i5 b ns) hb0;omega
 have pa:=SE hb0 (L_ hb (AM (i5 b ns))) ds
 have ew:sO b ns=yN b ns (i5 b ns):=rfl
 rw[ew]
 cases ls with
 | true=>
  rw[Kc hb0 hl,pa]
  show decide (0<=_ / _)=decide (0<=_)
  rw[decide_eq_decide]
  exact Int.ediv_nonneg_iff_of_pos hm
 | false=>
  rcases Kd hb0 hl f (i5 b ns) with⟨r,h1,h2⟩ | ⟨h1,h2⟩
  ·rw[pa] at h2
   rw[h1]
   show decide ((some r:Option Int)=some 0)=decide (f-dot (aC ns) ds=0)
   rw[decide_eq_decide,h2]
   constructor
   ·intro e;rw[AS e,EO]
   ·intro e
    rcases Int.mul_eq_zero.mp e with z | z
    ·omega
    ·rw[z]
  ·rw[pa] at h2
   rw[h1]
   show decide ((none:Option Int)=some 0)=decide (f-dot (aC ns) ds=0)
   rw[decide_eq_decide]
   constructor
   ·intro e;cases e
   ·intro e;rw[e] at h2;exact absurd (Int.dvd_zero _) h2
def Qo(r:Option Int):Prop:=∀i,r=some i-> -100<=i/\i<=100
theorem Zb{ls:Bool}{b:Nat}(hb:2<=b)(hb4:b<=4){su:List Int}(hs:∀x∈su, -81<=x/\x<=81){r:Option Int}(h:Qo r)(c:Nat):Qo (rK ls b su r c):=by
 have hc: -81<=su.getD c 0/\su.getD c 0<=81:=by
  rw[BA]
  cases e:su[c]? with
  | none=>exact⟨by decide,by decide⟩
  | some x=>exact hs x (AG e)
 cases r with
 | none=>
  intro i e
  cases ls<;>cases e
 | some j=>
  obtain⟨h1,h2⟩:=h j rfl
  have key: -100<=(j-su.getD c 0) / (b:Int)/\(j-su.getD c 0) / (b:Int)<=100:=by
   generalize su.getD c 0=s at hc
   constructor
   ·rw[GJ (by omega)]
    omega
   ·have:(j-s) / (b:Int)<101:=by
     rw[GQ (by omega)]
     omega
    omega
  intro i e
  cases ls with
  | true=>
   have e':(j-su.getD c 0) / (b:Int)=i:=AS e
   rw[<-e'];exact key
  | false=>
   have e':(if(j-su.getD c 0) % (b:Int)=0 then some ((j-su.getD c 0) / (b:Int)) else none)=some i:=e
   by_cases z:(j-su.getD c 0) % (b:Int)=0
   ·rw[if_pos z] at e'
    rw[<-AS e'];exact key
   ·rw[if_neg z] at e'
    cases e'
theorem L0{ls:Bool}{b:Nat}(hb:2<=b)(hb4:b<=4){su:List Int}(hs:∀x∈su, -81<=x/\x<=81):∀(w:List Nat) (r:Option Int),Qo r->Qo (dh (rK ls b su) r w)
 | [],r,h=>h
 | c::w,r,h=>L0 hb hb4 hs w _ (Zb hb hb4 hs h c)
theorem Wl{xs:List (Option Int)}(nd:xs.Nodup)(h:∀x∈xs,Qo x):xs.length<=202:=by
 have:=C7 (l₂:=none::(A9 201).map λ(k:Nat)=>(some ((k:Int)-100):Option Int)) nd λx hx=>by
  cases x with
  | none=>exact AL
  | some i=>
   obtain⟨h1,h2⟩:=h _ hx i rfl
   refine AJ _ (AZ.mpr ⟨(i+100).toNat,Bv.mpr (by omega),?_⟩)
   congr 1
   omega
 rw[A2,AA,B8] at this
 exact this
theorem Qp:∀(l ds:List Int),(∀x∈l,0<=x/\x<=3)->(∀d∈ds, -9<=d/\d<=9)-> -(27*(ds.length:Int))<=dot l ds/\dot l ds<=27*(ds.length:Int)
 | [],ds,_,_=>by rw[qf];omega
 | x::xs,[],_,_=>by show-(27*((0:Nat):Int))<=0/\(0:Int)<=27*((0:Nat):Int);omega
 | x::xs,d::ds,h1,h2=>by
  have ih:=Qp xs ds (λy hy=>h1 y (AJ _ hy)) λy hy=>h2 y (AJ _ hy)
  have hx:=h1 x AL
  have hd:=h2 d AL
  have m: -27<=x*d/\x*d<=27:=by
   have:x=0∨x=1∨x=2∨x=3:=by omega
   rcases this with rfl | rfl | rfl | rfl<;>omega
  show-(27*((ds.length+1:Nat):Int))<=x*d+dot xs ds/\x*d+dot xs ds<=27*((ds.length+1:Nat):Int)
  omega
theorem SF{b:Nat}(hb4:b<=4){ds:List Int}(hd:∀d∈ds, -9<=d/\d<=9)(hl:ds.length<=3):∀x∈aE b ds, -81<=x/\x<=81:=λx hx=>by
 obtain⟨l,hl',rfl⟩:=AZ.mp hx
 have:=Qp l ds (λy hy=>by have:=qb b _ l hl' y hy;omega) hd
 omega
def jM(t:Term):Prop:=0<=t.num/\t.num<=99/\∀q∈t.parts,1<=q.2/\q.2<=9
theorem iL(n:Str):∀(ps:List (Str×Int)) (d:Int),(∀q∈ps,1<=q.2/\q.2<=9)->0<=d->d<=9->0<=bH n ps d/\bH n ps d<=9
 | [],d,_,h1,h2=>⟨h1,h2⟩
 | p::ps,d,h,h1,h2=>by
  have hp:=h p AL
  refine iL n ps _ (λq hq=>h q (AJ _ hq)) ?_ ?_<;>split<;>omega
theorem SG{t u:Term}(ht:jM t)(hu:jM u)(ks:List Str):∀d∈iq t u ks, -9<=d/\d<=9:=λd hd=>by
 obtain⟨n,_,rfl⟩:=AZ.mp hd
 have h1:=iL n t.parts 0 ht.2.2 (by omega) (by omega)
 have h2:=iL n u.parts 0 hu.2.2 (by omega) (by omega)
 show-9<=bH n t.parts 0-bH n u.parts 0/\bH n t.parts 0-bH n u.parts 0<=9
 omega
theorem SH{ls:Bool}{b:Nat}(hb:2<=b)(hb4:b<=4){t u:Term}(ht:jM t)(hu:jM u){ks:List Str}(hk:ks.length<=3){xs:List (Option Int)}(nd:xs.Nodup)(h:∀x∈xs,∃w,fm (b ^ ks.length) w/\x=dh (Ux ls b t u ks) (some (dG ls t u)) w):xs.length<=202:=by
 refine Wl nd λx hx=>?_
 obtain⟨w,_,rfl⟩:=h x hx
 refine L0 hb hb4 (SF hb4 (SG ht hu ks) (by unfold iq;rw[AA];exact hk)) w _ λi e=>?_
 rw[<-AS e]
 unfold dG
 have h1:=ht.1
 have h2:=ht.2.1
 have h3:=hu.1
 have h4:=hu.2.1
 split<;>omega
abbrev iM (H:Hp):List Addr->List (Str×Int)->Prop:=Bl (λ(p:Addr) (q:Str×Int)=>H p=some (.tup [.str q.1,.int q.2]))
theorem iM.keep{H H':Hp}{ps:List Addr}{qs:List (Str×Int)}(h:iM H ps qs)(k:bj H H'):iM H' ps qs:=Paired.rM h λ_ _ z=>k _ _ z
inductive Wm (vs:List V)(H:Hp)(Q:VK)(aJ:XK):Prop where
 | mk (F L nm:Addr) (ss:List Str) (cG:vs=[.ref F,.ref nm]) (cD:bK H F L) (cE:H nm=some (.tup (ss.map V.str))) (dc:ss.length<=3) (dZ:∀(ta:Addr) (t:Term) (H':Hp),cy F L H H'->bK H' F L->bp H' ta t->fq ss t->jM t->(t.parts.map (·.1)).Sublist ss->Q (.ref ta) H')
def Zc:Sp:=λvs H Q aJ=>Wm vs H Q aJ
theorem yO:aP ["_law_feed_here","_law_names_here","_law_parts"] ["_law_feed_here","_law_names_here"] (ah jA):=⟨rfl,rfl,rfl,by decide+kernel,rfl,by decide+kernel,by decide+kernel⟩
set_option maxHeartbeats 16000000 in
theorem Qq{a:bh}(T:Txt K mg a):aO P w K mg base aW 2 a.qH a.sk ["_law_feed_here","_law_names_here"] Zc:=by
 have bb:=iG (P:=P) (w:=w) (base:=base) T
 refine T.RV.ok yO (λvs H Q E h=>?_) (λcdv A outer s H vs Q E hr h=>?_)
 ·obtain⟨F,L,nm,ss,rfl,_⟩:=h
  rfl
 ·obtain⟨F,L,nm,ss,rfl,hf,en,ls,k⟩:=h
  have aS:aK 1 _:=hr
  refine⟨_,(aj (iO (i:=2) (aN.mk' (esc:=ah jA) (N:=["_law_feed_here","_law_names_here","_law_parts"]) (own:=["_law_name"]) (aR:=["_law_feed_here"]) (bS:=[0]) rfl rfl (by decide+kernel)) rfl (dF (pv 1)) (λ_ _ _ _=>(aF (i:=0) (show A4 (["_law_name","_law_feed_here"]:List Str) by decide+kernel) rfl (Ab rfl))) (λ_ _ _ _=>(qm (aV oC (aq bb aS rfl T.bB T.bC T.bD .nil az (ae (pv 1) (ae ai ag))) ai (a_ _)))) (λ_ _ _ _=>(bq (ae (pv 0) (ae (aI de ai (aq bb aS rfl T.bB T.bC T.bD .nil az (ae (pv 1) (ae (au (cS K) (df (ae ai (ae ai ag))) (aq bb aS rfl T.bB T.bC T.bD .nil az (ae (pv 1) (ae ai ag))) (λ_ _=>rfl)) ag)))) ag)))) yO.nd rfl rfl)
  (av (aL (bq (ae (au (cS K) (df (ae (aq bb aS rfl T.bB T.bC T.bD .nil az (ae (pv 0) (ae ai ag))) (ae (aq bb aS rfl T.bB T.bC T.bD .nil az (ae (pv 0) (ae ai ag))) ag))) (aq bb aS rfl T.bB T.bC T.bD .nil az (ae (pv 0) (ae ai ag))) (λ_ _=>rfl)) (ae (bw (cz K) (by rfl) T.eQ dI (ae (pv 2) ag)) ag)))))),?_⟩
  have wz:(2 ^ 10:Nat)<2 ^ 1000:=Cw (by decide) (by decide)
  have big:(10000:Nat)<=sizeLine:=by decide
  have small:∀x:Nat,x<=1000->x<2 ^ 1000:=λx hx=>CL (show x<2 ^ 10 by omega) wz
  refine aU λY hY=>?_
  refine⟨_,rfl,nm,rfl,⟨_,.of en⟩,λC hC=>?_⟩
  have nC:=hf.jJ hC
  refine cR (xs:=ss.map V.str) (λi σ H'=>∃(ps:List Addr) (qs:List (Str×Int)) (v:Option V),σ=[v,some (.ref F)]/\cy F L H H'/\bK H' F L/\H' C=some (.lst (ps.map V.ref))/\iM H' ps qs/\(qs.map (·.1)).Sublist (ss.take i)/\qs.length<=i/\∀q∈qs,q.1∈ss/\1<=q.2/\q.2<=9)
   ⟨[],[],none,?sg,(Same.new hC).kb2,hf.same (Same.new hC),af,.nil,List.nil_sublist _,AM _,λq hq=>(by cases hq)⟩ (by rintro i σ H' _ ⟨_,_,_,_,k',_⟩;exact .of (hf.ktu k' _ _ en)) ?_ ?_
  case sg=>rfl
  ·rintro i x σ H1 hx ⟨ps,qs,v,rfl,k1,f1,c1,tp,sb,lq,hq⟩
   obtain⟨n,rfl,en'⟩:=iS hx
   have hi:=(AF.mp en').1
   have lp:ps.length=qs.length:=Ag tp
   refine⟨_,rfl,F,L,3,rfl,f1,by decide,small _ (by decide),λr H2 r1 k2 f2=>⟨_,_,rfl,rfl,_,rfl,?_⟩⟩
   have kt2:=f1.ktu k2
   have c2:=k2 _ _ c1 nC.1 nC.2
   refine bJ (λ_=>?_) (λ_=>⟨ps,qs,_,rfl,k1.trans k2,f2,c2,tp.keep kt2,sb.trans (List.take_sublist_take_left (B' i)),by omega,hq⟩)
   refine⟨_,rfl,_,rfl,by show 2<=sizeLine;decide,λZ hZ=>?_⟩
   have sZ:=Same.new (o:=.lst [.int 2,.int 9]) hZ
   have nZ:=f2.jJ hZ
   refine⟨_,rfl,F,L,2,rfl,f2.same sZ,by decide,small _ (by decide),λr2 H3 q2 k3 f3=>?_⟩
   obtain⟨d,hd,hd0,hd9⟩:∃d:Nat,mK ([.int 2,.int 9]:List V) (r2:Int)=some (.int (d:Nat))/\0<d/\d<=9:=by
    match r2,q2 with
    | 0,_=>exact⟨2,rfl,by decide,by decide⟩
    | 1,_=>exact⟨9,rfl,by decide,by decide⟩
   refine⟨Z,_,_,.int (d:Nat),rfl,rfl,.of (k3 _ _ af nZ.1 nZ.2),hd,F,L,d,rfl,f3,hd0,small _ (by omega),λr3 H4 q3 k4 f4=>⟨_,_,rfl,rfl,by show 2<=sizeLine;decide,λp hp=>?_⟩⟩
   have sp:=Same.new (o:=.tup [.str n,.int (1+(r3:Int))]) hp
   have k24:=((sZ.kb2.trans k3).trans k4).trans sp.kb2
   have kA:=k1.trans (k2.trans k24)
   have f5:=f4.same sp
   have c5:=k24 _ _ c2 nC.1 nC.2
   have tp5:iM (upd H4 p (.tup [.str n,.int (1+(r3:Int))])) ps qs:=(tp.keep kt2).keep (f2.ktu k24)
   have e5:(upd H4 p (.tup [.str n,.int (1+(r3:Int))])) p=some (.tup [.str n,.int (1+(r3:Int))]):=af
   generalize upd H4 p (.tup [.str n,.int (1+(r3:Int))])=H5 at kA f5 c5 tp5 e5 ⊢
   have kC:bj H5 (upd H5 C (.lst (ps.map V.ref++[.ref p]))):=bj.lst c5
   refine⟨_,c5,by rw[AA];omega,ps++[p],qs++[(n,1+(r3:Int))],_,rfl,cy.qO kA hC,f5.upd nC,by rw[af,AI];rfl,bO (tp5.keep kC) (.cons (kC _ _ e5) .nil),by rw[AI,take_snoc en'];exact sb.append (List.Sublist.refl _),by rw[AK];show qs.length+1<=_;omega,λq hq'=>?_⟩
   rcases Ac.mp hq' with z | z
   ·exact hq q z
   ·rw[AW.mp z];exact⟨AG en',by show 1<=1+(r3:Int);omega,by show 1+(r3:Int)<=9;omega⟩
  rintro σ H1 ⟨ps,qs,v,rfl,k1,f1,c1,tp,sb,lq,hq⟩
  rw[AA] at lq
  rw[AA,Ap] at sb
  dsimp only[aD]
  subst hY
  refine⟨_,rfl,F,L,5,rfl,f1,by decide,small _ (by decide),λr1 H2 q1 k2 f2=>⟨_,rfl,F,L,100,rfl,f2,by decide,small _ (by decide),λr2 H3 q2 k3 f3=>⟨by show 2<=sizeLine;decide,λZ hZ=>?_⟩⟩⟩
  have sZ:=Same.new (o:=.lst [.int (r1:Nat),.int (r2:Nat)]) hZ
  have nZ:=f3.jJ hZ
  refine⟨_,rfl,F,L,2,rfl,f3.same sZ,by decide,small _ (by decide),λr3 H4 q3 k4 f4=>?_⟩
  obtain⟨d,hd,amI⟩:∃d:Nat,mK ([.int (r1:Nat),.int (r2:Nat)]:List V) (r3:Int)=some (.int (d:Nat))/\d<=99:=by
   match r3,q3 with
   | 0,_=>exact⟨r1,rfl,by omega⟩
   | 1,_=>exact⟨r2,rfl,by omega⟩
  have k14:=((k2.trans k3).trans sZ.kb2).trans k4
  have c4:=k14 _ _ c1 nC.1 nC.2
  refine⟨Z,_,_,.int (d:Nat),rfl,rfl,.of (k4 _ _ af nZ.1 nZ.2),hd,_,rfl,C,_,rfl,.inl ⟨.of c4,λD hD=>?_⟩⟩
  have sD:=Same.new (o:=.tup (ps.map V.ref)) hD
  refine⟨by show 2<=sizeLine;decide,λta hta=>?_⟩
  have sT:=Same.new (o:=.tup [.int (d:Nat),.ref D]) hta
  have k15:=(k14.trans sD.kb2).trans sT.kb2
  exact k ta ⟨(d:Int),qs⟩ _ (k1.trans k15) (f4.same (sD.trans sT)) ⟨D,ps,af,sT _ _ af,tp.keep (f1.ktu k15)⟩ ⟨by show qs.length<=3;omega,λq h=>(hq q h).1⟩ ⟨by show(0:Int)<=d;omega,by show(d:Int)<=99;omega,λq h=>(hq q h).2⟩ sb
def wsum(v:Str->Int):List (Str×Int)->Int
 | []=>0
 | q::qs=>v q.1*q.2+wsum v qs
def bE(t:Term)(v:Str->Int):Int:=t.num+wsum v t.parts
theorem Ke(v:Str->Int):∀qs:List (Str×Int),(qs.map λq=>v q.1*q.2).sum=wsum v qs
 | []=>rfl
 | q::qs=>by rw[Aj,By,Ke v qs];rfl
def tH(H:Hp)(D:Addr)(ks:List Str)(v:Str->Int):Prop:=∃kvs:List (Key×V),Rd H D (.dK kvs)/\∀n∈ks,aZ kvs (Am n)=some (.int (v n))
inductive SJ (vs:List V)(H:Hp)(Q:VK)(aJ:XK):Prop where
 | mk (ta D:Addr) (t:Term) (ks:List Str) (v:Str->Int) (cG:vs=[.ref ta,.ref D]) (cD:bp H ta t) (cE:jM t) (dc:t.parts.length<=100) (dZ:tH H D ks v) (fU:(∀q∈t.parts,q.1∈ks)) (iH:∀H',Same H H'->Q (.int (bE t v)) H')
def Wn:Sp:=λvs H Q aJ=>SJ vs H Q aJ
theorem Nh:aP ["_law_term_here","_law_values"] ["_law_term_here","_law_values"] (ah iB):=⟨rfl,rfl,rfl,by decide+kernel,rfl,by decide+kernel,by decide+kernel⟩
theorem wA{a:bh}(T:Txt K mg a):aO P w K mg base aW 1 a.oW a.qI ["_law_term_here","_law_values"] Wn:=by
 refine T.Pe.ok Nh (λvs H Q E h=>?_) (λcdv A outer s H vs Q E hr h=>?_)
 ·obtain⟨ta,D,t,ks,v,rfl,_⟩:=h
  rfl
 ·obtain⟨ta,D,t,ks,v,rfl,⟨b,ps,e1,e2,e3⟩,sm,lt,⟨kvs,ed,hv⟩,hk,k⟩:=h
  refine⟨_,(av (aL (aI de (au (ao K) (pv 0) ai (λ_ _=>rfl)) (bo (oG K) (by rfl) T.zD vK (ae (bU (aN.mk' (esc:=ah iB) (N:=["_law_term_here","_law_values"]) (own:=["_law_name","_law_many"]) (aR:=["_law_values"]) (bS:=[1]) rfl rfl (by decide+kernel)) rfl (dF (au (ao K) (pv 0) ai (λ_ _=>rfl))) (λ_ _ _ _=>(kr K (n:=2) rfl (bX (aF (i:=0) (show A4 (["_law_name","_law_many","_law_values"]:List Str) by decide+kernel) rfl (Ab rfl)) (bX (aF (i:=1) (show A4 (["_law_name","_law_many","_law_values"]:List Str) by decide+kernel) rfl (Ab rfl)) ib)))) (λ_ _ _ _=>bz) (λ_ _ _ _=>(aI fZ (cv (cf hr) (pv 2) (pv 0) (λ_ _=>rfl)) (pv 1)))) ag))))),?_⟩
  have big:(10000:Nat)<=sizeLine:=by decide
  refine⟨_,rfl,ta,_,_,.int t.num,rfl,rfl,.of e1,ak (j:=0) rfl,_,rfl,ta,_,_,.ref b,rfl,rfl,.of e1,ak (j:=1) rfl,b,rfl,⟨_,.of e2⟩,λC hC=>?_⟩
  have lps:ps.length=t.parts.length:=Ag e3
  have sC:=Same.new (o:=.lst []) hC
  have dC:∀{H':Hp},Same H H'->Rd H' D (.dK kvs):=λ{H'} s=>by
   rcases ed with z | ⟨o,z⟩
   ·exact .inl (s _ _ z)
   ·exact .inr ⟨o,s _ _ z⟩
  refine cR (xs:=ps.map V.ref) (λi σ H'=>∃v1 v2:Option V,σ=[v1,v2,some (.ref D)]/\Same H H'/\H' C=some (.lst (((t.parts.take i).map λq=>v q.1*q.2).map V.int)))
   ⟨none,none,?sg,sC,af⟩ (by rintro i σ H' _ ⟨_,_,_,s',_⟩;exact .of (s' _ _ e2)) ?_ ?_
  case sg=>rfl
  ·rintro i x σ H1 hx ⟨v1,v2,rfl,s1,c1⟩
   obtain⟨p,rfl,ep⟩:=kP hx
   have hi:=(AF.mp ep).1
   obtain⟨q,hq,wB⟩:=dR e3 ep
   have hqm:=AG hq
   have hb:=sm.2.2 q hqm
   refine⟨p,_,rfl,.of (s1 _ _ wB),rfl,_,_,rfl,_,_,rfl,rfl,?_⟩
   refine⟨_,rfl,_,rfl,D,.int (v q.1),rfl,.inl ⟨kvs,Am q.1,dC s1,rfl,(hv q.1 (hk q hqm)).symm⟩,_,rfl,_,_,rfl,rfl,.inr ⟨by omega,by omega⟩,_,c1,?_,_,_,rfl,s1.kbn hC KB.write,?_⟩
   ·rw[AA,AA,Ao];omega
   ·rw[af,take_snoc hq,AI,AI];rfl
  rintro σ H1 ⟨v1,v2,rfl,s1,c1⟩
  rw[AA,lps,Ap] at c1
  refine⟨C,_,rfl,.of c1,_,_,rfl,rfl,?_⟩
  rw[Ke]
  exact k H1 s1
theorem UC{H:Hp}{a:Addr}{t:Term}(h:bp H a t):∃(b:Addr) (ps:List Addr),H a=some (.tup [.int t.num,.ref b])/\H b=some (.tup (ps.map V.ref))/\Bl (λ(p:Addr) (q:Key×V)=>H p=some (.tup [kV q.1,q.2])) ps (t.parts.map gV):=by
 obtain⟨b,ps,e1,e2,e3⟩:=h
 refine⟨b,ps,e1,e2,?_⟩
 clear e1 e2
 generalize t.parts=l at e3
 induction e3 with
 | nil=>exact .nil
 | cons h _ ih=>exact .cons h ih
def abz(_ j:Int):Prop:=j≠0/\j.natAbs.log2<9000
theorem SK{X:Cx}:dY X (CM .FloorDiv) (rI abz λi j=>.int (i.fdiv j)):=NP λi j _ _ _ _ _ hc q=>PyProof.Rows.floordiv_int hc.1 q (.inl (Ff hc.2))
def dj(v:Str->Int)(ks:List Str):List (Key×V):=ks.map λn=>(Am n,V.int (v n))
theorem qg{v:Str->Int}{n:Str}:∀{ks:List Str},n∈ks->aZ (dj v ks) (Am n)=some (.int (v n))
 | m::ks,h=>by
  show aZ ((Am m,V.int (v m))::dj v ks) (Am n)=_
  by_cases e:m=n
  ·subst e;exact bY rfl
  ·have:n∈ks:=(Ae.mp h).resolve_left λz=>e z.symm
   rw[<-qg this]
   unfold aZ
   rw[GR (by simp[e])]
theorem Wo{v:Str->Int}{n:Str}{x:Int}{ks:List Str}(h:n∈ks):putK (dj v ks) (Am n) (.int x)=dj (λm=>if m=n then x else v m) ks:=by
 unfold putK dj
 rw[if_pos (List.any_eq_true.mpr ⟨(Am n,V.int (v n)),AZ.mpr ⟨n,h,rfl⟩,by simp⟩),BL]
 refine BI λm _=>?_
 show(if(Am m:Key)=Am n then((Am m:Key),V.int x) else(Am m,V.int (v m)))=(Am m,V.int (if m=n then x else v m))
 by_cases e:m=n
 ·rw[if_pos (by rw[e]),if_pos e]
 ·rw[if_neg (λz=>e (Gi z)),if_neg e]
theorem L3{v:Str->Int}{B:Int}(hv:∀n,0<=v n/\v n<=B):∀{qs:List (Str×Int)},(∀q∈qs,1<=q.2/\q.2<=9)->0<=wsum v qs/\wsum v qs<=9*B*(qs.length:Int)
 | [],_=>by show(0:Int)<=0/\(0:Int)<=9*B*((0:Nat):Int);omega
 | q::qs,h=>by
  have ih:=L3 hv λp hp=>h p (AJ _ hp)
  have hq:=h q AL
  have hn:=hv q.1
  have h1:0<=v q.1*q.2:=DU hn.1 (by omega)
  have h2:v q.1*q.2<=B*9:=Int.mul_le_mul hn.2 hq.2 (by omega) (by omega)
  show 0<=v q.1*q.2+wsum v qs/\v q.1*q.2+wsum v qs<=9*B*((qs.length+1:Nat):Int)
  have e:9*B*((qs.length+1:Nat):Int)=9*B*(qs.length:Int)+9*B:=by rw[Cq,Hs];omega
  omega
theorem Kf{t:Term}(ht:jM t)(l3:t.parts.length<=3){v:Str->Int}{B:Int}(hB:1<=B)(hv:∀n,0<=v n/\v n<=B):0<=bE t v/\bE t v<=126*B:=by
 have h:=L3 hv ht.2.2
 have h1:=ht.1
 have h2:=ht.2.1
 have:9*B*(t.parts.length:Int)<=9*B*3:=Eh (by omega) (by omega)
 unfold bE
 omega
def il(v:Str->Int)(f:Str->Int)(ks:List Str):Int:=(ks.map λn=>v n*f n).sum
theorem jN(v f:Str->Int)(n:Str)(ks:List Str):il v f (n::ks)=v n*f n+il v f ks:=by unfold il;rw[Aj,By]
theorem mU{n:Str}:∀{qs:List (Str×Int)} {d:Int},n ∉ qs.map (·.1)->bH n qs d=d
 | [],d,_=>rfl
 | q::qs,d,h=>by
  rw[Aj,Ae,not_or] at h
  show bH n qs (if n=q.1 then q.2 else d)=d
  rw[if_neg h.1]
  exact mU h.2
theorem Kg{v:Str->Int}{f g:Str->Int}{m:Str}{x:Int}(hg:g m=0)(hf:∀n,f n=if n=m then x else g n):∀{ks:List Str},ks.Nodup->il v f ks=(if m∈ks then v m*x else 0)+il v g ks
 | [],_=>by rw[if_neg (by simp)];rfl
 | n::ks,nd=>by
  obtain⟨n1,n2⟩:=Bj.mp nd
  rw[jN,jN,Kg hg hf n2,hf n]
  by_cases e:n=m
  ·subst e
   rw[if_pos rfl,if_neg n1,if_pos AL,hg,EO]
  ·rw[if_neg e]
   by_cases hm:m∈ks
   ·rw[if_pos hm,if_pos (AJ _ hm)];omega
   ·rw[if_neg hm,if_neg (λz=>(Ae.mp z).elim (λy=>e y.symm) hm)];omega
theorem uy:∀ks:List Str,(ks.map λ_=>(0:Int)).sum=0
 | []=>rfl
 | a::ks=>by rw[Aj,By,uy ks];rfl
theorem oy{v:Str->Int}{ks:List Str}(nd:ks.Nodup):∀{qs:List (Str×Int)},(qs.map (·.1)).Nodup->(∀q∈qs,q.1∈ks)->wsum v qs=il v (λn=>bH n qs 0) ks
 | [],_,_=>by
  unfold il
  have:(ks.map λn=>v n*bH n [] 0)=ks.map λ_=>(0:Int):=BI λn _=>by show v n*0=0;rw[EO]
  rw[this,uy]
  rfl
 | q::qs,h,hk=>by
  rw[Aj] at h
  obtain⟨n1,n2⟩:=Bj.mp h
  have ih:=oy (v:=v) nd n2 λp hp=>hk p (AJ _ hp)
  have:=Kg (v:=v) (f:=λn=>bH n (q::qs) 0) (g:=λn=>bH n qs 0) (m:=q.1) (x:=q.2) (mU n1) (λn=>by
   show bH n qs (if n=q.1 then q.2 else 0)=_
   by_cases e:n=q.1
   ·subst e;rw[if_pos rfl,if_pos rfl];exact mU n1
   ·rw[if_neg e,if_neg e]) nd
  rw[this,if_pos (hk q AL),<-ih]
  rfl
theorem Kh(v f g:Str->Int):∀ks:List Str,il v f ks-il v g ks=il v (λn=>f n-g n) ks
 | []=>rfl
 | n::ks=>by
  rw[jN,jN,jN,<-Kh v f g ks,Int.mul_sub]
  omega
theorem vf{v:Str->Int}(hv:∀n,0<=v n)(f:Str->Int):∀ks:List Str,dot (aC (ks.map λn=>(v n).toNat)) (ks.map f)=il v f ks
 | []=>rfl
 | n::ks=>by
  rw[jN,<-vf hv f ks]
  show(((v n).toNat:Nat):Int)*f n+dot (aC (ks.map λn=>(v n).toNat)) (ks.map f)=_
  rw[BH (hv n)]
theorem Qr{t u:Term}{ks:List Str}(nd:ks.Nodup)(nt:(t.parts.map (·.1)).Nodup)(nu:(u.parts.map (·.1)).Nodup)(ht:∀q∈t.parts,q.1∈ks)(hu:∀q∈u.parts,q.1∈ks){v:Str->Int}(hv:∀n,0<=v n):
  bE t v-bE u v=t.num-u.num+dot (aC (ks.map λn=>(v n).toNat)) (iq t u ks):=by
 unfold bE iq
 rw[oy nd nt ht,oy nd nu hu,vf hv,<-Kh]
 show t.num+il v (λn=>bH n t.parts 0) ks-(u.num+il v (λn=>bH n u.parts 0) ks)=t.num-u.num+(il v t.at ks-il v u.at ks)
 show t.num+il v t.at ks-(u.num+il v u.at ks)=_
 omega
theorem Ni{t u:Term}{ks:List Str}{v:Str->Int}(ls:Bool){x:Int}(e:x=t.num-u.num+dot (aC (ks.map λn=>(v n).toNat)) (iq t u ks)):UB ls (dG ls t u) (ks.map λn=>(v n).toNat) (iq t u ks)=if ls then decide (x<0) else decide (x=0):=by
 cases ls with
 | true=>
  show decide (0<=u.num-t.num-1-dot _ _)=decide (x<0)
  rw[decide_eq_decide]
  omega
 | false=>
  show decide (u.num-t.num-dot _ _=0)=decide (x=0)
  rw[decide_eq_decide]
  omega
theorem yP:∀{kvs more:List (Key×V)},(more.map (·.1)).Nodup->(∀p∈more,aZ kvs p.1=none)->bL kvs more=kvs++more
 | kvs,[],_,_=>(A8 _).symm
 | kvs,p::more,nd,h=>by
  rw[Aj] at nd
  obtain⟨n1,n2⟩:=Bj.mp nd
  show bL (putK kvs p.1 p.2) more=_
  rw[kj _ (h p AL)]
  rw[yP n2 λq hq=>?_,Cu]
  ·rfl
  ·rw[nB (h q (AJ _ hq))]
   have ne:p.1≠q.1:=λe=>n1 (e▸AZ.mpr ⟨q,hq,rfl⟩)
   unfold aZ
   rw[GR (by simp[ne])]
   rfl
theorem yQ{v:Str->Int}{ks:List Str}(nd:ks.Nodup):bL [] (dj v ks)=dj v ks:=by
 rw[yP (kvs:=[]) ?_ (λp _=>rfl),Eu]
 unfold dj
 rw[BL]
 exact nd.map _ λa b h e=>h (Gi e)
theorem Qs:∀(l ds:List Int),(∀x∈l,0<=x/\x<=3)->(∀d∈ds,0<=d/\d<=9)->0<=dot l ds/\dot l ds<=27*(ds.length:Int)
 | [],ds,_,_=>by cases ds<;>(show(0:Int)<=0/\(0:Int)<=_;omega)
 | x::xs,[],_,_=>by show(0:Int)<=0/\(0:Int)<=27*((0:Nat):Int);omega
 | x::xs,d::ds,h1,h2=>by
  have ih:=Qs xs ds (λy hy=>h1 y (AJ _ hy)) λy hy=>h2 y (AJ _ hy)
  have hx:=h1 x AL
  have hd:=h2 d AL
  have m:0<=x*d/\x*d<=27:=by
   have:x=0∨x=1∨x=2∨x=3:=by omega
   rcases this with rfl | rfl | rfl | rfl<;>omega
  show 0<=x*d+dot xs ds/\x*d+dot xs ds<=27*((ds.length+1:Nat):Int)
  omega
theorem vg{b:Nat}(hb4:b<=4){t:Term}(ht:jM t){ks:List Str}(hl:ks.length<=4):∀z∈aE b (ks.map t.at),0<=z/\z<=((200:Nat):Int):=λz hz=>by
 obtain⟨l,hl',rfl⟩:=AZ.mp hz
 have:=Qs l (ks.map t.at) (λy hy=>by have:=qb b _ l hl' y hy;omega) λd hd=>by
  obtain⟨n,_,rfl⟩:=AZ.mp hd
  exact iL n t.parts 0 ht.2.2 (by omega) (by omega)
 rw[AA] at this
 omega
def Rw.Nt(R:Rw):Prop:=∀r,r<R.n->R.sg.getD (stp R.mv r 0) 0=R.sg.getD r 0
theorem SM{b:Nat}(hb:2<=b){R:Rw}(nt:R.Nt){r:Nat}(hr:r<R.n)(c:Nat):dB b R.sg R.mv (stp R.mv r (c % b)) (c / b)=dB b R.sg R.mv r c:=by
 unfold dB
 by_cases h:0<c
 ·rw[jC hb h];rfl
 ·have:c=0:=by omega
  subst this
  rw[Nat.zero_mod,Nat.zero_div,gG]
  exact nt r hr
def left(b:Nat)(ns:List Nat)(ds:List Int)(k:Nat):Int:=dot (aC (ns.map (· / b ^ k))) ds
theorem Qt(b:Nat)(ns:List Nat)(ds:List Int):left b ns ds 0=dot (aC ns) ds:=by
 unfold left
 congr 2
 refine(BI λn _=>?_).trans (Ee _)
 show n / b ^ 0=n
 rw[EJ,Hq]
theorem Qu(b:Nat)(ns:List Nat)(ds:List Int)(k:Nat):left b ns ds k=lK b ns ds k+(b:Int)*left b ns ds (k+1):=by
 unfold left lK
 rw[<-ox,<-xA _ _ _ (by unfold aC;simp)]
 congr 1
 unfold aC
 rw[BL,BL,BL,BL,List.zipWith_map,List.zipWith_self]
 refine BI λn _=>?_
 show((n / b ^ k:Nat):Int)=((n / b ^ k % b:Nat):Int)+(b:Int)*((n / b ^ (k+1):Nat):Int)
 rw[Bi,<-EK,<-CA,<-Cq,Nat.mod_add_div]
theorem tX:∀(l ds:List Int),(∀x∈l,0<=x)->(∀d∈ds,0<=d)->0<=dot l ds
 | [],ds,_,_=>by rw[qf];exact B7 _
 | x::xs,[],_,_=>B7 _
 | x::xs,d::ds,h1,h2=>by
  have ih:=tX xs ds (λy hy=>h1 y (AJ _ hy)) λy hy=>h2 y (AJ _ hy)
  have:=DU (h1 x AL) (h2 d AL)
  show 0<=x*d+dot xs ds
  omega
theorem vh(l:List Nat):∀x∈aC l,0<=x:=λx hx=>by
 obtain⟨n,_,rfl⟩:=AZ.mp hx
 exact Int.natCast_nonneg n
theorem Ki{b:Nat}(hb:2<=b){R:Rw}(b_:Moves R.n b R.mv)(n0:0<R.n)(nt:R.Nt){ns:List Nat}{ds:List Int}(hl:ns.length=ds.length)(hd:∀d∈ds,0<=d)(c0:Nat):∀k,∃r c,dh (ux b R.mv (aE b ds)) [0,c0] (yN b ns k)=[r,c]/\r<R.n/\dB b R.sg R.mv r (c+(left b ns ds k).toNat)=dB b R.sg R.mv 0 (c0+(left b ns ds 0).toNat)
 | 0=>⟨0,c0,rfl,n0,rfl⟩
 | k+1=>by
  obtain⟨r,c,h1,h2,h3⟩:=Ki hb b_ n0 nt hl hd c0 k
  have hs:(aE b ds).getD (i4 b ns k) 0=lK b ns ds k:=vd (by omega) hl k
  have p0:0<=lK b ns ds k:=tX _ _ (vh _) hd
  have l0:0<=left b ns ds (k+1):=tX _ _ (vh _) hd
  have e:=Qu b ns ds k
  have et:(left b ns ds k).toNat=(lK b ns ds k).toNat+b*(left b ns ds (k+1)).toNat:=by
   have:((b*(left b ns ds (k+1)).toNat:Nat):Int)=(b:Int)*left b ns ds (k+1):=by rw[CA,BH l0]
   have l1:0<=(b:Int)*left b ns ds (k+1):=DU (by omega) l0
   omega
  refine⟨stp R.mv r ((c+(lK b ns ds k).toNat) % b),(c+(lK b ns ds k).toNat) / b,?_,b_.stp h2 (CV _ (by omega)),?_⟩
  ·rw[ve,nT,h1]
   show onRow b R.mv r c ((aE b ds).getD (i4 b ns k) 0).toNat=_
   rw[hs];rfl
  ·rw[<-h3,<-SM hb nt h2 (c+(left b ns ds k).toNat),et,<-Nat.add_assoc,Nat.add_mul_mod_self_left,Nat.add_mul_div_left _ _ (by omega)]
theorem tI{b:Nat}(hb:2<=b){R:Rw}(b_:Moves R.n b R.mv)(n0:0<R.n)(nt:R.Nt){ns:List Nat}{ds:List Int}(hl:ns.length=ds.length)(hd:∀d∈ds,0<=d)(c0:Nat):∃r c,dh (ux b R.mv (aE b ds)) [0,c0] (sO b ns)=[r,c]/\dB b R.sg R.mv r c=dB b R.sg R.mv 0 (c0+(dot (aC ns) ds).toNat):=by
 obtain⟨r,c,h1,_,h3⟩:=Ki hb b_ n0 nt hl hd c0 (i5 b ns)
 refine⟨r,c,h1,?_⟩
 rw[Qt] at h3
 rw[<-h3]
 have z:left b ns ds (i5 b ns)=0:=by
  unfold left
  have e:aC (ns.map (· / b ^ i5 b ns))=(aC ns).map ((0:Int)* ·):=by
   unfold aC
   rw[BL,BL]
   refine BI λn hn=>?_
   show((n / b ^ i5 b ns:Nat):Int)=0*(n:Int)
   rw[L_ hb (AM _) n hn];omega
  rw[e,ox,Int.zero_mul]
 rw[z];rfl
theorem xB(b:Nat)(R S:Rw)(su sv:List Int):∀(w:List Nat) (r c r' c':Nat),∃x y x' y',dh (ux b R.mv su) [r,c] w=[x,y]/\dh (ux b S.mv sv) [r',c'] w=[x',y']/\dh (Uu b R S su sv) [r,c,r',c'] w=[x,y,x',y']
 | [],r,c,r',c'=>⟨r,c,r',c',rfl,rfl,rfl⟩
 | a::w,r,c,r',c'=>xB b R S su sv w _ _ _ _
def cu(t:Term):Int:=max t.num (t.parts.map (·.2)).sum
theorem Qv:∀{ds:List Int},(∀d∈ds,0<=d)->0<=ds.sum
 | [],_=>B7 _
 | d::ds,h=>by
  rw[By]
  have:=Qv λx hx=>h x (AJ d hx)
  have:=h d AL
  omega
theorem L4{b:Nat}(hb:1<=b):∀(l ds:List Int),(∀x∈l,0<=x/\x<(b:Int))->(∀d∈ds,0<=d)->dot l ds<=((b:Int)-1)*ds.sum
 | [],ds,_,hd=>by rw[qf];exact DU (by omega) (Qv hd)
 | x::xs,[],_,_=>by show(0:Int)<=_*0;rw[EO];exact B7 _
 | x::xs,d::ds,h1,h2=>by
  have ih:=L4 hb xs ds (λy hy=>h1 y (AJ _ hy)) λy hy=>h2 y (AJ _ hy)
  have hx:=h1 x AL
  have m:x*d<=((b:Int)-1)*d:=Int.mul_le_mul_of_nonneg_right (by omega) (h2 d AL)
  show x*d+dot xs ds<=_
  rw[By,Hs]
  omega
theorem Kj:∀qs:List (Str×Int),wsum (λ_=>1) qs=(qs.map (·.2)).sum
 | []=>rfl
 | q::qs=>by rw[Aj,By,<-Kj qs];show 1*q.2+_=_;omega
theorem Zd{t:Term}{ks:List Str}(nd:ks.Nodup)(nt:(t.parts.map (·.1)).Nodup)(ht:∀q∈t.parts,q.1∈ks):(ks.map t.at).sum=(t.parts.map (·.2)).sum:=by
 rw[<-Kj,oy nd nt ht]
 unfold il
 congr 1
 refine BI λn _=>?_
 show t.at n=1*bH n t.parts 0
 rw[Ht];rfl
theorem wC{t:Term}(ht:jM t)(ks:List Str):∀d∈ks.map t.at,0<=d:=λd hd=>by
 obtain⟨n,_,rfl⟩:=AZ.mp hd
 exact(iL n t.parts 0 ht.2.2 (by omega) (by omega)).1
theorem Qw{b:Nat}(hb:2<=b){t:Term}(sm:jM t){ks:List Str}(nd:ks.Nodup)(nt:(t.parts.map (·.1)).Nodup)(ht:∀q∈t.parts,q.1∈ks)(L:Nat):(((aE b (ks.map t.at)).getD L 0).toNat:Int)<=((b:Int)-1)*cu t:=by
 have c0:0<=cu t:=by have:=sm.1;unfold cu;omega
 have hc:((b:Int)-1)*(ks.map t.at).sum<=((b:Int)-1)*cu t:=Eh (by rw[Zd nd nt ht];unfold cu;omega) (by omega)
 have h0:0<=((b:Int)-1)*cu t:=DU (by omega) c0
 rw[BA]
 cases e:(aE b (ks.map t.at))[L]? with
 | none=>show((0:Int).toNat:Int)<=_;simpa using h0
 | some z=>
  obtain⟨l,hl',rfl⟩:=AZ.mp (AG e)
  have h1:=L4 (b:=b) (by omega) l (ks.map t.at) (λy hy=>by have:=qb b _ l hl' y hy;omega) (wC sm ks)
  show((dot l (ks.map t.at)).toNat:Int)<=_
  omega
theorem Qx{b c s:Nat}{M:Int}(hb:2<=b)(hc:(c:Int)<=M)(hs:(s:Int)<=((b:Int)-1)*M):(((c+s) / b:Nat):Int)<=M:=by
 have:((c+s:Nat):Int)<=(b:Int)*M:=by
  have e:((b:Int)-1)*M=(b:Int)*M-M:=by rw[Int.sub_mul,Ht]
  omega
 rw[CG]
 refine Int.le_of_lt_add_one ?_
 rw[GQ (by omega),Int.add_mul,Int.mul_comm M]
 omega
def yR(R:Rw)(t:Term)(p:List Nat):Prop:=∃r c:Nat,p=[r,c]/\r<R.n/\(c:Int)<=cu t
theorem Ze{b:Nat}(hb:2<=b){R:Rw}(b_:Moves R.n b R.mv){t:Term}(sm:jM t){ks:List Str}(nd:ks.Nodup)(nt:(t.parts.map (·.1)).Nodup)(ht:∀q∈t.parts,q.1∈ks){p:List Nat}(h:yR R t p)(L:Nat):yR R t (ux b R.mv (aE b (ks.map t.at)) p L):=by
 obtain⟨r,c,rfl,hr,hc⟩:=h
 exact⟨_,_,rfl,b_.stp hr (CV _ (by omega)),Qx hb hc (Qw hb sm nd nt ht L)⟩
theorem tY{b:Nat}(hb:2<=b){R:Rw}(b_:Moves R.n b R.mv){t:Term}(sm:jM t){ks:List Str}(nd:ks.Nodup)(nt:(t.parts.map (·.1)).Nodup)(ht:∀q∈t.parts,q.1∈ks):∀(w:List Nat) (p:List Nat),yR R t p->yR R t (dh (ux b R.mv (aE b (ks.map t.at))) p w)
 | [],_,h=>h
 | a::w,_,h=>tY hb b_ sm nd nt ht w _ (Ze hb b_ sm nd nt ht h a)
def xC(R:Rw)(t:Term):List (List Nat):=(A9 R.n).flatMap λr=>(A9 (cu t+1).toNat).map λc=>[r,c]
theorem vi{α β:Type}(f:α->List β)(m:Nat):∀l:List α,(∀x∈l,(f x).length=m)->(l.flatMap f).length=l.length*m
 | [],_=>by simp
 | x::l,h=>by rw[FX,AK,vi f m l λy hy=>h y (AJ _ hy),h x AL,A2,Nat.succ_mul,Nat.add_comm]
theorem vj(R:Rw)(t:Term):(xC R t).length=R.n*(cu t+1).toNat:=by
 unfold xC
 rw[vi _ (cu t+1).toNat _ λx _=>by rw[AA,B8],B8]
theorem xD{R:Rw}{t:Term}{p:List Nat}(h:yR R t p):p∈xC R t:=by
 obtain⟨r,c,rfl,hr,hc⟩:=h
 exact EZ.mpr ⟨r,Bv.mpr hr,AZ.mpr ⟨c,Bv.mpr (by omega),rfl⟩⟩
theorem SN{R:Rw}{t:Term}{xs:List (List Nat)}(nd:xs.Nodup)(h:∀p∈xs,yR R t p):xs.length<=R.n*(cu t+1).toNat:=by
 rw[<-vj]
 exact C7 nd λp hp=>xD (h p hp)
theorem Qy{R S:Rw}{t u:Term}{xs:List (List Nat)}(nd:xs.Nodup)(h:∀p∈xs,∃q r,p=q++r/\yR R t q/\yR S u r):xs.length<=R.n*(cu t+1).toNat*(S.n*(cu u+1).toNat):=by
 rw[<-vj,<-vj]
 have:=C7 (l₂:=(xC R t).flatMap λq=>(xC S u).map λr=>q++r) nd λp hp=>by
  obtain⟨q,r,rfl,h1,h2⟩:=h p hp
  exact EZ.mpr ⟨q,xD h1,AZ.mpr ⟨r,xD h2,rfl⟩⟩
 rw[vi _ (xC S u).length _ λx _=>by rw[AA]] at this
 exact this
theorem Qz{t:Term}{ks:List Str}(nd:ks.Nodup)(nt:(t.parts.map (·.1)).Nodup)(ht:∀q∈t.parts,q.1∈ks){v:Str->Int}(hv:∀n,0<=v n):bE t v=t.num+dot (aC (ks.map λn=>(v n).toNat)) (ks.map t.at):=by
 unfold bE
 rw[oy nd nt ht,vf hv]
 rfl
def Nj(b:Nat)(bs:List Bool)(mv:List (List Nat))(ns:List Nat):Bool:=lang bs mv 0 (sO b ns)
inductive Wq (K:AB)(vs:List V)(H:Hp)(Q:VK)(aJ:XK):Prop where
 | mk (b:Nat) (ma na nm:Addr) (bs:List Bool) (mv:List (List Nat)) (ns:List Nat) (cG:vs=[.int b,.ref ma,.ref na]) (cD:2<=b) (cE:b<=4) (dc:jc H ma nm bs mv) (dZ:Moves bs.length (b ^ ns.length) mv) (fU:0<bs.length) (iH:H na=some (.lst ((aC ns).map V.int))) (j8:ns.length<=3) (mM:(∀n∈ns,n<2 ^ 600)) (rF:∀H',Same H H'->Q (.bl (Nj b bs mv ns)) H')
def Zf(K:AB):Sp:=λvs H Q aJ=>Wq K vs H Q aJ
theorem SO(mv:List (List Nat))(r:Nat)(xs:List Nat)(f:Nat):run mv r (xs++[f])=(mv.getD (run mv r xs) []).getD f 0:=by rw[LB];rfl
theorem L5:∀{ns:List Nat},0<(aC ns).sum->∃n∈ns,0<n
 | [],h=>by cases h
 | n::ns,h=>by
  have h':0<(n:Int)+(aC ns).sum:=h
  rcases FI n with z | z
  ·subst z
   obtain⟨m,hm,h0⟩:=L5 (ns:=ns) (by omega)
   exact⟨m,AJ _ hm,h0⟩
  ·exact⟨n,AL,z⟩
theorem Kk:∀{ns:List Nat},¬0<(aC ns).sum->∀n∈ns,n=0
 | [],_,n,hn=>by cases hn
 | m::ns,h,n,hn=>by
  have nn:∀l:List Nat,0<=(aC l).sum:=λl=>by
   induction l with
   | nil=>exact B7 _
   | cons x l ih=>show 0<=(x:Int)+(aC l).sum;omega
  have h':¬0<(m:Int)+(aC ns).sum:=h
  have h1:=nn ns
  rcases Ae.mp hn with e | e
  ·omega
  ·exact Kk (ns:=ns) (by omega) n e
theorem gJ:aP ["_law_base","_law_machine","_law_numbers","_law_room","_law_left","_law_letter","_law_number"] ["_law_base","_law_machine","_law_numbers"] (ah jB):=⟨rfl,rfl,rfl,by decide+kernel,rfl,by decide+kernel,by decide+kernel⟩
theorem QA{a:bh}(T:Txt K mg a):aO P w K mg base aW 1 a.qJ a.sr ["_law_base","_law_machine","_law_numbers"] (Zf K):=by
 refine T.RW.ok gJ (λvs H Q E h=>?_) (λcdv A outer s H vs Q E hr h=>?_)
 ·obtain⟨b,ma,na,nm,bs,mv,ns,rfl,_⟩:=h
  rfl
 ·obtain⟨b,ma,na,nm,bs,mv,ns,rfl,hb2,hb4,hma,b_,h0,ena,ln,hns,k⟩:=h
  refine⟨_,(aj (aw (i:=3) gJ.nd rfl (Ab rfl) ai)
  (aj (aw (i:=4) gJ.nd rfl (Ab rfl) (bw (Mu K) (by rfl) T.Pf Lk (ae (pv 2) ag)))
  (aj (iw Aw (aV oC (bo (oG K) (by rfl) T.zD vK (ae (pv 4) ag)) ai (a_ _))
   (aj (aw (i:=5) gJ.nd rfl (Ab rfl) ai)
   (aj (cK Aw rfl (dH (pv 4)) (aF (i:=6) gJ.nd rfl (Ab rfl))
    (av (aw (i:=5) gJ.nd rfl (Ab rfl) (aI de (aI fZ (pv 5) (pv 0)) (aI cU (pv 6) (pv 0))))))
   (aj (aw (i:=3) gJ.nd rfl (Ab rfl) (au (ao K) (au (ao K) (au (ao K) (pv 1) ai (λ_ _=>rfl)) (pv 3) (λ_ _=>rfl)) (pv 5) (λ_ _=>rfl)))
   (av (iO (i:=4) (aN.mk' (esc:=ah jB) (N:=["_law_base","_law_machine","_law_numbers","_law_room","_law_left","_law_letter","_law_number"]) (own:=["_law_number"]) (aR:=["_law_base"]) (bS:=[0]) rfl rfl (by decide+kernel)) rfl (dH (pv 4)) (λ_ _ _ _=>(aF (i:=0) (show A4 (["_law_number","_law_base"]:List Str) by decide+kernel) rfl (Ab rfl))) (λ_ _ _ _=>bz) (λ_ _ _ _=>(aI gK (pv 0) (pv 1))) gJ.nd rfl rfl))))))
  (av (aL (au (ao K) (au (ao K) (pv 1) ai (λ_ _=>rfl)) (pv 3) (λ_ _=>rfl))))))),?_⟩
  obtain⟨ya,va,ps,e1,e2,e3,tp⟩:=hma
  have big:(10000:Nat)<=sizeLine:=by decide
  have hbp:∀i,0<b ^ i:=λi=>FY (by omega)
  dsimp only[qh,rQ,tC,aD]
  refine⟨_,rfl,na,_,rfl,.inl (.of ena),λZ hZ=>?_⟩
  dsimp only[aD]
  refine xk (λm σ H'=>∃(i:Nat) (Z:Addr) (v5 v6:Option V),m=i5 b ns-i/\i<=i5 b ns/\σ=[some (.int (b:Nat)),some (.ref ma),some (.ref na),some (.int (run mv 0 ((A9 i).map (i4 b ns)):Nat)),some (.ref Z),v5,v6]/\Same H H'/\H' Z=some (.lst ((aC (ns.map (· / b ^ i))).map V.int)))
   ⟨_,0,Z,none,none,rfl,A6 _,rfl,Same.new hZ,?st⟩ ?_ ?_
  case st=>
   rw[af]
   have:ns.map (· / b ^ 0)=ns:=by
    rw[show(λx:Nat=>x / b ^ 0)=id from funext λx=>by rw[EJ,Hq];rfl,Ee]
   rw[this]
  ·rintro m σ H1 ⟨i,Z,v5,v6,rfl,hi,rfl,s1,z1⟩
   have hgo:∀f∈(A9 i).map (i4 b ns),f<b ^ ns.length:=λf hf=>by
    obtain⟨p,_,rfl⟩:=AZ.mp hf
    exact vY (by omega) ns p
   have hg:=b_.run h0 (w:=(A9 i).map (i4 b ns)) hgo
   refine⟨_,rfl,Z,_,rfl,.of z1,_,_,rfl,rfl,_,rfl,?_⟩
   refine bJ (λz=>?_) (λz=>?_)
   ·obtain⟨x,hx,x0⟩:=L5 (of_decide_eq_true z)
    obtain⟨n,hn,rfl⟩:=AZ.mp hx
    have hip:i<i5 b ns:=AX ((vX hb2 i n).mpr x0) (Ju hn)
    refine⟨_,rfl,Z,rfl,⟨_,.of z1⟩,jv (xs:=(aC (ns.map (· / b ^ i))).map V.int) (λj σ H'=>∃v6:Option V,σ=[some (.int (b:Nat)),some (.ref ma),some (.ref na),some (.int (run mv 0 ((A9 i).map (i4 b ns)):Nat)),some (.ref Z),some (.int (lst b 0 ((ns.take j).map λn=>n / b ^ i % b):Nat)),v6]/\H'=H1)
     ⟨v6,rfl,rfl⟩ (by rintro j σ H' _ ⟨_,_,e⟩;rw[e];exact .of z1) ?_ ?_⟩
    ·rintro j x σ H2 hx ⟨v6,rfl,rfl⟩
     obtain⟨q,rfl,eq⟩:=tU hx
     rw[AU] at eq
     obtain⟨n',en',rfl⟩:=Bf.mp eq
     refine⟨_,rfl,_,rfl,_,_,rfl,rfl,.inr (by constructor<;>omega),_,rfl,_,rfl,_,_,rfl,rfl,cpos (by omega),_,_,rfl,rfl,some (.int ((n' / b ^ i:Nat):Int)),?_,rfl⟩
     rw[take_snoc en',AI,Aj,CW,lst_snoc]
     have ee:((lst b 0 ((ns.take j).map λn=>n / b ^ i % b):Nat):Int)*(b:Int)+((n' / b ^ i:Nat):Int) % (b:Int)=((lst b 0 ((ns.take j).map λn=>n / b ^ i % b)*b+n' / b ^ i % b:Nat):Int):=by
      rw[Cq,CA,DY]
     rw[<-ee]
     rfl
    rintro σ H2 ⟨v6,rfl,rfl⟩
    rw[AA,cj,AA,Ap]
    have el:lst b 0 (ns.map λn=>n / b ^ i % b)=i4 b ns i:=rfl
    rw[el]
    obtain⟨r1,r2,r3⟩:=b_.row (tp.keep s1.kt) hg
    have hl:i4 b ns i<b ^ ns.length:=vY (by omega) ns i
    refine⟨_,rfl,ma,_,_,_,rfl,rfl,.of (s1 _ _ e1),ak (j:=2) rfl,_,rfl,va,_,_,_,rfl,rfl,.of (s1 _ _ e3),ak (by rw[AU,r1];rfl),_,rfl,_,_,_,_,rfl,rfl,.of r2,ak (eJ (by rw[r3];exact hl)),?_⟩
    have eg:(mv.getD (run mv 0 ((A9 i).map (i4 b ns))) []).getD (i4 b ns i) 0=run mv 0 ((A9 (i+1)).map (i4 b ns)):=by
     rw[DG,AI,Aj,CW,SO]
    rw[eg]
    dsimp only[aD]
    refine⟨_,rfl,Z,rfl,⟨_,.of z1⟩,λC hC=>?_⟩
    refine gA (xs:=(aC (ns.map (· / b ^ i))).map V.int) (λj σ H'=>∃v:Option V,σ=[v,some (.int (b:Nat))]/\Same H2 H'/\H' C=some (.lst ((aC ((ns.take j).map (· / b ^ (i+1)))).map V.int)))
     ⟨none,?sg,Same.new hC,af⟩ (by rintro j σ H' _ ⟨_,_,s',_⟩;exact .of (s' _ _ z1)) ?_ ?_
    case sg=>rfl
    ·rintro j x σ H3 hx ⟨v,rfl,s2,c2⟩
     obtain⟨q,rfl,eq⟩:=tU hx
     rw[AU] at eq
     obtain⟨n',en',rfl⟩:=Bf.mp eq
     have hj:j<ns.length:=(AF.mp en').1
     refine⟨_,rfl,_,rfl,_,_,rfl,rfl,⟨by omega,yB (by omega)⟩,_,c2,?_,_,rfl,s2.kbn hC KB.write,?_⟩
     ·rw[AA,cj,AA,Ao];omega
     ·rw[af,take_snoc en',AI,Aj,CW,eO,AI]
      have ee:((n' / b ^ i:Nat):Int) / (b:Int)=((n' / b ^ (i+1):Nat):Int):=by
       rw[<-CG,EK,Bi]
      show some (HO.lst (_++[V.int (((n' / b ^ i:Nat):Int) / (b:Int))]))=_
      rw[ee]
      rfl
    rintro σ H3 ⟨v,rfl,s2,c2⟩
    rw[AA,cj,AA,Ap] at c2
    exact⟨_,by omega,i+1,C,_,_,rfl,hip,rfl,s1.trans s2,c2⟩
   ·have hz:=Kk (λy=>z (decide_eq_true y))
    have ei:i=i5 b ns:=Nat.le_antisymm hi (Qm hb2 λn hn=>hz _ (AZ.mpr ⟨n,hn,rfl⟩))
    subst ei
    refine⟨_,rfl,ma,_,_,_,rfl,rfl,.of (s1 _ _ e1),ak (j:=1) rfl,_,rfl,ya,_,_,.bl (Nj b bs mv ns),rfl,rfl,.of (s1 _ _ e2),ak ?_,k H1 s1⟩
    rw[AU,item_at false hg]
    rfl
  ·rintro σ H Q Q' hQ ⟨v1,e1,a1,x1,e4,h6,i1,i2,e7,e8,b,e9,q⟩
   exact⟨v1,e1,a1,x1,e4,h6,i1,i2,e7,e8,b,e9,hQ _ _ q⟩
structure wD (b n:Nat)(ra:Addr)(sg:List Nat)(mv:List (List Nat))(H:Hp):Prop where
 row:og H ra sg mv
 len:sg.length=n
 pos:0<n
 few:n<=27
 b_:Moves n b mv
 nt:∀r,r<n->sg.getD (stp mv r 0) 0=sg.getD r 0
theorem wD.keep{b n:Nat}{ra:Addr}{sg:List Nat}{mv:List (List Nat)}{H H':Hp}(h:wD b n ra sg mv H)(k:bj H H'):wD b n ra sg mv H':=⟨h.row.keep k,h.len,h.pos,h.few,h.b_,h.nt⟩
def tZ(b:Nat)(kvs:List (Key×V))(H:Hp):Prop:=∀q∈kvs,∃(x:Str) (ra:Addr) (n:Nat) (sg:List Nat) (mv:List (List Nat)),q=(Am x,.ref ra)/\wD b n ra sg mv H
theorem tZ.keep{b:Nat}{kvs:List (Key×V)}{H H':Hp}(h:tZ b kvs H)(k:bj H H'):tZ b kvs H':=λq hq=>by
 obtain⟨x,ra,n,sg,mv,e,o⟩:=h q hq
 exact⟨x,ra,n,sg,mv,e,o.keep k⟩
structure SQ (b:Nat)(wo Dw:Addr)(kvs:List (Key×V))(ss:List Str)(H:Hp):Prop where
 wo:H wo=some (.tup [.int b,.ref Dw])
 dw:H Dw=some (.dK kvs)
 ks:kvs.map (·.1)=ss.map Am
 pos:0<kvs.length
 le:kvs.length<=4
 rows:tZ b kvs H
theorem Zg{H H':Hp}(k:bj H H'):∀{ps:List Addr} {kvs:List (Key×V)},Bl (λ(p:Addr) (q:Key×V)=>H p=some (.tup [kV q.1,q.2])) ps kvs->Bl (λ(p:Addr) (q:Key×V)=>H' p=some (.tup [kV q.1,q.2])) ps kvs
 | _,_,.nil=>.nil
 | _,_,.cons h t=>.cons (k _ _ h) (Zg k t)
inductive SR (vs:List V)(H:Hp)(Q:VK)(aJ:XK):Prop where
 | mk (F L:Addr) (cG:vs=[.ref F]) (cD:bK H F L) (cE:∀(wo Dw:Addr) (b:Nat) (kvs:List (Key×V)) (ss:List Str) (H':Hp),cy F L H H'->bK H' F L->2<=b->b<=4->SQ b wo Dw kvs ss H'->Dw≠F/\Dw≠L->Q (.ref wo) H')
def Wr:Sp:=λvs H Q aJ=>SR vs H Q aJ
theorem qU:aP ["_law_feed_here","_law_base","_law_names_here"] ["_law_feed_here"] (ah gC):=⟨rfl,rfl,rfl,by decide+kernel,rfl,by decide+kernel,by decide+kernel⟩
set_option maxHeartbeats 16000000 in
theorem Nk{a:bh}(T:Txt K mg a):aO P w K mg base aW 3 a.oU a.qG ["_law_feed_here"] Wr:=by
 have bb:=iG (P:=P) (w:=w) (base:=base) T
 have tJ:=wa (P:=P) (w:=w) (base:=base) T
 have Ws:=SD (P:=P) (w:=w) (base:=base) T
 refine T.Pa.ok qU (λvs H Q E h=>?_) (λcdv A outer s H vs Q E hr h=>?_)
 ·obtain⟨F,L,rfl,_⟩:=h
  rfl
 ·obtain⟨F,L,rfl,hf,k⟩:=h
  have aS:aK 1 _:=hr.mono (by decide)
  have qV:aK 2 _:=hr
  have SU:aK 2 _:=hr
  refine⟨_,(aj (aw (i:=1) qU.nd rfl (CT rfl) (aI de ai (aq bb aS rfl T.bB T.bC T.bD .nil az (ae (pv 0) (ae ai ag)))))
  (aj (iO (i:=2) (aN.mk' (esc:=ah gC) (N:=["_law_feed_here","_law_base","_law_names_here"]) (own:=["_law_name"]) (aR:=[]) (bS:=[]) rfl rfl (by decide+kernel)) rfl (dF (aq tJ qV rfl T.yx T.yy T.yz .nil az (ae (pv 0) (ae (aI de ai (aq bb aS rfl T.bB T.bC T.bD .nil az (ae (pv 0) (ae ai ag)))) ag)))) (λ_ _ _ _=>(aF (i:=0) (show A4 (["_law_name"]:List Str) by decide+kernel) rfl (Ab rfl))) (λ_ _ _ _=>bz) (λ_ _ _ _=>(VW K EM GL PySem.F.type_str_upper RJ (pv 0))) qU.nd rfl rfl)
  (av (aL (bq (ae (pv 1) (ae (bw (qu hr.hd) (by rfl) T.nQ ko (ae (bU (aN.mk' (esc:=ah gC) (N:=["_law_feed_here","_law_base","_law_names_here"]) (own:=["_law_name"]) (aR:=["_law_feed_here","_law_base"]) (bS:=[0,1]) rfl rfl (by decide+kernel)) rfl (dH (pv 2)) (λ_ _ _ _=>(aF (i:=0) (show A4 (["_law_name","_law_feed_here","_law_base"]:List Str) by decide+kernel) rfl (Ab rfl))) (λ_ _ _ _=>bz) (λ_ _ _ _=>(bq (ae (pv 0) (ae (aq Ws SU rfl T.VZ T.V_ T.V0 .nil az (ae (pv 1) (ae (pv 2) ag))) ag))))) ag)) ag))))))),?_⟩
  have wz:(2 ^ 10:Nat)<2 ^ 1000:=Cw (by decide) (by decide)
  have big:(10000:Nat)<=sizeLine:=by decide
  have small:∀x:Nat,x<=1000->x<2 ^ 1000:=λx hx=>CL (show x<2 ^ 10 by omega) wz
  refine aU λY hY=>?_
  refine⟨_,rfl,F,L,3,rfl,hf,by decide,small _ (by decide),λr H1 r1 k1 f1=>⟨_,_,rfl,rfl,?_⟩⟩
  have eb:(2:Int)+(r:Int)=((2+r:Nat):Int):=by omega
  dsimp only[aD]
  subst hY
  rw[eb]
  generalize hbb:2+r=b
  have hb2:2<=b:=by omega
  have hb4:b<=4:=by omega
  refine aU λY hY=>?_
  refine⟨_,rfl,_,rfl,F,L,4,rfl,f1,by decide,small _ (by decide),λr' H2 r2 k2 f2=>⟨_,_,rfl,rfl,F,L,1+r',by rw[show((1+r':Nat):Int)=1+(r':Int) by omega];rfl,f2,by omega,λpl ss H3 hpl k3 f3 kg J7 Zh LK=>⟨pl,rfl,⟨_,.of kg⟩,λC hC=>?_⟩⟩⟩
  refine cR (xs:=ss.map V.str) (λi σ H'=>∃(us:List Str) (v:Option V),σ=[v]/\Same H3 H'/\H' C=some (.lst (us.map V.str))/\us.length=i)
   ⟨[],none,?sg,Same.new hC,af,rfl⟩ (by rintro i σ H' _ ⟨_,_,_,s',_⟩;exact .of (s' _ _ kg)) ?_ ?_
  case sg=>rfl
  ·rintro i x σ H4 hx ⟨us,v,rfl,s4,c4,lu⟩
   obtain⟨n,rfl,en'⟩:=iS hx
   have hi:=(AF.mp en').1
   obtain⟨l,wl,rfl⟩:=Zh.words n (AG en')
   refine⟨_,rfl,rfl,aY l,rfl,rfl,X0 wl.lt wl.le,_,c4,?_,us++[G8 (aY l)],_,rfl,s4.kbn hC KB.write,?_,by rw[AK,lu];rfl⟩
   ·rw[AA];omega
   ·rw[af,AI];rfl
  rintro σ H4 ⟨us,v,rfl,s4,c4,lu⟩
  rw[AA,J7] at lu
  have f4:=f3.same s4
  have kk:=((k1.trans k2).trans k3).trans s4.kb2
  have nC:=f3.jJ hC
  dsimp only[aD]
  subst hY
  refine⟨_,rfl,_,rfl,C,rfl,⟨_,.of c4⟩,λD hD=>?_⟩
  have nD:=f4.jJ hD
  refine gA (xs:=us.map V.str) (λi σ H'=>∃(ps:List Addr) (kvs:List (Key×V)) (v:Option V),σ=[v,some (.ref F),some (.int (b:Nat))]/\cy F L H4 H'/\bK H' F L/\H' D=some (.lst (ps.map V.ref))/\Bl (λ(p:Addr) (q:Key×V)=>H' p=some (.tup [kV q.1,q.2])) ps kvs/\kvs.length=i/\tZ b kvs H')
   ⟨[],[],none,?sg1,(Same.new hD).kb2,f4.same (Same.new hD),af,.nil,rfl,λq hq=>(by cases hq)⟩ (by rintro i σ H' _ ⟨_,_,_,_,k',_⟩;exact .of (k' _ _ c4 nC.1 nC.2)) ?_ ?_
  case sg1=>rfl
  ·rintro i x σ H5 hx ⟨ps,kvs,v,rfl,k5,f5,d5,pr,lk,rq⟩
   obtain⟨n,rfl,en'⟩:=iS hx
   have hi:=(AF.mp en').1
   refine⟨_,rfl,_,rfl,_,rfl,F,L,b,rfl,f5,hb2,hb4,λra sg mv n' H6 k6 f6 row len n0 n27 b_ _ nt=>⟨by show 2<=sizeLine;decide,λp hp=>?_⟩⟩
   have sp:=Same.new (o:=.tup [.str n,.ref ra]) hp
   have d7:=sp _ _ (k6 _ _ d5 nD.1 nD.2)
   have kt:bj H5 (upd H6 p (.tup [.str n,.ref ra])):=λb ys z=>sp _ _ (f5.ktu k6 _ _ z)
   have LX:bj (upd H6 p (.tup [.str n,.ref ra])) (upd (upd H6 p (.tup [.str n,.ref ra])) D (.lst (ps.map V.ref++[.ref p]))):=bj.lst d7
   have kA:bj H5 (upd (upd H6 p (.tup [.str n,.ref ra])) D (.lst (ps.map V.ref++[.ref p]))):=λb ys z=>LX _ _ (kt _ _ z)
   refine⟨_,d7,?_,ps++[p],kvs++[(Am n,.ref ra)],_,rfl,?_,?_,?_,?_,by rw[AK,lk];rfl,?_⟩
   ·rw[AA,Ag pr];omega
   ·exact cy.qO ((k5.trans k6).trans sp.kb2) hD
   ·exact(f6.same sp).upd nD
   ·rw[af,AI];rfl
   ·exact bO (Zg kA pr) (.cons (LX _ _ af) .nil)
   ·intro q hq
    rcases Ac.mp hq with z | z
    ·exact(rq.keep kA) q z
    ·exact⟨n,ra,n',sg,mv,AW.mp z,(⟨row,len,n0,n27,b_,nt⟩:wD b n' ra sg mv H6).keep λb ys z=>LX _ _ (sp _ _ z)⟩
  rintro σ H5 ⟨ps,kvs,v,rfl,k5,f5,d5,pr,lk,rq⟩
  rw[AA,lu] at lk
  refine⟨D,ps,kvs,rfl,d5,pr,by omega,λDw hDw=>⟨by show 2<=sizeLine;decide,λwo hwo=>?_⟩⟩
  have sd:=Same.new (o:=.dK (bL [] kvs)) hDw
  have sw:=Same.new (o:=.tup [.int (b:Nat),.ref Dw]) hwo
  have sA:=sd.trans sw
  have rqM:tZ b (bL [] kvs) H5:=λq hq=>by
   rcases vQ hq with z | z
   ·cases z
   ·exact rq q z
  obtain⟨ns,ens⟩:=IB (kvs:=bL [] kvs) λq hq=>by
   obtain⟨x,ra,n,sg,mv,e,_⟩:=rqM q hq
   exact⟨x,by rw[e]⟩
  have hle:=gY kvs []
  exact k wo Dw b (bL [] kvs) ns _ ((kk.trans k5).trans sA.kb2) (f5.same sA) hb2 hb4 ⟨af,sw _ _ af,ens,MQ (by omega),by rw[DD] at hle;omega,rqM.keep sA.kt⟩ (f5.jJ hDw)
structure Wd (b:Nat)(F L wo Dw:Addr)(kvs:List (Key×V))(ss:List Str)(rows:Str->Rw)(H:Hp):Prop where
 wo:H wo=some (.tup [.int b,.ref Dw])
 dw:H Dw=some (.dK kvs)
 ks:kvs.map (·.1)=ss.map Am
 pos:0<kvs.length
 le:kvs.length<=4
 nD:Dw≠F/\Dw≠L
 at':∀x∈ss,aZ kvs (Am x)=some (.ref (rows x).ra)
 ok:∀x∈ss,(rows x).Ok b H
 nt:∀x∈ss,(rows x).Nt
 few:∀x∈ss,(rows x).n<=27
theorem SQ.wd{b:Nat}{F L wo Dw:Addr}{kvs:List (Key×V)}{ss:List Str}{H:Hp}(h:SQ b wo Dw kvs ss H)(nD:Dw≠F/\Dw≠L):∃rows,Wd b F L wo Dw kvs ss rows H:=by
 have:∀x:Str,∃R:Rw,x∈ss->aZ kvs (Am x)=some (.ref R.ra)/\R.Ok b H/\R.Nt/\R.n<=27:=λx=>by
  by_cases hx:x∈ss
  ·obtain⟨qq,hq,hq1,hq2⟩:=VX (kvs:=kvs) (k:=Am x) (by
    have:(Am x:Key)∈kvs.map (·.1):=by rw[h.ks];exact AZ.mpr ⟨x,hx,rfl⟩
    obtain⟨q,h1,h2⟩:=AZ.mp this
    exact⟨q,h1,h2⟩)
   obtain⟨x',ra,n,sg,mv,eq,ro⟩:=h.rows qq hq
   subst eq
   exact⟨⟨n,ra,sg,mv⟩,λ_=>⟨hq2,⟨ro.row,ro.len,ro.pos,ro.b_⟩,ro.nt,ro.few⟩⟩
  ·exact⟨⟨0,0,[],[]⟩,λz=>absurd z hx⟩
 obtain⟨rows,hr⟩:=Classical.skolem.mp this
 exact⟨rows,h.wo,h.dw,h.ks,h.pos,h.le,nD,λx hx=>(hr x hx).1,λx hx=>(hr x hx).2.1,λx hx=>(hr x hx).2.2.1,λx hx=>(hr x hx).2.2.2⟩
section
variable{b:Nat}{F L wo Dw:Addr}{kvs:List (Key×V)}{ss:List Str}{rows:Str->Rw}{H H':Hp}
theorem Wd.kb2(h:Wd b F L wo Dw kvs ss rows H)(f:bK H F L)(k:cy F L H H'):Wd b F L wo Dw kvs ss rows H':=⟨f.ktu k _ _ h.wo,k _ _ h.dw h.nD.1 h.nD.2,h.ks,h.pos,h.le,h.nD,h.at',λx hx=>(h.ok x hx).keep (f.ktu k),h.nt,h.few⟩
theorem Wd.same(h:Wd b F L wo Dw kvs ss rows H)(s:Same H H'):Wd b F L wo Dw kvs ss rows H':=⟨s _ _ h.wo,s _ _ h.dw,h.ks,h.pos,h.le,h.nD,h.at',λx hx=>(h.ok x hx).keep s.kt,h.nt,h.few⟩
theorem Wd.kx{a:bh}(h:Wd b F L wo Dw kvs ss rows H)(k:KX a H H'):Wd b F L wo Dw kvs ss rows H':=⟨k.kt _ _ h.wo,k _ _ h.dw (λ_ y=>nomatch y),h.ks,h.pos,h.le,h.nD,h.at',λx hx=>(h.ok x hx).keep k.kt,h.nt,h.few⟩
end
inductive abA (vs:List V)(H:Hp)(Q:VK)(aJ:XK):Prop where
 | mk (b:Nat) (F L wo Dw:Addr) (kvs:List (Key×V)) (ss:List Str) (rows:Str->Rw) (x:Str) (z:Nat) (cG:vs=[.ref wo,.str x,.int z]) (cD:2<=b) (cE:b<=4) (dc:Wd b F L wo Dw kvs ss rows H) (dZ:x∈ss) (fU:Q (.int (dB b (rows x).sg (rows x).mv 0 z:Nat)) H)
def aeP:Sp:=λvs H Q aJ=>abA vs H Q aJ
theorem jO:aP ["_law_world_here","_law_name","_law_number","_law_signs","_law_moves","_law_room"] ["_law_world_here","_law_name","_law_number"] (ah kB):=⟨rfl,rfl,rfl,by decide+kernel,rfl,by decide+kernel,by decide+kernel⟩
set_option maxHeartbeats 16000000 in
theorem QB{a:bh}(T:Txt K mg a):aO P w K mg base aW 1 a.qK a.sx ["_law_world_here","_law_name","_law_number"] aeP:=by
 refine T.R_.ok jO (λvs H Q E h=>?_) (λcdv A outer s H vs Q E hr h=>?_)
 ·obtain⟨b,F,L,wo,Dw,kvs,ss,rows,x,z,rfl,_⟩:=h
  rfl
 ·obtain⟨b,F,L,wo,Dw,kvs,ss,rows,x,z,rfl,hb2,hb4,wd,hx,k⟩:=h
  refine⟨_,(aj (WM (cv (cf hr) (au (ao K) (pv 0) ai (λ_ _=>rfl)) (pv 1) (λ_ _=>rfl)) (vo rfl (bX (aF (i:=3) jO.nd rfl (Ab rfl)) (bX (aF (i:=4) jO.nd rfl (Ab rfl)) ib))))
  (aj (aw (i:=5) jO.nd rfl (Ab rfl) ai)
  (aj (iw Aw (aV oC (pv 2) ai (a_ _))
   (aj (aw (i:=5) jO.nd rfl (Ab rfl) (au (ao K) (au (ao K) (pv 4) (pv 5) (λ_ _=>rfl)) (aI cU (pv 2) (au (ao K) (pv 0) ai (λ_ _=>rfl))) (λ_ _=>rfl)))
   (av (aw (i:=2) jO.nd rfl (Ab rfl) (aI gK (pv 2) (au (ao K) (pv 0) ai (λ_ _=>rfl)))))))
  (av (aL (au (ao K) (pv 3) (pv 5) (λ_ _=>rfl))))))),?_⟩
  have lg:((b:Nat):Int).natAbs.log2<9000:=by
   rw[Cf]
   exact Ay (Dc b) (by omega)
  have ok:=wd.ok x hx
  have ex:=wd.at' x hx
  generalize rows x=R at ok ex k
  obtain⟨sa,ma,ps,e1,e2,e3,tp⟩:=ok.row
  refine aU λY hY=>?_
  refine⟨_,rfl,wo,_,_,.ref Dw,rfl,rfl,.of wd.wo,ak (j:=1) rfl,_,rfl,Dw,.ref R.ra,rfl,iV (.inl wd.dw) ex,R.ra,_,rfl,.of e1,rfl,_,_,rfl,_,_,rfl,rfl,?_⟩
  dsimp only
  subst hY
  dsimp only[qh,rQ,tC,aD]
  refine xg (λm σ H'=>∃r' c':Nat,c'=m/\σ=[some (.ref wo),some (.str x),some (.int (c':Nat)),some (.ref sa),some (.ref ma),some (.int (r':Nat))]/\H'=H/\r'<R.n/\run R.mv r' ((di b c').map E3)=run R.mv 0 ((di b z).map E3))
   ⟨_,0,z,rfl,rfl,rfl,ok.pos,rfl⟩ ?_ ?_
  ·rintro m σ H1 N hN ⟨r',c',rfl,rfl,rfl,hr1,e⟩
   refine⟨_,rfl,_,_,rfl,rfl,_,rfl,?_⟩
   by_cases hc:0<c'
   ·refine bJ (λ_=>?_) (λz=>absurd (decide_eq_true (show(0:Int)<(c':Int) by omega)) z)
    obtain⟨q1,q2,q3⟩:=ok.b_.row tp hr1
    have hm:c' % b<b:=CV _ (by omega)
    refine⟨_,rfl,_,rfl,ma,_,_,.ref (ps.getD r' 0),rfl,rfl,.of e3,ak (by rw[AU,q1];rfl),_,rfl,_,rfl,wo,_,_,.int (b:Nat),rfl,rfl,.of wd.wo,ak (j:=0) rfl,_,_,rfl,rfl,by show(0:Int)<_;omega,ps.getD r' 0,_,_,.int (stp R.mv r' (c' % b):Nat),rfl,?_,.of q2,ak (j:=c' % b) (eJ (by rw[q3];exact hm)),?_⟩
    ·show V.int ((c':Int) % (b:Int))=V.int ((c' % b:Nat):Int)
     rw[DY]
    dsimp only[aD]
    refine⟨_,rfl,_,rfl,wo,_,_,.int (b:Nat),rfl,rfl,.of wd.wo,ak (j:=0) rfl,_,_,rfl,rfl,⟨by omega,lg⟩,hN _ _ (c' / b) (Ew hc (by omega)) ⟨stp R.mv r' (c' % b),c' / b,rfl,?_,rfl,ok.b_.stp hr1 hm,?_⟩⟩
    ·rw[CG];rfl
    ·rw[<-e,jC hb2 hc,Aj]
     rfl
   ·refine bJ (λz=>absurd (of_decide_eq_true z) (show ¬(0:Int)<(c':Int) by omega)) (λ_=>?_)
    have hc0:c'=0:=by omega
    subst hc0
    rw[gG] at e
    have e':r'=run R.mv 0 ((di b z).map E3):=e
    refine⟨_,rfl,_,rfl,sa,_,_,.int (dB b R.sg R.mv 0 z:Nat),rfl,rfl,.of e2,ak ?_,k⟩
    unfold dB
    rw[<-e']
    exact eJ (by rw[ok.len];exact hr1)
  ·rintro σ H Q Q' h ⟨v,e1,i,j,e2,e3,b',e4,z⟩
   exact⟨v,e1,i,j,e2,e3,b',e4,h _ _ z⟩
def qW(H:Hp)(sy:Addr):ay->Prop
 | .same t u=>∃ta tb:Addr,H sy=some (.tup [.str "same",.ref ta,.ref tb])/\bp H ta t/\bp H tb u
 | .less t u=>∃ta tb:Addr,H sy=some (.tup [.str "less",.ref ta,.ref tb])/\bp H ta t/\bp H tb u
 | .sign x t sn=>∃ta:Addr,H sy=some (.tup [.str "sign",.str x,.ref ta,.int sn])/\bp H ta t
 | .alike x t y u=>∃ta tb:Addr,H sy=some (.tup [.str "alike",.str x,.ref ta,.str y,.ref tb])/\bp H ta t/\bp H tb u
 | _=>False
theorem qW.keep{H H':Hp}{sy:Addr}{f:ay}(h:qW H sy f)(k:bj H H'):qW H' sy f:=by
 cases f with
 | same t u=>obtain⟨ta,tb,e,h1,h2⟩:=h;exact⟨ta,tb,k _ _ e,h1.keep k,h2.keep k⟩
 | less t u=>obtain⟨ta,tb,e,h1,h2⟩:=h;exact⟨ta,tb,k _ _ e,h1.keep k,h2.keep k⟩
 | sign x t sn=>obtain⟨ta,e,h1⟩:=h;exact⟨ta,k _ _ e,h1.keep k⟩
 | alike x t y u=>obtain⟨ta,tb,e,h1,h2⟩:=h;exact⟨ta,tb,k _ _ e,h1.keep k,h2.keep k⟩
 | _=>exact h.elim
structure jh (pool:List Str)(t:Term):Prop where
 sm:jM t
 few:t.parts.length<=3
 sub:(t.parts.map (·.1)).Sublist pool
def Kl(pool ss:List Str):ay->Prop
 | .same t u=>jh pool t/\jh pool u
 | .less t u=>jh pool t/\jh pool u
 | .sign x t _=>x∈ss/\jh pool t
 | .alike x t y u=>x∈ss/\y∈ss/\jh pool t/\jh pool u
 | _=>False
def holds(b:Nat)(rows:Str->Rw)(v:Str->Int):ay->Bool
 | .same t u=>decide (V.int (bE t v)=V.int (bE u v))
 | .less t u=>decide (bE t v<bE u v)
 | .sign x t sn=>decide (V.int ((dB b (rows x).sg (rows x).mv 0 (bE t v).toNat:Nat):Int)=V.int sn)
 | .alike x t y u=>decide (V.int ((dB b (rows x).sg (rows x).mv 0 (bE t v).toNat:Nat):Int)=V.int ((dB b (rows y).sg (rows y).mv 0 (bE u v).toNat:Nat):Int))
 | _=>false
theorem vm{t:Term}(ht:jM t){v:Str->Int}(hv:∀n,0<=v n):0<=bE t v:=by
 have:∀{qs:List (Str×Int)},(∀q∈qs,1<=q.2/\q.2<=9)->0<=wsum v qs:=by
  intro qs
  induction qs with
  | nil=>intro _;exact B7 _
  | cons q qs ih=>
   intro h
   have h1:=ih λp hp=>h p (AJ _ hp)
   have h2:0<=v q.1*q.2:=DU (hv q.1) (by have:=h q AL;omega)
   show 0<=v q.1*q.2+wsum v qs
   omega
 have h1:=this ht.2.2
 have h2:=ht.1
 unfold bE
 omega
inductive abB (vs:List V)(H:Hp)(Q:VK)(aJ:XK):Prop where
 | mk (b:Nat) (F L wo Dw sy D:Addr) (kvs:List (Key×V)) (ss pool ks:List Str) (rows:Str->Rw) (f:ay) (v:Str->Int) (cG:vs=[.ref wo,.ref sy,.ref D]) (cD:2<=b) (cE:b<=4) (dc:Wd b F L wo Dw kvs ss rows H) (dZ:qW H sy f) (fU:Kl pool ss f) (iH:tH H D ks v) (j8:(∀n,0<=v n)) (mM:(∀n,f.Free n->n∈ks)) (rF:∀H',Same H H'->Q (.bl (holds b rows v f)) H')
def aeQ:Sp:=λvs H Q aJ=>abB vs H Q aJ
theorem tH.same{H H':Hp}{D:Addr}{ks:List Str}{v:Str->Int}(h:tH H D ks v)(s:Same H H'):tH H' D ks v:=by
 obtain⟨kvs,rd,hv⟩:=h
 refine⟨kvs,?_,hv⟩
 rcases rd with e | ⟨o,e⟩
 ·exact .inl (s _ _ e)
 ·exact .inr ⟨o,s _ _ e⟩
theorem L6:aP ["_law_world_here","_law_saying_here","_law_values","_law_sign_here"] ["_law_world_here","_law_saying_here","_law_values"] (ah pZ):=⟨rfl,rfl,rfl,by decide+kernel,rfl,by decide+kernel,by decide+kernel⟩
set_option maxHeartbeats 16000000 in
theorem Wu{a:bh}(T:Txt K mg a):aO P w K mg base aW 2 a.vR a.xj ["_law_world_here","_law_saying_here","_law_values"] aeQ:=by
 have fO:=wA (P:=P) (w:=w) (base:=base) T
 have Km:=QB (P:=P) (w:=w) (base:=base) T
 refine T.X2.ok L6 (λvs H Q E h=>?_) (λcdv A outer s H vs Q E hr h=>?_)
 ·obtain⟨b,F,L,wo,Dw,sy,D,kvs,ss,pool,ks,rows,f,v,rfl,_⟩:=h
  rfl
 ·obtain⟨b,F,L,wo,Dw,sy,D,kvs,ss,pool,ks,rows,f,v,rfl,hb2,hb4,wd,es,fo,hv,v0,fr,k⟩:=h
  have eK:aK 1 _:=hr
  have yS:aK 1 _:=hr
  refine⟨_,(aj (cq (aV dQ (au (ao K) (pv 1) ai (λ_ _=>rfl)) aX (a_ _))
   (av (aL (ic dQ (aq fO eK rfl T.gD T.gE T.gF .nil az (ae (au (ao K) (pv 1) ai (λ_ _=>rfl)) (ae (pv 2) ag))) (aq fO eK rfl T.gD T.gE T.gF .nil az (ae (au (ao K) (pv 1) ai (λ_ _=>rfl)) (ae (pv 2) ag))) (a_ _))))
   bG)
  (aj (cq (aV dQ (au (ao K) (pv 1) ai (λ_ _=>rfl)) aX (a_ _))
   (av (aL (ic Mj (aq fO eK rfl T.gD T.gE T.gF .nil az (ae (au (ao K) (pv 1) ai (λ_ _=>rfl)) (ae (pv 2) ag))) (aq fO eK rfl T.gD T.gE T.gF .nil az (ae (au (ao K) (pv 1) ai (λ_ _=>rfl)) (ae (pv 2) ag))) (a_ _))))
   bG)
  (aj (aw (i:=3) L6.nd rfl (Ab rfl) (aq Km yS rfl T.Jj T.Jk T.Jl .nil az (ae (pv 0) (ae (au (ao K) (pv 1) ai (λ_ _=>rfl)) (ae (aq fO eK rfl T.gD T.gE T.gF .nil az (ae (au (ao K) (pv 1) ai (λ_ _=>rfl)) (ae (pv 2) ag))) ag)))))
  (aj (cq (aV dQ (au (ao K) (pv 1) ai (λ_ _=>rfl)) aX (a_ _))
   (av (aL (ic dQ (pv 3) (au (ao K) (pv 1) ai (λ_ _=>rfl)) (a_ _))))
   bG)
  (av (aL (ic dQ (pv 3) (aq Km yS rfl T.Jj T.Jk T.Jl .nil az (ae (pv 0) (ae (au (ao K) (pv 1) ai (λ_ _=>rfl)) (ae (aq fO eK rfl T.gD T.gE T.gF .nil az (ae (au (ao K) (pv 1) ai (λ_ _=>rfl)) (ae (pv 2) ag))) ag)))) (a_ _)))))))),?_⟩
  cases f with
  | same t u=>
   obtain⟨ta,tb',es,et,eu⟩:=es
   refine⟨_,rfl,sy,_,_,.str "same",rfl,rfl,.of es,ak (j:=0) rfl,rfl,_,rfl,?_⟩
   refine bJ (λ_=>?_) (λz=>absurd (by decide) z)
   refine⟨_,rfl,sy,_,_,.ref ta,rfl,rfl,.of es,ak (j:=1) rfl,_,rfl,ta,D,t,ks,v,rfl,et,fo.1.sm,by have:=fo.1.few;omega,hv,λq hq=>fr _ (.inl (AZ.mpr ⟨q,hq,rfl⟩)),λH1 s1=>?_⟩
   refine⟨_,rfl,sy,_,_,.ref tb',rfl,rfl,.of (s1 _ _ es),ak (j:=2) rfl,_,rfl,tb',D,u,ks,v,rfl,eu.keep s1.kt,fo.2.sm,by have:=fo.2.few;omega,hv.same s1,λq hq=>fr _ (.inr (AZ.mpr ⟨q,hq,rfl⟩)),λH2 s2=>⟨rfl,k H2 (s1.trans s2)⟩⟩
  | less t u=>
   obtain⟨ta,tb',es,et,eu⟩:=es
   refine⟨_,rfl,sy,_,_,.str "less",rfl,rfl,.of es,ak (j:=0) rfl,rfl,_,rfl,?_⟩
   refine bJ (λz=>absurd z (by decide)) (λ_=>?_)
   refine⟨_,rfl,sy,_,_,.str "less",rfl,rfl,.of es,ak (j:=0) rfl,rfl,_,rfl,?_⟩
   refine bJ (λ_=>?_) (λz=>absurd (by decide) z)
   refine⟨_,rfl,sy,_,_,.ref ta,rfl,rfl,.of es,ak (j:=1) rfl,_,rfl,ta,D,t,ks,v,rfl,et,fo.1.sm,by have:=fo.1.few;omega,hv,λq hq=>fr _ (.inl (AZ.mpr ⟨q,hq,rfl⟩)),λH1 s1=>?_⟩
   refine⟨_,rfl,sy,_,_,.ref tb',rfl,rfl,.of (s1 _ _ es),ak (j:=2) rfl,_,rfl,tb',D,u,ks,v,rfl,eu.keep s1.kt,fo.2.sm,by have:=fo.2.few;omega,hv.same s1,λq hq=>fr _ (.inr (AZ.mpr ⟨q,hq,rfl⟩)),λH2 s2=>⟨_,_,rfl,rfl,k H2 (s1.trans s2)⟩⟩
  | sign x t sn=>
   obtain⟨ta,es,et⟩:=es
   have hw:=vm fo.2.sm v0
   refine⟨_,rfl,sy,_,_,.str "sign",rfl,rfl,.of es,ak (j:=0) rfl,rfl,_,rfl,?_⟩
   refine bJ (λz=>absurd z (by decide)) (λ_=>?_)
   refine⟨_,rfl,sy,_,_,.str "sign",rfl,rfl,.of es,ak (j:=0) rfl,rfl,_,rfl,?_⟩
   refine bJ (λz=>absurd z (by decide)) (λ_=>?_)
   refine⟨_,rfl,_,rfl,sy,_,_,.str x,rfl,rfl,.of es,ak (j:=1) rfl,_,rfl,sy,_,_,.ref ta,rfl,rfl,.of es,ak (j:=2) rfl,_,rfl,ta,D,t,ks,v,rfl,et,fo.2.sm,by have:=fo.2.few;omega,hv,λq hq=>fr _ (AZ.mpr ⟨q,hq,rfl⟩),λH1 s1=>?_⟩
   refine⟨b,F,L,wo,Dw,kvs,ss,rows,x,(bE t v).toNat,by rw[BH hw];rfl,hb2,hb4,wd.same s1,fo.1,?_⟩
   dsimp only[aD]
   refine⟨_,rfl,sy,_,_,.str "sign",rfl,rfl,.of (s1 _ _ es),ak (j:=0) rfl,rfl,_,rfl,?_⟩
   refine bJ (λ_=>?_) (λz=>absurd (by decide) z)
   exact⟨_,rfl,_,rfl,sy,_,_,.int sn,rfl,rfl,.of (s1 _ _ es),ak (j:=3) rfl,rfl,k H1 s1⟩
  | alike x t y u=>
   obtain⟨ta,tb',es,et,eu⟩:=es
   have hw:=vm fo.2.2.1.sm v0
   have hw':=vm fo.2.2.2.sm v0
   refine⟨_,rfl,sy,_,_,.str "alike",rfl,rfl,.of es,ak (j:=0) rfl,rfl,_,rfl,?_⟩
   refine bJ (λz=>absurd z (by decide)) (λ_=>?_)
   refine⟨_,rfl,sy,_,_,.str "alike",rfl,rfl,.of es,ak (j:=0) rfl,rfl,_,rfl,?_⟩
   refine bJ (λz=>absurd z (by decide)) (λ_=>?_)
   refine⟨_,rfl,_,rfl,sy,_,_,.str x,rfl,rfl,.of es,ak (j:=1) rfl,_,rfl,sy,_,_,.ref ta,rfl,rfl,.of es,ak (j:=2) rfl,_,rfl,ta,D,t,ks,v,rfl,et,fo.2.2.1.sm,by have:=fo.2.2.1.few;omega,hv,λq hq=>fr _ (.inl (AZ.mpr ⟨q,hq,rfl⟩)),λH1 s1=>?_⟩
   refine⟨b,F,L,wo,Dw,kvs,ss,rows,x,(bE t v).toNat,by rw[BH hw];rfl,hb2,hb4,wd.same s1,fo.1,?_⟩
   dsimp only[aD]
   refine⟨_,rfl,sy,_,_,.str "alike",rfl,rfl,.of (s1 _ _ es),ak (j:=0) rfl,rfl,_,rfl,?_⟩
   refine bJ (λz=>absurd z (by decide)) (λ_=>?_)
   refine⟨_,rfl,_,rfl,_,rfl,sy,_,_,.str y,rfl,rfl,.of (s1 _ _ es),ak (j:=3) rfl,_,rfl,sy,_,_,.ref tb',rfl,rfl,.of (s1 _ _ es),ak (j:=4) rfl,_,rfl,tb',D,u,ks,v,rfl,eu.keep s1.kt,fo.2.2.2.sm,by have:=fo.2.2.2.few;omega,hv.same s1,λq hq=>fr _ (.inr (AZ.mpr ⟨q,hq,rfl⟩)),λH2 s2=>?_⟩
   exact⟨b,F,L,wo,Dw,kvs,ss,rows,y,(bE u v).toNat,by rw[BH hw'];rfl,hb2,hb4,wd.same (s1.trans s2),fo.2.1,rfl,k H2 (s1.trans s2)⟩
  | _=>exact fo.elim
theorem QC{σ:St}{H:Hp}{Q:Option Int->Hp->Prop}(h:Q none H):mV σ H Q:=h
section
variable{K:AB}
theorem Zi:CN K (.type "int") (.type "tuple")=some false:=by rfl
theorem Zj:CN K (.type "str") (.type "tuple")=some false:=by rfl
theorem Zk:CN K (.type "str") (.type "str")=some true:=by rfl
theorem Zl:CN K (.type "tuple") (.type "str")=some false:=by rfl
theorem Zm:CN K (.type "bool") (.type "bool")=some true:=by rfl
end
def L7(H:Hp)(x:V)(ns:List Str):Prop:=((∃y,x=.str y)/\ns=[])∨((∃i,x=.int i)/\ns=[])∨∃ta t,x=.ref ta/\bp H ta t/\t.parts.length<=3/\ns=t.parts.map (·.1)
theorem Wv{H:Hp}{i:Nat}{x:V}:∀{xs:List V} {nss:List (List Str)},Bl (L7 H) xs nss->xs[i]? =some x->∃ns,nss[i]? =some ns/\L7 H x ns:=λp e=>dR p e
inductive abC (vs:List V)(H:Hp)(Q:VK)(aJ:XK):Prop where
 | mk (sy pl:Addr) (w0:V) (xs:List V) (nss:List (List Str)) (pool:List Str) (cG:vs=[.ref sy,.ref pl]) (cD:H sy=some (.tup (w0::xs))) (cE:Bl (L7 H) xs nss) (dc:xs.length<=4) (dZ:H pl=some (.tup (pool.map V.str))) (fU:pool.length<=3) (iH:∀(nm:Addr) (H':Hp),Same H H'->H' nm=some (.tup ((pool.filter λn=>decide (n∈nss.flatten)).map V.str))->Q (.ref nm) H')
def aeR:Sp:=λvs H Q aJ=>abC vs H Q aJ
theorem ju:aP ["_law_saying_here","_law_pool","_law_parts","_law_one"] ["_law_saying_here","_law_pool"] (ah dU):=⟨rfl,rfl,rfl,by decide+kernel,rfl,by decide+kernel,by decide+kernel⟩
set_option maxHeartbeats 16000000 in
theorem zu{a:bh}(T:Txt K mg a):aO P w K mg base aW 1 a.j4 a.lT ["_law_saying_here","_law_pool"] aeR:=by
 refine T.Jm.ok ju (λvs H Q E h=>?_) (λcdv A outer s H vs Q E hr h=>?_)
 ·obtain⟨sy,pl,w0,xs,nss,pool,rfl,_⟩:=h
  rfl
 ·obtain⟨sy,pl,w0,xs,nss,pool,rfl,es,pe,lx,kg,lp,k⟩:=h
  refine⟨_,(aj (aw (i:=2) ju.nd rfl (CT rfl) (df ag))
  (aj (cK Aw rfl (dF (iy (pU K) (pv 0) (ie ai) fu)) (aF (i:=3) ju.nd rfl (Ab rfl))
   (av (cq (qj (bo (rX K) (by rfl) T.nR lO (ae (pv 3) (ae (wL (v:=.ty "tuple") rfl T.eQ dI rfl) ag))) (λ_=>rfl))
    (av (aw (i:=2) ju.nd rfl (CT rfl) (aI W9 (pv 2) (bU (aN.mk' (esc:=ah dU) (N:=["_law_saying_here","_law_pool","_law_parts","_law_one"]) (own:=["_law_name","_law_many"]) (aR:=[]) (bS:=[]) rfl rfl (by decide+kernel)) rfl (dF (au (ao K) (pv 3) ai (λ_ _=>rfl))) (λ_ _ _ _=>(kr K (n:=2) rfl (bX (aF (i:=0) (show A4 (["_law_name","_law_many"]:List Str) by decide+kernel) rfl (Ab rfl)) (bX (aF (i:=1) (show A4 (["_law_name","_law_many"]:List Str) by decide+kernel) rfl (Ab rfl)) ib)))) (λ_ _ _ _=>bz) (λ_ _ _ _=>(pv 0))))))
    bG)))
  (av (aL (bw (cz K) (by rfl) T.eQ dI (ae (bU (aN.mk' (esc:=ah dU) (N:=["_law_saying_here","_law_pool","_law_parts","_law_one"]) (own:=["_law_name"]) (aR:=["_law_parts"]) (bS:=[2]) rfl rfl (by decide+kernel)) rfl (dF (pv 1)) (λ_ _ _ _=>(aF (i:=0) (show A4 (["_law_name","_law_parts"]:List Str) by decide+kernel) rfl (Ab rfl))) (λ_ _ _ _=>(qm (aV (pQ K) (pv 0) (pv 1) (by with_unfolding_all rfl)))) (λ_ _ _ _=>(pv 0))) ag)))))),?_⟩
  have big:(10000:Nat)<=sizeLine:=by decide
  have aeS:xs.length=nss.length:=Ag pe
  refine aU λY hY=>?_
  refine⟨by show 0<=sizeLine;decide,λP0 hP0=>?_⟩
  have s0:=Same.new (o:=.lst []) hP0
  dsimp only[aD]
  subst hY
  refine aU λY hY=>?_
  refine⟨_,rfl,1,rfl,QC (IC 1 (s0 _ _ es) λsl H1 s1 e1=>?_)⟩
  have e1':H1 sl=some (.tup xs):=e1
  have Zn:=s0.trans s1
  refine⟨sl,rfl,⟨_,.of e1'⟩,Iv (xs:=xs) (λi σ H'=>∃(Pl:Addr) (v3:Option V),σ=[some (.ref sy),some (.ref pl),some (.ref Pl),v3]/\Same H1 H'/\H' Pl=some (.lst ((nss.take i).flatten.map V.str))/\(nss.take i).flatten.length<=3*i)
   ⟨P0,none,rfl,.refl _,s1 _ _ af,AM _⟩ (by rintro i σ H' _ ⟨_,_,_,s',_⟩;exact .of (s' _ _ e1')) ?_ ?_⟩
  ·rintro i x σ H2 N hN hx ⟨Pl,v3,rfl,s2,c2,lc⟩
   have hi:=(AF.mp hx).1
   obtain⟨ns,hn,em⟩:=Wv pe hx
   have mN:(nss.take (i+1)).flatten=(nss.take i).flatten++ns:=by rw[take_snoc hn,HE];simp
   dsimp only[aD]
   rcases em with⟨⟨y,rfl⟩,rfl⟩ | ⟨⟨y,rfl⟩,rfl⟩ | ⟨ta,t,rfl,et,l3,rfl⟩
   ·refine⟨_,rfl,.str y,_,"tuple",false,rfl,.str y,Zj,false,rfl,lN ?_⟩
    exact hN _ _ ⟨Pl,_,rfl,s2,by rw[mN,A8];exact c2,by rw[mN,A8];omega⟩
   ·refine⟨_,rfl,.int y,_,"tuple",false,rfl,.int y,Zi,false,rfl,lN ?_⟩
    exact hN _ _ ⟨Pl,_,rfl,s2,by rw[mN,A8];exact c2,by rw[mN,A8];omega⟩
   ·have et2:=et.keep (Zn.trans s2).kt
    obtain⟨gp,tps,a1,a2,a3⟩:=et2
    have QD:tps.length=t.parts.length:=Ag a3
    refine⟨_,rfl,.ref ta,_,"tuple",true,rfl,.tup a1,Xg,true,rfl,?_⟩
    refine bJ (λ_=>?_) (λz=>absurd rfl z)
    refine⟨_,rfl,_,rfl,ta,_,_,.ref gp,rfl,rfl,.of a1,ak (j:=1) rfl,gp,rfl,⟨_,.of a2⟩,λC hC=>?_⟩
    refine cR (xs:=tps.map V.ref) (λj σ H'=>∃v1 v2:Option V,σ=[v1,v2]/\Same H2 H'/\H' C=some (.lst (((t.parts.take j).map (·.1)).map V.str)))
     ⟨none,none,?sg,Same.new hC,af⟩ (by rintro j σ H' _ ⟨_,_,_,s',_⟩;exact .of (s' _ _ a2)) ?_ ?_
    case sg=>rfl
    ·rintro j z σ H3 hz ⟨v1,v2,rfl,s3,c3⟩
     obtain⟨p,rfl,ep⟩:=kP hz
     have hj:=(AF.mp ep).1
     obtain⟨qq,hq,wB⟩:=dR a3 ep
     refine⟨p,_,rfl,.of (s3 _ _ wB),rfl,_,_,rfl,_,_,rfl,rfl,?_⟩
     refine⟨_,rfl,_,c3,?_,_,_,rfl,s3.kbn hC KB.write,?_⟩
     ·rw[AA,AA,Ao];omega
     ·rw[af,take_snoc hq,AI,AI];rfl
    rintro σ H3 ⟨v1,v2,rfl,s3,c3⟩
    rw[AA,QD,Ap] at c3
    refine⟨Pl,C,_,_,rfl,rfl,s3 _ _ c2,c3,by rw[AA,AA,AA];omega,λPn hPn=>?_⟩
    have sp:=Same.new (o:=.lst ((nss.take i).flatten.map V.str++(t.parts.map (·.1)).map V.str)) hPn
    dsimp only[aD]
    exact hN _ _ ⟨Pn,_,rfl,(s2.trans s3).trans sp,by rw[af,mN,AI],by rw[mN,AK,AA];omega⟩
  ·rintro σ H2 ⟨Pl,v3,rfl,s2,c2,lc⟩
   rw[aeS,Ap] at c2
   have Kn:=(Zn.trans s2) _ _ kg
   subst hY
   refine⟨_,rfl,pl,rfl,⟨_,.of Kn⟩,λC hC=>?_⟩
   refine cR (xs:=pool.map V.str) (λi σ H'=>∃v:Option V,σ=[v,some (.ref Pl)]/\Same H2 H'/\H' C=some (.lst (((pool.take i).filter λn=>decide (n∈nss.flatten)).map V.str)))
    ⟨none,?sg2,Same.new hC,af⟩ (by rintro i σ H' _ ⟨_,_,s',_⟩;exact .of (s' _ _ Kn)) ?_ ?_
   case sg2=>rfl
   ·rintro i x σ H3 hx ⟨v,rfl,s3,c3⟩
    obtain⟨n,rfl,en'⟩:=iS hx
    have hi:=(AF.mp en').1
    have ll:((pool.take i).filter λn=>decide (n∈nss.flatten)).length<=i:=by
     have:=DL (λn=>decide (n∈nss.flatten)) (pool.take i)
     rw[Ao] at this
     omega
    refine⟨_,rfl,_,rfl,Pl,_,rfl,.inl (.of (s3 _ _ c2)),rfl,LJ _,_,rfl,?_⟩
    rw[if_neg An,ku]
    have mN:((pool.take (i+1)).filter λn=>decide (n∈nss.flatten))=((pool.take i).filter λn=>decide (n∈nss.flatten))++(if decide (n∈nss.flatten)=true then [n] else []):=by
     rw[take_snoc en',FK,List.filter_cons,List.filter_nil]
    show if(decide (n∈nss.flatten))=true then _ else _
    by_cases hm:decide (n∈nss.flatten)=true
    ·rw[if_pos hm] at mN ⊢
     refine⟨_,rfl,_,c3,by rw[AA];omega,_,rfl,s3.kbn hC KB.write,?_⟩
     rw[af,mN,AI];rfl
    ·rw[if_neg hm] at mN ⊢
     rw[A8] at mN
     exact⟨_,rfl,s3,by rw[mN];exact c3⟩
   rintro σ H3 ⟨v,rfl,s3,c3⟩
   rw[AA,Ap] at c3
   refine⟨C,_,rfl,.inl ⟨.of c3,λnm hnm=>?_⟩⟩
   have sN:=Same.new (o:=.tup ((pool.filter λn=>decide (n∈nss.flatten)).map V.str)) hnm
   exact k nm _ (((Zn.trans s2).trans s3).trans sN) af
def ElK(H:Hp)(ss:List Str)(ws:List V)(i:Nat):Option (Str×Addr×Term)->Prop
 | none=>∃(p:Addr) (xs:List V),ws[i+1]? =some (.ref p)/\H p=some (.tup xs)
 | some (x,ta,t)=>ws[i+1]? =some (.str x)/\ws[i+2]? =some (.ref ta)/\bp H ta t/\x∈ss/\jM t/\t.parts.length<=3
def vn(rows:Str->Rw):Option (Str×Addr×Term)->Int
 | none=>1
 | some (x,_,t)=>((rows x).n:Int)*(1+cu t)
def kc(rows:Str->Rw):List (Option (Str×Addr×Term))->Int
 | []=>1
 | e::es=>vn rows e*kc rows es
theorem wF(rows:Str->Rw)(e:Option (Str×Addr×Term)):∀es,kc rows (es++[e])=kc rows es*vn rows e
 | []=>by show vn rows e*1=1*vn rows e;omega
 | d::es=>by show vn rows d*kc rows (es++[e])=vn rows d*kc rows es*vn rows e;rw[wF rows e es,Fl]
inductive abD (vs:List V)(H:Hp)(Q:VK)(aJ:XK):Prop where
 | mk (b:Nat) (F L wo Dw sy:Addr) (kvs:List (Key×V)) (ss:List Str) (rows:Str->Rw) (w0:Str) (ws:List V) (els:List (Option (Str×Addr×Term))) (cG:vs=[.ref wo,.ref sy]) (cD:Wd b F L wo Dw kvs ss rows H) (cE:H sy=some (.tup ws)) (dc:ws[0]? =some (.str w0)) (dZ:ws.length=els.length+2) (fU:els.length<=4) (iH:(∀i e,els[i]? =some e->ElK H ss ws i e)) (j8:(w0="sign"∨w0="alike")) (mM:∀H',Same H H'->Q (.int (kc rows els)) H')
def aeT:Sp:=λvs H Q aJ=>abD vs H Q aJ
theorem gy:aP ["_law_world_here","_law_saying_here","_law_rooms","_law_k","_law_term_here","_law_carried"] ["_law_world_here","_law_saying_here"] (ah fR):=⟨rfl,rfl,rfl,by decide+kernel,rfl,by decide+kernel,by decide+kernel⟩
set_option maxHeartbeats 16000000 in
theorem Ko{a:bh}(T:Txt K mg a):aO P w K mg base aW 1 a.k_ a.nE ["_law_world_here","_law_saying_here"] aeT:=by
 refine T.KQ.ok gy (λvs H Q E h=>?_) (λcdv A outer s H vs Q E hr h=>?_)
 ·obtain⟨b,F,L,wo,Dw,sy,kvs,ss,rows,w0,ws,els,rfl,_⟩:=h
  rfl
 ·obtain⟨b,F,L,wo,Dw,sy,kvs,ss,rows,w0,ws,els,rfl,wd,es,e0,lw,l4,hel,hw0,k⟩:=h
  refine⟨_,(aj (aw (i:=2) gy.nd rfl (Ab rfl) ai)
  (aj (cK Aw rfl (NM rfl T.eP (ae ai (ae (aI ix (bo (cx K) (by rfl) T.gT fb (ae (pv 1) ag)) ai) ag))) (aF (i:=3) gy.nd rfl (Ab rfl))
   (av (cq (qj (bo (rX K) (by rfl) T.nR lO (ae (au (ao K) (pv 1) (pv 3) (λ_ _=>rfl)) (ae (wL (v:=.ty "str") rfl T.abr Xj rfl) ag))) (λ_=>rfl))
    (aj (aw (i:=4) gy.nd rfl (Ab rfl) (au (ao K) (pv 1) (aI de (pv 3) ai) (λ_ _=>rfl)))
    (aj (aw (i:=5) gy.nd rfl (Ab rfl) (bo (xQ rfl) (by rfl) T.T4 N9 (ae (au (ao K) (pv 4) ai (λ_ _=>rfl)) (ae (bo (oG K) (by rfl) T.zD vK (ae (bU (aN.mk' (esc:=ah fR) (N:=["_law_world_here","_law_saying_here","_law_rooms","_law_k","_law_term_here","_law_carried"]) (own:=["_law_name","_law_many"]) (aR:=[]) (bS:=[]) rfl rfl (by decide+kernel)) rfl (dF (au (ao K) (pv 4) ai (λ_ _=>rfl))) (λ_ _ _ _=>(kr K (n:=2) rfl (bX (aF (i:=0) (show A4 (["_law_name","_law_many"]:List Str) by decide+kernel) rfl (Ab rfl)) (bX (aF (i:=1) (show A4 (["_law_name","_law_many"]:List Str) by decide+kernel) rfl (Ab rfl)) ib)))) (λ_ _ _ _=>bz) (λ_ _ _ _=>(pv 1))) ag)) ag))))
    (av (aw (i:=2) gy.nd rfl (Ab rfl) (aI fZ (aI fZ (pv 2) (bo (cx K) (by rfl) T.gT fb (ae (au (ao K) (cv (cf hr) (au (ao K) (pv 0) ai (λ_ _=>rfl)) (au (ao K) (pv 1) (pv 3) (λ_ _=>rfl)) (λ_ _=>rfl)) ai (λ_ _=>rfl)) ag))) (aI de ai (pv 5)))))))
    bG)))
  (av (aL (aI fZ (pv 2) (bw NR (by rfl) T.abt Xi (ae (ic (pQ K) (au (ao K) (pv 1) ai (λ_ _=>rfl)) (bq (ae aX (ae aX ag))) (by with_unfolding_all rfl)) ag))))))),?_⟩
  have big:(10000:Nat)<=sizeLine:=by decide
  refine aU λY hY=>?_
  dsimp only[rQ,tC,aD]
  subst hY
  refine aU λY hY=>?_
  refine⟨_,rfl,.ref sy,ws.length,rfl,.inr ⟨_,.of es,rfl⟩,_,_,rfl,rfl,1,_,rfl,⟨by decide,by decide,by omega,by omega⟩,?_⟩
  rw[show((ws.length:Int)-1-1).toNat=els.length by omega]
  refine mR (lo:=1) (n:=els.length) (λi σ H'=>∃v3 v4 v5:Option V,σ=[some (.ref wo),some (.ref sy),some (.int (kc rows (els.take i))),v3,v4,v5]/\Same H H')
   ⟨none,none,none,rfl,.refl _⟩ ?_ ?_
  ·rintro i σ H1 N hN hi ⟨v3,v4,v5,rfl,s1⟩
   obtain⟨e,he⟩:∃e,els[i]? =some e:=⟨_,As hi⟩
   have hk:=hel i e he
   have ek:(1:Int)+(i:Int)=((i+1:Nat):Int):=by omega
   have mN:=wF rows e (els.take i)
   rw[<-take_snoc he] at mN
   dsimp only[aD]
   rw[ek]
   match e,hk with
   | none,⟨p,xs,h1,h2⟩=>
    refine⟨_,rfl,_,rfl,sy,_,_,.ref p,rfl,rfl,.of (s1 _ _ es),ak h1,.ref p,_,"str",false,rfl,.tup (s1 _ _ h2),Zl,false,rfl,lN ?_⟩
    refine hN _ _ ⟨some (.int ((i+1:Nat):Int)),v4,v5,?_,s1⟩
    rw[mN]
    show _=[_,_,some (V.int (kc rows (els.take i)*1)),_,_,_]
    rw[Gq]
    rfl
   | some (x,ta,t),⟨h1,h2,et,hx,sm,l3⟩=>
    have wd1:=wd.same s1
    have et1:=et.keep s1.kt
    obtain⟨gp,tps,a1,a2,a3⟩:=et1
    have QD:tps.length=t.parts.length:=Ag a3
    refine⟨_,rfl,_,rfl,sy,_,_,.str x,rfl,rfl,.of (s1 _ _ es),ak h1,.str x,_,"str",true,rfl,.str x,Zk,true,rfl,?_⟩
    refine bJ (λ_=>?_) (λz=>absurd rfl z)
    refine aU λZ hZ=>?_
    refine⟨_,rfl,_,rfl,_,_,rfl,rfl,sy,_,_,.ref ta,rfl,rfl,.of (s1 _ _ es),?_,?_⟩
    ·rw[show(((i+1:Nat):Int)+1)=((i+2:Nat):Int) by omega];exact ak h2
    dsimp only[aD]
    subst hZ
    refine aU λZ hZ=>?_
    refine⟨_,rfl,ta,_,_,.int t.num,rfl,rfl,.of a1,ak (j:=0) rfl,_,rfl,ta,_,_,.ref gp,rfl,rfl,.of a1,ak (j:=1) rfl,gp,rfl,⟨_,.of a2⟩,λC hC=>?_⟩
    refine cR (xs:=tps.map V.ref) (λj σ H'=>∃v1 v2:Option V,σ=[v1,v2]/\Same H1 H'/\H' C=some (.lst (((t.parts.take j).map (·.2)).map V.int)))
     ⟨none,none,?sg,Same.new hC,af⟩ (by rintro j σ H' _ ⟨_,_,_,s',_⟩;exact .of (s' _ _ a2)) ?_ ?_
    case sg=>rfl
    ·rintro j z σ H3 hz ⟨v1,v2,rfl,s3,c3⟩
     obtain⟨p,rfl,ep⟩:=kP hz
     have hj:=(AF.mp ep).1
     obtain⟨qq,hq,wB⟩:=dR a3 ep
     refine⟨p,_,rfl,.of (s3 _ _ wB),rfl,_,_,rfl,_,_,rfl,rfl,?_⟩
     refine⟨_,rfl,_,c3,?_,_,_,rfl,s3.kbn hC KB.write,?_⟩
     ·rw[AA,AA,Ao];omega
     ·rw[af,take_snoc hq,AI,AI];rfl
    rintro σ H3 ⟨v1,v2,rfl,s3,c3⟩
    rw[AA,QD,Ap] at c3
    refine⟨C,_,rfl,.of c3,_,_,rfl,?_⟩
    have aeU:(if(t.parts.map (·.2)).sum>t.num then(t.parts.map (·.2)).sum else t.num)=cu t:=by unfold cu;split<;>omega
    rw[aeU]
    have o5:=wd1.same s3
    have ok:=o5.ok x hx
    have ex:=o5.at' x hx
    have fw:=o5.few x hx
    obtain⟨sa',ma',amJ,r1,r2,r3,r4⟩:=ok.row
    have cb:0<=cu t/\cu t<=200:=by
     have h1:=sm.1
     have h2:=sm.2.1
     have h3:∀{qs:List (Str×Int)},(∀q∈qs,1<=q.2/\q.2<=9)->(qs.map (·.2)).sum<=9*(qs.length:Int):=by
      intro qs
      induction qs with
      | nil=>intro _;exact B7 _
      | cons q qs ih=>
       intro h
       have:=ih λp hp=>h p (AJ _ hp)
       have:=h q AL
       rw[Aj,By,A2]
       omega
     have h4:=h3 sm.2.2
     unfold cu
     omega
    dsimp only[aD]
    subst hZ
    refine⟨_,rfl,_,rfl,wo,_,_,.ref Dw,rfl,rfl,.of o5.wo,ak (j:=1) rfl,_,rfl,_,rfl,sy,_,_,.str x,rfl,rfl,.of (s3 _ _ (s1 _ _ es)),ak h1,Dw,.ref (rows x).ra,rfl,iV (.inl o5.dw) ex,(rows x).ra,_,_,.ref sa',rfl,rfl,.of r1,ak (j:=0) rfl,.ref sa',(rows x).n,rfl,.inr ⟨_,.of r2,by rw[AA,cj,ok.len]⟩,_,_,rfl,rfl,.inr ⟨by omega,by omega⟩,_,rfl,_,_,rfl,rfl,_,_,rfl,rfl,.inr ⟨by omega,by omega⟩,?_⟩
    refine hN _ _ ⟨some (.int ((i+1:Nat):Int)),some (.ref ta),some (.int (cu t)),?_,s1.trans s3⟩
    rw[mN]
    show _=[_,_,some (V.int (kc rows (els.take i)*(((rows x).n:Int)*(1+cu t)))),_,_,_]
    rw[<-Fl]
    rfl
  ·rintro σ H1 ⟨v3,v4,v5,rfl,s1⟩
   rw[Ap]
   subst hY
   have a0:mK ws (0:Int)=some (.str w0):=ak (j:=0) e0
   refine⟨_,rfl,_,rfl,sy,_,_,.str w0,rfl,rfl,.of (s1 _ _ es),a0,by show 2<=sizeLine;decide,λZ hZ=>⟨Z,_,rfl,.inr (.of af),rfl,rfl,.inr ⟨true,?_,_,_,rfl,rfl,.inr ⟨by decide,by decide⟩,?_⟩⟩⟩
   ·rw[if_neg An,show([V.str "sign",V.str "alike"]:List V)=(["sign","alike"]:List Str).map V.str from rfl,ku]
    rw[decide_eq_true (by rcases hw0 with z | z<;>rw[z]<;>simp)]
   ·show Q (.int (kc rows els*1)) _
    rw[Gq]
    exact k _ (s1.trans (Same.new hZ))
theorem SV{x m B:Int}(h:x.natAbs<=126*B.natAbs)(hB:1<=B){c:Int}(hc:0<=c/\c<=B):0<=(if(c-x.fdiv m)>0 then(c-x.fdiv m) else 0)/\(if(c-x.fdiv m)>0 then(c-x.fdiv m) else 0)<=128*B:=by
 have h1:=Int.natAbs_fdiv_le_natAbs x m
 split<;>omega
inductive Ww (vs:List V)(H:Hp)(Q:VK)(aJ:XK):Prop where
 | mk (F L ta tb D:Addr) (t u:Term) (ks:List Str) (v:Str->Int) (cG:vs=[.ref F,.ref ta,.ref tb,.ref D]) (cD:bK H F L) (cE:bp H ta t) (dc:bp H tb u) (dZ:jM t) (fU:jM u) (iH:t.parts.length<=3) (j8:u.parts.length<=3) (mM:(∀q∈t.parts,q.1∈ks)) (rF:(∀q∈u.parts,q.1∈ks)) (sX:H D=some (.dK (dj v ks))) (Jx:D≠F) (M0:ks.length<=3) (R9:(∀n,0<=v n/\v n<=10 ^ 60)) (R':∀(o:Obj) (Dn:Addr) (v':Str->Int) (H':Hp),(∀b o,H b=some o->b≠F->b≠L->b≠D->H' b=some o)->bK H' F L->H' D=some (.eZ o (.dK (dj v ks)))->H Dn=none->H' Dn=some (.dK (dj v' ks))->(∀n,0<=v' n/\v' n<=128 ^ 3*10 ^ 60)->Q (.ref Dn) H')
def Zo:Sp:=λvs H Q aJ=>Ww vs H Q aJ
theorem lL:aP ["_law_feed_here","_law_one","_law_other","_law_values","_law_found","_law_name","_law_many","_law_apart"] ["_law_feed_here","_law_one","_law_other","_law_values"] (ah kD):=⟨rfl,rfl,rfl,by decide+kernel,rfl,by decide+kernel,by decide+kernel⟩
set_option maxHeartbeats 16000000 in
theorem QE{a:bh}(T:Txt K mg a):aO P w K mg base aW 2 a.qL a.sG ["_law_feed_here","_law_one","_law_other","_law_values"] Zo:=by
 have fO:=wA (P:=P) (w:=w) (base:=base) T
 refine T.R0.ok lL (λvs H Q E h=>?_) (λcdv A outer s H vs Q E hr h=>?_)
 ·obtain⟨F,L,ta,tb',D,t,u,ks,v,rfl,_⟩:=h
  rfl
 ·obtain⟨F,L,ta,tb',D,t,u,ks,v,rfl,hf,et,eu,st,su,lt,lu,ot,ou,eD,nDF,lk,hv,k⟩:=h
  have eK:aK 1 _:=hr
  refine⟨_,(aj (aw (i:=4) lL.nd rfl (Ab rfl) (bw Mz (by rfl) T.nQ ko (ae (pv 3) ag)))
  (aj (cK Aw rfl (Ri (pv 3)) (aF (i:=5) lL.nd rfl (Ab rfl))
   (aj (aw (i:=6) lL.nd rfl (Ab rfl) (aI ix (uD (cf hr) (bw (qy hr.hd) (by rfl) T.nQ ko (ae (au (ao K) (pv 1) ai (λ_ _=>rfl)) ag)) (pv 5) ai ⟨rfl,rfl,rfl,rfl⟩) (uD (cf hr) (bw (qy hr.hd) (by rfl) T.nQ ko (ae (au (ao K) (pv 2) ai (λ_ _=>rfl)) ag)) (pv 5) ai ⟨rfl,rfl,rfl,rfl⟩)))
   (aj (aw (i:=7) lL.nd rfl (Ab rfl) (aI ix (aq fO eK rfl T.gD T.gE T.gF .nil az (ae (pv 1) (ae (pv 4) ag))) (aq fO eK rfl T.gD T.gE T.gF .nil az (ae (pv 2) (ae (pv 4) ag)))))
   (av (cq (aV vw (pv 6) ai (a_ _))
    (av (pN (cf hr) (pv 4) (pv 5) (bo (xQ rfl) (by rfl) T.T4 N9 (ae ai (ae (aI ix (cv (cf hr) (pv 4) (pv 5) (λ_ _=>rfl)) (aI SK (pv 7) (pv 6))) ag))) rfl))
    bG)))))
  (av (aL (pv 4))))),?_⟩
  have big:(10000:Nat)<=sizeLine:=by decide
  obtain⟨fms,fn,fsd,fe1,Zp,_⟩:=hf.ex
  have nDL:D≠L:=λz=>by rw[z,Zp] at eD;cases eD
  refine aU λY hY=>?_
  refine⟨_,rfl,D,_,rfl,.inl eD,λDn wG=>?_⟩
  have sN:=Same.new (o:=.dK (dj v ks)) wG
  have nND:Dn≠D:=(aA eD wG).symm
  have nN:=hf.jJ wG
  dsimp only[aD]
  subst hY
  refine aU λY hY=>?_
  refine⟨_,rfl,D,_,rfl,sN _ _ eD,λo=>OC (kvs:=dj v ks) (λi σ H'=>∃(v':Str->Int) (x5 x6 x7:Option V),σ=[some (.ref F),some (.ref ta),some (.ref tb'),some (.ref D),some (.ref Dn),x5,x6,x7]/\(∀b o,H b=some o->b≠F->b≠L->b≠D->H' b=some o)/\bK H' F L/\H' D=some (.eZ o (.dK (dj v ks)))/\H' Dn=some (.dK (dj v' ks))/\∀n,0<=v' n/\v' n<=128 ^ i*10 ^ 60)
   ⟨v,none,none,none,rfl,λb o e _ _ nb=>by rw[aB nb];exact sN _ _ e,(hf.same sN).upd ⟨nDF,nDL⟩,af,by rw[aB nND];exact af,λn=>by have:=hv n;omega⟩ (λi σ H' _ ⟨_,_,_,_,_,_,_,e,_⟩=>e) ?_ ?_⟩
  ·rintro i kk vv σ H1 N hN hk ⟨v',x5,x6,x7,rfl,kp,f1,Zq,wc,hv1⟩
   have UD:bj H H1:=λb xs e=>kp b _ e (fE e fe1 (λz=>nomatch z)) (fE e Zp (λz=>nomatch z)) (fE e eD (λz=>nomatch z))
   obtain⟨n,hn,en⟩:∃n∈ks,(Am n,V.int (v n))=(kk,vv):=AZ.mp (AG hk)
   cases en
   have hik:i<3:=by
    have:=(AF.mp hk).1
    rw[show(dj v ks).length=ks.length from AA _] at this
    omega
   dsimp only[aD]
   refine aU λY2 tG=>?_
   obtain⟨b1,ps1,a1,a2,a3⟩:=UC (et.keep UD)
   refine⟨_,rfl,ta,_,_,.ref b1,rfl,rfl,.of a1,ak (j:=1) rfl,b1,ps1,_,rfl,a2,a3,by rw[AA];omega,λD1 hD1=>?_⟩
   have wH:=Same.new (o:=.dK (bL [] (t.parts.map gV))) hD1
   refine⟨D1,rfl,.inl ⟨_,.inl af⟩,_,rfl,_,.inl ⟨_,Am n,.inl af,rfl,rfl⟩,?_⟩
   rw[t.JN n]
   obtain⟨b2,ps2,g1,g2,g3⟩:=UC ((eu.keep UD).keep wH.kt)
   refine⟨_,rfl,tb',_,_,.ref b2,rfl,rfl,.of g1,ak (j:=1) rfl,b2,ps2,_,rfl,g2,g3,by rw[AA];omega,λD2 hD2=>?_⟩
   have sD2:=Same.new (o:=.dK (bL [] (u.parts.map gV))) hD2
   refine⟨D2,rfl,.inl ⟨_,.inl af⟩,_,rfl,_,.inl ⟨_,Am n,.inl af,rfl,rfl⟩,?_⟩
   rw[u.JN n]
   have s12:=wH.trans sD2
   generalize upd (upd H1 D1 (.dK (bL [] (t.parts.map gV)))) D2 (.dK (bL [] (u.parts.map gV)))=H2 at s12 ⊢
   refine⟨_,_,rfl,rfl,?_⟩
   dsimp only[aD]
   subst tG
   refine aU λY2 tG=>?_
   have wg:=s12 _ _ wc
   refine⟨_,rfl,_,rfl,ta,Dn,t,ks,v',rfl,(et.keep UD).keep s12.kt,st,by omega,⟨_,.inl wg,λm hm=>qg hm⟩,ot,λH3 s3=>⟨_,rfl,_,rfl,tb',Dn,u,ks,v',rfl,(eu.keep UD).keep (s12.trans s3).kt,su,by omega,⟨_,.inl (s3 _ _ wg),λm hm=>qg hm⟩,ou,λH4 s4=>⟨_,_,rfl,rfl,?_⟩⟩⟩
   have QF:=s12.trans (s3.trans s4)
   have f4:=f1.same QF
   have LW:=QF _ _ Zq
   have Zr:=QF _ _ wc
   have kp4:∀b o,H b=some o->b≠F->b≠L->b≠D->H4 b=some o:=λb o e n1 n2 n3=>QF _ _ (kp b o e n1 n2 n3)
   clear s12 s3 s4 QF wH sD2 a1 a2 a3 g1 g2 g3
   have B1:(1:Int)<=128 ^ i*10 ^ 60:=by
    have:i=0∨i=1∨i=2:=by omega
    rcases this with z | z | z<;>subst z<;>decide
   have nx:∀m,0<=v' m/\v' m<=128 ^ (i+1)*10 ^ 60:=λm=>by
    have:=hv1 m
    rw[Int.pow_succ]
    omega
   have hwt:=Kf st lt B1 hv1
   have hwu:=Kf su lu B1 hv1
   dsimp only[aD]
   subst tG
   refine⟨_,rfl,rfl,_,rfl,?_⟩
   refine bJ (λz=>?_) (λ_=>hN _ _ ⟨v',_,_,_,rfl,kp4,f4,LW,Zr,nx⟩)
   have hm0:t.at n-u.at n≠0:=λe=>by rw[e] at z;simp at z
   have hmb:(t.at n-u.at n).natAbs.log2<9000:=by
    have h1:=iL n t.parts 0 st.2.2 (by omega) (by omega)
    have h2:=iL n u.parts 0 su.2.2 (by omega) (by omega)
    refine Ay (Dc _) ?_
    show(bH n t.parts 0-bH n u.parts 0).natAbs<9000
    omega
   refine⟨_,rfl,_,rfl,Dn,.int (v' n),rfl,.inl ⟨_,Am n,.inl Zr,rfl,(qg hn).symm⟩,_,rfl,_,rfl,_,_,rfl,rfl,⟨hm0,hmb⟩,_,_,rfl,rfl,_,_,rfl,_,rfl,_,rfl,Dn,_,rfl,.inl ⟨_,Am n,Zr,rfl,by rw[show(dj v' ks).length=ks.length from AA _];omega,rfl⟩,?_⟩
   rw[Wo hn]
   refine hN _ _ ⟨_,_,_,_,rfl,λb o e n1 n2 n3=>?_,f4.upd nN,by rw[aB nND.symm];exact LW,af,λm=>?_⟩
   ·rw[aB (aA e wG)];exact kp4 b o e n1 n2 n3
   ·by_cases e:m=n
    ·rw[if_pos e,Int.pow_succ]
     have:=SV (x:=bE t v'-bE u v') (m:=t.at n-u.at n) (B:=128 ^ i*10 ^ 60) (by omega) B1 (hv1 n)
     omega
    ·rw[if_neg e];exact nx m
  ·rintro σ H1 ⟨v',x5,x6,x7,rfl,kp,f1,Zq,wc,hv1⟩
   subst hY
   refine⟨_,rfl,k o Dn v' H1 kp f1 Zq wG wc λn=>?_⟩
   have l:(dj v ks).length=ks.length:=AA _
   rw[l] at hv1
   have h:=hv1 n
   have:ks.length=0∨ks.length=1∨ks.length=2∨ks.length=3:=by omega
   rcases this with z | z | z | z<;>rw[z] at h<;>omega
theorem SW(t:Term):jM ⟨t.num % 5,t.parts.map λq=>(q.1,1+q.2 % 2)⟩:=by
 have m5:0<=t.num % 5/\t.num % 5<5:=⟨Cp _ (by decide),CF _ (by decide)⟩
 refine⟨m5.1,by show t.num % 5<=99;omega,λq hq=>?_⟩
 obtain⟨q',_,rfl⟩:=AZ.mp hq
 have m2:0<=q'.2 % 2/\q'.2 % 2<2:=⟨Cp _ (by decide),CF _ (by decide)⟩
 exact⟨by show 1<=1+q'.2 % 2;omega,by show 1+q'.2 % 2<=9;omega⟩
theorem jh.light{pool:List Str}{t:Term}(h:jh pool t):jh pool ⟨t.num % 5,t.parts.map λq=>(q.1,1+q.2 % 2)⟩:=
 ⟨SW t,by show(t.parts.map _).length<=3;rw[AA];exact h.few,by show((t.parts.map _).map _).Sublist pool;rw[BL];exact h.sub⟩
inductive QG (vs:List V)(H:Hp)(Q:VK)(aJ:XK):Prop where
 | mk (b:Nat) (F L wo Dw pl:Addr) (kvs:List (Key×V)) (ss pool:List Str) (rows:Str->Rw) (cG:vs=[.ref F,.ref wo,.ref pl]) (cD:bK H F L) (cE:Wd b F L wo Dw kvs ss rows H) (dc:H pl=some (.tup (pool.map V.str))) (dZ:pool.length<=3) (fU:∀(sy:Addr) (f:ay) (H':Hp),cy F L H H'->bK H' F L->qW H' sy f->Kl pool ss f->Q (.ref sy) H')
def SX:Sp:=λvs H Q aJ=>QG vs H Q aJ
theorem dS:aP ["_law_feed_here","_law_world_here","_law_pool","_law_form","_law_one","_law_other","_law_some","_law_name","_law_signs"] ["_law_feed_here","_law_world_here","_law_pool"] (ah fH):=⟨rfl,rfl,rfl,by decide+kernel,rfl,by decide+kernel,by decide+kernel⟩
set_option maxHeartbeats 32000000 in
theorem K3{a:bh}(T:Txt K mg a):aO P w K mg base aW 3 a.mT a.ph ["_law_feed_here","_law_world_here","_law_pool"] SX:=by
 have bb:=iG (P:=P) (w:=w) (base:=base) T
 have Kp:=Qq (P:=P) (w:=w) (base:=base) T
 refine T.MU.ok dS (λvs H Q E h=>?_) (λcdv A outer s H vs Q E hr h=>?_)
 ·obtain⟨b,F,L,wo,Dw,pl,kvs,ss,pool,rows,rfl,_⟩:=h
  rfl
 ·obtain⟨b,F,L,wo,Dw,pl,kvs,ss,pool,rows,rfl,f0,wd0,kg,Kq,k⟩:=h
  have aS:aK 1 _:=hr.mono (by decide)
  have yT:aK 2 _:=hr
  refine⟨_,(aj (aw (i:=3) dS.nd rfl (Ab rfl) (aq bb aS rfl T.bB T.bC T.bD .nil az (ae (pv 0) (ae ai ag))))
  (aj (aw (i:=4) dS.nd rfl (Ab rfl) (aq Kp yT rfl T.Jg T.Jh T.Ji .nil az (ae (pv 0) (ae (pv 2) ag))))
  (aj (aw (i:=5) dS.nd rfl (Ab rfl) (aq Kp yT rfl T.Jg T.Jh T.Ji .nil az (ae (pv 0) (ae (pv 2) ag))))
  (aj (cq (aV Mj (pv 3) ai (a_ _))
   (av (aL (bq (ae (au (cS K) (df (ae aX (ae aX ag))) (pv 3) (λ_ _=>rfl)) (ae (pv 4) (ae (pv 5) ag))))))
   bG)
  (aj (aw (i:=6) dS.nd rfl (Ab rfl) (bo (Mx rfl) (by rfl) T.uW rW (ae (au (ao K) (pv 1) ai (λ_ _=>rfl)) ag)))
  (aj (aw (i:=7) dS.nd rfl (Ab rfl) (au (cS K) (pv 6) (aq bb aS rfl T.bB T.bC T.bD .nil az (ae (pv 0) (ae (bo (cx K) (by rfl) T.gT fb (ae (pv 6) ag)) ag))) (λ_ _=>rfl)))
  (aj (cq (aV dQ (pv 3) ai (a_ _))
   (aj (aw (i:=8) dS.nd rfl (Ab rfl) (aI (Lx K) (au (ao K) (cv (cf hr) (au (ao K) (pv 1) ai (λ_ _=>rfl)) (pv 7) (λ_ _=>rfl)) ai (λ_ _=>rfl)) (bq (ae (aq bb aS rfl T.bB T.bC T.bD .nil az (ae (pv 0) (ae ai ag))) ag))))
   (av (aL (bq (ae aX (ae (pv 7) (ae (pv 4) (ae (au (ao K) (pv 8) (aq bb aS rfl T.bB T.bC T.bD .nil az (ae (pv 0) (ae (bo (cx K) (by rfl) T.gT fb (ae (pv 8) ag)) ag))) (λ_ _=>rfl)) ag))))))))
   bG)
  (aj (cq (aV oC (aq bb aS rfl T.bB T.bC T.bD .nil az (ae (pv 0) (ae ai ag))) ai (a_ _))
   (aj (aw (i:=4) dS.nd rfl (Ab rfl) (bq (ae (aI cU (au (ao K) (pv 4) ai (λ_ _=>rfl)) ai) (ae (bw (cz K) (by rfl) T.eQ dI (ae (bU (aN.mk' (esc:=ah fH) (N:=["_law_feed_here","_law_world_here","_law_pool","_law_form","_law_one","_law_other","_law_some","_law_name","_law_signs"]) (own:=["_law_part","_law_many"]) (aR:=[]) (bS:=[]) rfl rfl (by decide+kernel)) rfl (dF (au (ao K) (pv 4) ai (λ_ _=>rfl))) (λ_ _ _ _=>(kr K (n:=2) rfl (bX (aF (i:=0) (show A4 (["_law_part","_law_many"]:List Str) by decide+kernel) rfl (Ab rfl)) (bX (aF (i:=1) (show A4 (["_law_part","_law_many"]:List Str) by decide+kernel) rfl (Ab rfl)) ib)))) (λ_ _ _ _=>bz) (λ_ _ _ _=>(bq (ae (pv 0) (ae (aI de ai (aI cU (pv 1) ai)) ag))))) ag)) ag))))
   (av (aw (i:=5) dS.nd rfl (Ab rfl) (bq (ae (aI cU (au (ao K) (pv 5) ai (λ_ _=>rfl)) ai) (ae (bw (cz K) (by rfl) T.eQ dI (ae (bU (aN.mk' (esc:=ah fH) (N:=["_law_feed_here","_law_world_here","_law_pool","_law_form","_law_one","_law_other","_law_some","_law_name","_law_signs"]) (own:=["_law_part","_law_many"]) (aR:=[]) (bS:=[]) rfl rfl (by decide+kernel)) rfl (dF (au (ao K) (pv 5) ai (λ_ _=>rfl))) (λ_ _ _ _=>(kr K (n:=2) rfl (bX (aF (i:=0) (show A4 (["_law_part","_law_many"]:List Str) by decide+kernel) rfl (Ab rfl)) (bX (aF (i:=1) (show A4 (["_law_part","_law_many"]:List Str) by decide+kernel) rfl (Ab rfl)) ib)))) (λ_ _ _ _=>bz) (λ_ _ _ _=>(bq (ae (pv 0) (ae (aI de ai (aI cU (pv 1) ai)) ag))))) ag)) ag))))))
   bG)
  (av (aL (bq (ae aX (ae (pv 7) (ae (pv 4) (ae (au (cS K) (pv 6) (aq bb aS rfl T.bB T.bC T.bD .nil az (ae (pv 0) (ae (bo (cx K) (by rfl) T.gT fb (ae (pv 6) ag)) ag))) (λ_ _=>rfl)) (ae (pv 5) ag)))))))))))))))),?_⟩
  have big:(10000:Nat)<=sizeLine:=by decide
  have wz:(2 ^ 10:Nat)<2 ^ 1000:=Cw (by decide) (by decide)
  have small:∀x:Nat,x<=1000->x<2 ^ 1000:=λx hx=>CL (show x<2 ^ 10 by omega) wz
  refine aU λY hY=>?_
  refine⟨_,rfl,F,L,4,rfl,f0,by decide,small _ (by decide),λr H1 r1 k1 f1=>?_⟩
  have SY:=f0.ktu k1 _ _ kg
  dsimp only[aD]
  subst hY
  refine aU λY hY=>?_
  refine⟨_,rfl,_,rfl,F,L,pl,pool,rfl,f1,SY,Kq,λta t H2 k2 f2 et ot ts sb=>?_⟩
  have Kn:=f1.ktu k2 _ _ SY
  have tp:jh pool t:=⟨ts,ot.1,sb⟩
  dsimp only[aD]
  subst hY
  refine aU λY hY=>?_
  refine⟨_,rfl,_,rfl,F,L,pl,pool,rfl,f2,Kn,Kq,λtb' u H3 k3 f3 eu ou us sbu=>?_⟩
  have up:jh pool u:=⟨us,ou.1,sbu⟩
  have UE:=et.keep (f2.ktu k3)
  have k13:=(k1.trans k2).trans k3
  have o5:=wd0.kb2 f0 k13
  clear et ot ts sb ou us sbu k1 k2 k3 f1 f2 SY Kn kg wd0
  dsimp only[aD]
  subst hY
  refine aU λY hY=>?_
  refine⟨_,rfl,_,_,rfl,rfl,_,rfl,?_⟩
  refine bJ (λz=>?_) (λz=>?_)
  ·have hr2:r<2:=by have:=of_decide_eq_true z;omega
   refine⟨by show 2<=sizeLine;decide,λZ hZ=>?_⟩
   have sZ:=Same.new (o:=.lst [.str "same",.str "less"]) hZ
   match r,hr2 with
   | 0,_=>
    refine⟨_,rfl,Z,_,_,.str "same",rfl,rfl,.of af,rfl,_,rfl,_,rfl,by show 3<=sizeLine;decide,λsy Kr=>?_⟩
    have sS:=Same.new (o:=.tup [.str "same",.ref ta,.ref tb']) Kr
    have sA:=sZ.trans sS
    exact k sy (.same t u) _ (k13.trans sA.kb2) (f3.same sA) ⟨ta,tb',af,UE.keep sA.kt,eu.keep sA.kt⟩ ⟨tp,up⟩
   | 1,_=>
    refine⟨_,rfl,Z,_,_,.str "less",rfl,rfl,.of af,rfl,_,rfl,_,rfl,by show 3<=sizeLine;decide,λsy Kr=>?_⟩
    have sS:=Same.new (o:=.tup [.str "less",.ref ta,.ref tb']) Kr
    have sA:=sZ.trans sS
    exact k sy (.less t u) _ (k13.trans sA.kb2) (f3.same sA) ⟨ta,tb',af,UE.keep sA.kt,eu.keep sA.kt⟩ ⟨tp,up⟩
  dsimp only[tN]
  subst hY
  refine aU λY hY=>?_
  have J7:ss.length=kvs.length:=by have:=congrArg Ed o5.ks;rw[AA,AA] at this;exact this.symm
  have wl:=o5.le
  have wp:=o5.pos
  refine⟨_,rfl,wo,_,_,.ref Dw,rfl,rfl,.of o5.wo,ak (j:=1) rfl,Dw,kvs,ss,rfl,o5.dw,o5.ks,by omega,λS0 ss' hS0 pm so=>?_⟩
  have L8:=Same.new (o:=.lst (ss'.map V.str)) hS0
  have nS:=f3.jJ hS0
  have UG:(upd H3 S0 (.lst (ss'.map V.str))) S0=some (.lst (ss'.map V.str)):=af
  have Ks:=o5.same L8
  have f4:=f3.same L8
  have Zs:=UE.keep L8.kt
  have Zt:=eu.keep L8.kt
  have k14:=k13.trans L8.kb2
  have amK:ss'.length=ss.length:=pm.length_eq
  generalize upd H3 S0 (.lst (ss'.map V.str))=H4 at UG Ks f4 Zs Zt k14 ⊢
  clear o5 f3 UE eu k13 L8 hS0 so
  dsimp only[aD]
  subst hY
  refine aU λY hY=>?_
  refine⟨_,rfl,_,rfl,_,rfl,.ref S0,ss'.length,rfl,.inl ⟨_,.of UG,by rw[AA]⟩,F,L,ss'.length,rfl,f4,by omega,small _ (by omega),λj H5 j1 k5 f5=>?_⟩
  obtain⟨x,hx⟩:∃x,ss'[j]? =some x:=⟨_,As j1⟩
  have hxs:x∈ss:=pm.mem_iff.mp (AG hx)
  have Zu:=k5 _ _ UG nS.1 nS.2
  refine⟨S0,_,_,.str x,rfl,rfl,.of Zu,ak (by rw[AU,hx];rfl),?_⟩
  have wI:=Ks.kb2 f4 k5
  have Zv:=Zs.keep (f4.ktu k5)
  have eu5:=Zt.keep (f4.ktu k5)
  have k15:=k14.trans k5
  clear Ks f4 Zs Zt k14 k5 UG hx j1
  dsimp only[aD]
  subst hY
  refine aU λY hY=>?_
  refine⟨_,rfl,rfl,_,rfl,?_⟩
  refine bJ (λz=>?_) (λz=>?_)
  ·have ok:=wI.ok x hxs
   have ex:=wI.at' x hxs
   have fw:=wI.few x hxs
   obtain⟨sga,ma,mps,r1,r2,r3,r4⟩:=ok.row
   have YZ:=ok.len
   generalize rows x=R at ok ex fw r1 r2 r3 r4 YZ
   refine aU λZ hZ=>?_
   refine⟨_,rfl,wo,_,_,.ref Dw,rfl,rfl,.of wI.wo,ak (j:=1) rfl,_,rfl,Dw,.ref R.ra,rfl,iV (.inl wI.dw) ex,R.ra,_,_,.ref sga,rfl,rfl,.of r1,ak (j:=0) rfl,_,rfl,F,L,10,rfl,f5,by decide,small _ (by decide),λd H6 d1 k6 f6=>⟨by show 1<=sizeLine;decide,λp1 hp1=>?_⟩⟩
   have sp1:=Same.new (o:=.tup [.int (d:Nat)]) hp1
   have sW:=f5.ktu k6
   refine⟨sga,p1,_,_,rfl,rfl,sp1 _ _ (sW _ _ r2),af,by rw[AA,cj];show R.sg.length+1<=sizeLine;omega,λuu H7 s7 Zw=>?_⟩
   have UH:(aC R.sg).map V.int++[V.int (d:Nat)]=(aC (R.sg++[d])).map V.int:=by rw[eO,AI];rfl
   rw[UH] at Zw
   have Zx:=sp1.trans s7
   have f7:=f6.same Zx
   have v7:bj H5 H7:=λb ys z=>Zx _ _ (sW _ _ z)
   have k17:=(k15.trans k6).trans Zx.kb2
   dsimp only[aD]
   subst hZ
   refine⟨_,rfl,_,rfl,_,rfl,_,rfl,_,rfl,.ref uu,R.sg.length+1,rfl,.inr ⟨_,.of Zw,by rw[AA,cj,AK];rfl⟩,F,L,R.sg.length+1,rfl,f7,by omega,small _ (by omega),λj H8 j1 k8 f8=>?_⟩
   refine⟨uu,_,_,.int ((R.sg++[d]).getD j 0:Nat),rfl,rfl,.of (f7.ktu k8 _ _ Zw),ak (eJ (by rw[AK];exact j1)),by show 4<=sizeLine;decide,λsy Kr=>?_⟩
   have sS:=Same.new (o:=.tup [.str "sign",.str x,.ref ta,.int ((R.sg++[d]).getD j 0:Nat)]) Kr
   exact k sy (.sign x t ((R.sg++[d]).getD j 0:Nat)) _ ((k17.trans k8).trans sS.kb2) (f8.same sS) ⟨ta,af,((Zv.keep v7).keep (f7.ktu k8)).keep sS.kt⟩ ⟨hxs,tp⟩
  dsimp only[tN]
  subst hY
  refine r6 (t:=zN _ _ _) (u:=QW _) (λσ H'=>∃(ta tb':Addr) (t u:Term),σ=[some (.ref F),some (.ref wo),some (.ref pl),some (.int (r:Nat)),some (.ref ta),some (.ref tb'),some (.ref S0),some (.str x),none]/\cy F L H H'/\bK H' F L/\H' S0=some (.lst (ss'.map V.str))/\bp H' ta t/\bp H' tb' u/\jh pool t/\jh pool u) ?_ (λR rest=>?_)
  rotate_left
  ·dsimp only[zN]
   refine⟨_,rfl,F,L,4,rfl,f5,by decide,small _ (by decide),λd1 H6 q1 k6 f6=>⟨_,_,rfl,rfl,_,rfl,?_⟩⟩
   have UI:=Zv.keep (f5.ktu k6)
   have UJ:=eu5.keep (f5.ktu k6)
   have QH:=k6 _ _ Zu nS.1 nS.2
   have k16:=k15.trans k6
   refine bJ (λ_=>?_) (λ_=>rest _ _ ⟨ta,tb',t,u,rfl,k16,f6,QH,UI,UJ,tp,up⟩)
   refine aU λZ hZ=>?_
   obtain⟨gp,tps,a1,a2,a3⟩:=UI
   have QD:tps.length=t.parts.length:=Ag a3
   have lt3:=tp.few
   have lu3:=up.few
   refine⟨_,rfl,ta,_,_,.int t.num,rfl,rfl,.of a1,ak (j:=0) rfl,_,_,rfl,rfl,by show(0:Int)<5;decide,_,rfl,ta,_,_,.ref gp,rfl,rfl,.of a1,ak (j:=1) rfl,gp,rfl,⟨_,.of a2⟩,λC hC=>?_⟩
   refine cR (xs:=tps.map V.ref) (λi σ H'=>∃(ps:List Addr) (v1 v2:Option V),σ=[v1,v2]/\Same H6 H'/\H' C=some (.lst (ps.map V.ref))/\iM H' ps ((t.parts.take i).map λq=>(q.1,1+q.2 % 2)))
    ⟨[],none,none,?sg,Same.new hC,af,.nil⟩ (by rintro i σ H' _ ⟨_,_,_,_,s',_⟩;exact .of (s' _ _ a2)) ?_ ?_
   case sg=>rfl
   ·rintro i z σ H7 hz ⟨ps,v1,v2,rfl,s7,c7,pt⟩
    obtain⟨p,rfl,ep⟩:=kP hz
    have hi:=(AF.mp ep).1
    obtain⟨qq,hq,wB⟩:=dR a3 ep
    refine⟨p,_,rfl,.of (s7 _ _ wB),rfl,_,_,rfl,_,_,rfl,rfl,?_⟩
    refine⟨_,rfl,_,rfl,_,_,rfl,rfl,by show(0:Int)<2;decide,_,_,rfl,rfl,by show 2<=sizeLine;decide,λp' hp'=>?_⟩
    have sp:=Same.new (o:=.tup [.str qq.1,.int (1+qq.2 % 2)]) hp'
    have c8:=sp _ _ c7
    have ktC:bj (upd H7 p' (.tup [.str qq.1,.int (1+qq.2 % 2)])) (upd (upd H7 p' (.tup [.str qq.1,.int (1+qq.2 % 2)])) C (.lst (ps.map V.ref++[.ref p']))):=bj.lst c8
    refine⟨_,c8,?_,ps++[p'],_,_,rfl,(s7.trans sp).kbn hC KB.write,?_,?_⟩
    ·rw[AA,Ag pt,AA,Ao];omega
    ·rw[af,AI];rfl
    ·rw[take_snoc hq,AI]
     exact bO ((iM.keep pt sp.kt).keep ktC) (.cons (ktC _ _ af) .nil)
   rintro σ H7 ⟨ps,v1,v2,rfl,s7,c7,pt⟩
   rw[AA,QD,Ap] at pt
   refine⟨C,_,rfl,.inl ⟨.of c7,λD hD=>⟨by show 2<=sizeLine;decide,λtn htn=>?_⟩⟩⟩
   have sD:=Same.new (o:=.tup (ps.map V.ref)) hD
   have st:=Same.new (o:=.tup [.int (t.num % 5),.ref D]) htn
   have QI:=(s7.trans sD).trans st
   have tn8:bp (upd (upd H7 D (.tup (ps.map V.ref))) tn (.tup [.int (t.num % 5),.ref D])) tn ⟨t.num % 5,t.parts.map λq=>(q.1,1+q.2 % 2)⟩:=⟨D,ps,af,st _ _ af,iM.keep pt (sD.trans st).kt⟩
   have UH:=UJ.keep QI.kt
   have eS8:=QI _ _ QH
   have f8:=f6.same QI
   have k18:=k16.trans QI.kb2
   generalize upd (upd H7 D (.tup (ps.map V.ref))) tn (.tup [.int (t.num % 5),.ref D])=H8 at tn8 UH eS8 f8 k18 ⊢
   clear a1 a2 a3 pt c7 s7 sD st QI hC hD htn
   dsimp only[aD]
   subst hZ
   obtain⟨ub1,ups,a1,a2,a3⟩:=UH
   have lup:ups.length=u.parts.length:=Ag a3
   refine⟨_,rfl,tb',_,_,.int u.num,rfl,rfl,.of a1,ak (j:=0) rfl,_,_,rfl,rfl,by show(0:Int)<5;decide,_,rfl,tb',_,_,.ref ub1,rfl,rfl,.of a1,ak (j:=1) rfl,ub1,rfl,⟨_,.of a2⟩,λC hC=>?_⟩
   refine cR (xs:=ups.map V.ref) (λi σ H'=>∃(ps:List Addr) (v1 v2:Option V),σ=[v1,v2]/\Same H8 H'/\H' C=some (.lst (ps.map V.ref))/\iM H' ps ((u.parts.take i).map λq=>(q.1,1+q.2 % 2)))
    ⟨[],none,none,?sg2,Same.new hC,af,.nil⟩ (by rintro i σ H' _ ⟨_,_,_,_,s',_⟩;exact .of (s' _ _ a2)) ?_ ?_
   case sg2=>rfl
   ·rintro i z σ H7 hz ⟨ps,v1,v2,rfl,s7,c7,pt⟩
    obtain⟨p,rfl,ep⟩:=kP hz
    have hi:=(AF.mp ep).1
    obtain⟨qq,hq,wB⟩:=dR a3 ep
    refine⟨p,_,rfl,.of (s7 _ _ wB),rfl,_,_,rfl,_,_,rfl,rfl,?_⟩
    refine⟨_,rfl,_,rfl,_,_,rfl,rfl,by show(0:Int)<2;decide,_,_,rfl,rfl,by show 2<=sizeLine;decide,λp' hp'=>?_⟩
    have sp:=Same.new (o:=.tup [.str qq.1,.int (1+qq.2 % 2)]) hp'
    have c8:=sp _ _ c7
    have ktC:bj (upd H7 p' (.tup [.str qq.1,.int (1+qq.2 % 2)])) (upd (upd H7 p' (.tup [.str qq.1,.int (1+qq.2 % 2)])) C (.lst (ps.map V.ref++[.ref p']))):=bj.lst c8
    refine⟨_,c8,?_,ps++[p'],_,_,rfl,(s7.trans sp).kbn hC KB.write,?_,?_⟩
    ·rw[AA,Ag pt,AA,Ao];omega
    ·rw[af,AI];rfl
    ·rw[take_snoc hq,AI]
     exact bO ((iM.keep pt sp.kt).keep ktC) (.cons (ktC _ _ af) .nil)
   rintro σ H9 ⟨ps,v1,v2,rfl,s9,c9,pt⟩
   rw[AA,lup,Ap] at pt
   refine⟨C,_,rfl,.inl ⟨.of c9,λD hD=>⟨by show 2<=sizeLine;decide,λun hun=>?_⟩⟩⟩
   have sD:=Same.new (o:=.tup (ps.map V.ref)) hD
   have st:=Same.new (o:=.tup [.int (u.num % 5),.ref D]) hun
   have UK:=(s9.trans sD).trans st
   dsimp only[aD]
   exact rest _ _ ⟨tn,un,_,_,rfl,k18.trans UK.kb2,f8.same UK,UK _ _ eS8,tn8.keep UK.kt,⟨D,ps,af,st _ _ af,iM.keep pt (sD.trans st).kt⟩,tp.light,up.light⟩
  clear Zv eu5 tp up f5 k15 Zu wI
  clear ta tb' t u
  rintro σ H6 ⟨ta,tb',t,u,rfl,k16,f6,QH,UI,UJ,tp,up⟩
  refine⟨_,rfl,_,rfl,_,rfl,_,rfl,_,rfl,.ref S0,ss'.length,rfl,.inl ⟨_,.of QH,by rw[AA]⟩,F,L,ss'.length,rfl,f6,by omega,small _ (by omega),λj H7 j1 k7 f7=>?_⟩
  obtain⟨y,hy⟩:∃y,ss'[j]? =some y:=⟨_,As j1⟩
  have hys:y∈ss:=pm.mem_iff.mp (AG hy)
  refine⟨S0,_,_,.str y,rfl,rfl,.of (k7 _ _ QH nS.1 nS.2),ak (by rw[AU,hy];rfl),_,rfl,by show 5<=sizeLine;decide,λsy Kr=>?_⟩
  have sS:=Same.new (o:=.tup [.str "alike",.str x,.ref ta,.str y,.ref tb']) Kr
  have v7:=f6.ktu k7
  exact k sy (.alike x t y u) _ ((k16.trans k7).trans sS.kb2) (f7.same sS) ⟨ta,tb',af,(UI.keep v7).keep sS.kt,(UJ.keep v7).keep sS.kt⟩ ⟨hxs,hys,tp,up⟩
end
end My
namespace My
open PySem L2
theorem QJ{α:Type}{x0:α}{on:α->Nat->α}{B:Nat}{xs:List α}{mv:List (List Nat)}(g:dD x0 on B xs mv):0<xs.length:=(AF.mp g.first).1
theorem Nl{α:Type}{x0:α}{on:α->Nat->α}{B:Nat}{xs:List α}{mv:List (List Nat)}{yes:α->Bool}(g:dD x0 on B xs mv)(h:mv.length=xs.length){w:List Nat}(hw:fm B w):lang (xs.map yes) mv 0 w=yes (dh on x0 w):=by
 have:=g.run h w 0 x0 g.first hw
 unfold lang
 rw[BA,AU,this]
 rfl
inductive Zy (K:AB)(ts:List Addr)(vs:List V)(H:Hp)(Q:VK)(aJ:XK):Prop where
 | mk (a:Addr) (ns:List Int) (cG:vs=[.ref a]) (cD:bM K H a (ns.map V.int)) (cE:ns.length<=63) (dc:tR ts H) (dZ:∀H',Q (.bl true) H')
def zF(K:AB)(ts:List Addr):Sp:=λvs H Q aJ=>Zy K ts vs H Q aJ
theorem bK.tb{a:bh}{H H':Hp}{F L:Addr}(t:TB a H)(f:bK H F L)(k:cy F L H H'):TB a H':=by
 obtain⟨ms,n,sd,e1,e2,_⟩:=f.ex
 have one:∀{T:Addr} {M:List (Pos×Str)},Tab H T M->Tab H' T M:=λ{T M} x=>by
  obtain⟨ps,h1,h2,h3⟩:=x
  refine⟨ps,k _ _ h1 (λz=>by rw[z,e1] at h1;cases h1) (λz=>by rw[z,e2] at h1;cases h1),h2,λp hp=>?_⟩
  rcases h3 p hp with z | ⟨c,z1,z2⟩
  ·exact .inl z
  ·exact .inr ⟨c,z1,k _ _ z2 (λz=>by rw[z,e1] at z2;cases z2) λz=>by rw[z,e2] at z2;cases z2⟩
 exact⟨one t.sm,one t.le,one t.si,one t.al⟩
theorem bK.kx{a:bh}{H H':Hp}{F L:Addr}(f:bK H F L)(k:KX a H H'):bK H' F L:=by
 obtain⟨ms,n,sd,e1,e2,h⟩:=f.ex
 exact⟨ms,n,sd,k _ _ e1 (λ_ z=>nomatch z),k _ _ e2 (λ_ z=>nomatch z),h⟩
open PySem.Spec PyProof.Rows in
theorem yU:∀{l:List Str},B4 l=true->l.Pairwise (λa b=>ltCps b.cps.toList a.cps.toList=false)
 | [],_=>.nil
 | x::l,h=>.cons (λy hy=>by
   have:=oM l x h y hy
   rw[Ge]
   simpa using List.not_lt.mpr this) (yU (o6 h))
theorem Nm{l m:List Str}(h:l.Sublist m)(s:B4 m=true):B4 l=true:=PyProof.Rows.sortedS_of_pairwise _ ((yU s).sublist h)
theorem Kt{H:Hp}:∀{ps:List Addr} {qs:List (Str×Int)},iM H ps qs->Bl (λ(p:Addr) (q:Key×V)=>H p=some (.tup [kV q.1,q.2])) ps (qs.map gV)
 | _,_,.nil=>.nil
 | _,_,.cons h t=>.cons h (Kt t)
theorem tK(n:Str){B:Int}:∀(ps:List (Str×Int)) (d:Int),(∀q∈ps,0<=q.2/\q.2<=B)->0<=d->d<=B->0<=bH n ps d/\bH n ps d<=B
 | [],d,_,h1,h2=>⟨h1,h2⟩
 | p::ps,d,h,h1,h2=>by
  have hp:=h p AL
  refine tK n ps _ (λq hq=>h q (AJ _ hq)) ?_ ?_<;>split<;>omega
theorem tL:∀{qs:List (Str×Int)} {ks:List Str},qs.map (·.1)=ks->ks.Nodup->qs.map gV=dj (λn=>bH n qs 0) ks
 | [],_,e,_=>by subst e;rfl
 | q::qs,_,e,nd=>by
  subst e
  rw[Aj] at nd
  obtain⟨n1,n2⟩:=Bj.mp nd
  rw[Aj,Aj,tL rfl n2]
  unfold dj
  rw[Aj]
  have h1:bH q.1 (q::qs) 0=q.2:=by
   show bH q.1 qs (if q.1=q.1 then q.2 else 0)=q.2
   rw[if_pos rfl];exact mU n1
  show gV q::_=(Am q.1,V.int (bH q.1 (q::qs) 0))::_
  rw[h1]
  congr 1
  refine BI λn hn=>?_
  have ne:n≠q.1:=λz=>n1 (z▸hn)
  show((Am n:Key),V.int (bH n qs 0))=(Am n,V.int (bH n qs (if n=q.1 then q.2 else 0)))
  rw[if_neg ne]
def Bd(v:Str->Int):Prop:=∀n,0<=v n/\v n<=128 ^ 3*10 ^ 60
def Big(rows:Str->Rw):ay->Prop
 | .sign x t _=>300<(rows x).n*(cu t+1).toNat
 | .alike x t y u=>300<(rows x).n*(cu t+1).toNat*((rows y).n*(cu u+1).toNat)
 | _=>False
structure Tells (b:Nat)(rows:Str->Rw)(f:ay)(ks:List Str)(p nm:Addr)(bs:List Bool)(mw:List (List Nat))(H:Hp):Prop where
 lJ:jc H p nm bs mw
 nm:H nm=some (.tup (ks.map V.str))
 b_:Moves bs.length (b ^ ks.length) mw
 pos:0<bs.length
 say:∀v:Str->Int,(∀n,0<=v n)->lang bs mw 0 (sO b (ks.map λn=>(v n).toNat))=holds b rows v f
theorem Tells.keep{b:Nat}{rows:Str->Rw}{f:ay}{ks:List Str}{p nm:Addr}{bs:List Bool}{mw:List (List Nat)}{H H':Hp}(h:Tells b rows f ks p nm bs mw H)(k:bj H H'):Tells b rows f ks p nm bs mw H':=⟨h.lJ.keep k,k _ _ h.nm,h.b_,h.pos,h.say⟩
theorem QK{b:Nat}(hb:0<b)(ks:List Str)(g:Str->Nat):fm (b ^ ks.length) (sO b (ks.map g)):=λc hc=>by
 obtain⟨k,_,rfl⟩:=AZ.mp hc
 rw[<-AA (as:=ks) g]
 exact vY hb _ _
theorem jh.over{pool:List Str}{t:Term}(h:jh pool t):fq pool t:=⟨h.few,λq hq=>h.sub.subset (AZ.mpr ⟨q,hq,rfl⟩)⟩
section
variable{a:bh}{b:Nat}{F L wo Dw sy:Addr}{kvs:List (Key×V)}{ss pool:List Str}{rows:Str->Rw}{H:Hp}{Q':VK}{E':XK}
def Nn(a:bh):Sp:=λvs H Q E=>yI a vs H Q E∨yJ a vs H Q E∨yK a vs H Q E
theorem pC{α:Type}{x0:α}{on:α->Nat->α}{ks:List Str}{xs:List α}{mw:List (List Nat)}{yes:α->Bool}{f:ay}{p nm:Addr}(hb:2<=b)(g:dD x0 on (b ^ ks.length) xs mw)(hl:mw.length=xs.length)(lJ:jc H p nm (xs.map yes) mw)(en:H nm=some (.tup (ks.map V.str)))(h:∀v:Str->Int,(∀n,0<=v n)->yes (dh on x0 (sO b (ks.map λn=>(v n).toNat)))=holds b rows v f):Tells b rows f ks p nm (xs.map yes) mw H:=
 ⟨lJ,en,by rw[AA];exact g.b_ hl,by rw[AA];exact QJ g,λv hv=>by rw[Nl g hl (QK (by omega) ks _)];exact h v hv⟩
theorem Ku(ls:Bool){ta tb:Addr}{t u:Term}(hb2:2<=b)(hb4:b<=4)(wd:Wd b F L wo Dw kvs ss rows H)(es:H sy=some (.tup [.str (zE ls),.ref ta,.ref tb]))(et:bp H ta t)(eu:bp H tb u)(pt:jh pool t)(pu:jh pool u)(lp:pool.length<=3)(nd:pool.Nodup)(wJ:TB a H)
  (h2:∀(ks:List Str) (p nm:Addr) (bs:List Bool) (mw:List (List Nat)) (H':Hp),KX a H H'->TB a H'->cL ks (tE ls t u)->Tells b rows (tE ls t u) ks p nm bs mw H'->Q' (.ref p) H'):Nn a [.ref wo,.ref sy,.int 300] H Q' E':=by
 have ov:(tE ls t u).Over pool:=by cases ls<;>exact⟨pt.over,pu.over⟩
 have Kv:(t.parts.map (·.1)).Nodup:=CD pt.sub nd
 have UL:(u.parts.map (·.1)).Nodup:=CD pu.sub nd
 refine .inl ⟨ls,b,300,wo,sy,ta,tb,_,t,u,pool,rfl,hb2,hb4,wd.wo,⟨es,et,eu⟩,ov,by omega,by decide,wJ,λks xs H' k tb fr nd' rc lt=>?_,λks p nm xs mw H' k tb fr lJ en hl hle gr=>?_⟩
 ·have lk:ks.length<=3:=A5 (fr.len ov) lp
  have:=SH hb2 hb4 pt.sm pu.sm lk nd' rc
  omega
 ·have ft:∀z,z∈ip t∨z∈ip u->z∈ks:=λz hz=>(fr.mem z).mpr (by cases ls<;>exact hz)
  have tk:∀q∈t.parts,q.1∈ks:=λq hq=>ft _ (.inl (AZ.mpr ⟨q,hq,rfl⟩))
  have uk:∀q∈u.parts,q.1∈ks:=λq hq=>ft _ (.inr (AZ.mpr ⟨q,hq,rfl⟩))
  refine h2 ks p nm _ mw H' k tb fr (pC hb2 gr hl lJ en λv hv=>?_)
  have ldf:(ks.map λn=>(v n).toNat).length=(iq t u ks).length:=by unfold iq;rw[AA,AA]
  rw[mean hb2 ldf,Ni ls (Qr fr.once Kv UL tk uk hv)]
  cases ls with
  | true=>
   show decide (bE t v-bE u v<0)=decide (bE t v<bE u v)
   exact decide_eq_decide.mpr ⟨λh=>by omega,λh=>by omega⟩
  | false=>
   show decide (bE t v-bE u v=0)=decide (V.int (bE t v)=V.int (bE u v))
   exact decide_eq_decide.mpr ⟨λh=>congrArg V.int (by omega),λh=>by have:=V.int.inj h;omega⟩
theorem xE{t:Term}(c:Nat)(hc:t.num=(c:Int)):(c:Int)<=cu t:=by unfold cu;omega
theorem pE{t:Term}{ks:List Str}(sm:jM t)(nd:ks.Nodup)(nt:(t.parts.map (·.1)).Nodup)(ht:∀q∈t.parts,q.1∈ks){v:Str->Int}(hv:∀n,0<=v n){c:Nat}(hc:t.num=(c:Int)):c+(dot (aC (ks.map λn=>(v n).toNat)) (ks.map t.at)).toNat=(bE t v).toNat:=by
 have h:=Qz nd nt ht hv
 have h0:0<=dot (aC (ks.map λn=>(v n).toNat)) (ks.map t.at):=tX _ _ (vh _) (wC sm ks)
 omega
theorem abE{f:ay}(hb2:2<=b)(hb4:b<=4)(wd:Wd b F L wo Dw kvs ss rows H)(es:qW H sy f)(fo:Kl pool ss f)(lp:pool.length<=3)(nd:pool.Nodup)(wJ:TB a H)
  (h1:∀H',KX a H H'->TB a H'->Big rows f->Q' .non H')
  (h2:∀(ks:List Str) (p nm:Addr) (bs:List Bool) (mw:List (List Nat)) (H':Hp),KX a H H'->TB a H'->cL ks f->Tells b rows f ks p nm bs mw H'->Q' (.ref p) H'):Nn a [.ref wo,.ref sy,.int 300] H Q' E':=by
 have p20:(200:Nat)<2 ^ 20000:=AX (show 200<2 ^ 8 by decide) (A0 (by decide) (by decide))
 cases f with
 | same t u=>
  obtain⟨ta,tb,e,et,eu⟩:=es
  exact Ku false hb2 hb4 wd e et eu fo.1 fo.2 lp nd wJ h2
 | less t u=>
  obtain⟨ta,tb,e,et,eu⟩:=es
  exact Ku true hb2 hb4 wd e et eu fo.1 fo.2 lp nd wJ h2
 | sign x t sn=>
  obtain⟨ta,e,et⟩:=es
  obtain⟨hx,pt⟩:=fo
  have ok:=wd.ok x hx
  have nt:=wd.nt x hx
  have hn0:=pt.sm.1
  have hn9:=pt.sm.2.1
  obtain⟨c,hc⟩:∃c:Nat,t.num=(c:Int):=⟨t.num.toNat,by omega⟩
  have Kv:(t.parts.map (·.1)).Nodup:=CD pt.sub nd
  refine .inr (.inl ⟨b,(rows x).n,200,300,wo,Dw,sy,(rows x).ra,ta,kvs,x,t,sn,(rows x).sg,(rows x).mv,pool,rfl,hb2,hb4,⟨wd.wo,.inl wd.dw,wd.at' x hx,ok.row,ok.len,ok.pos,ok.b_,e,et,by have:=pt.few;omega,⟨c,hc,by omega⟩,p20⟩,λks hk=>vg hb4 pt.sm hk,pt.over,by omega,by decide,wJ,λks xs c' H' k tb fr hc' nd' rc lt=>?_,λks p nm xs c' mw H' k tb fr hc' lJ en hl hle gr=>?_⟩)
  ·have tk:∀q∈t.parts,q.1∈ks:=λq hq=>(fr.mem _).mpr (AZ.mpr ⟨q,hq,rfl⟩)
   refine h1 H' k tb ?_
   have:=SN (R:=rows x) (t:=t) nd' λp hp=>by
    obtain⟨w',_,rfl⟩:=rc p hp
    exact tY hb2 ok.b_ pt.sm fr.once Kv tk w' _ ⟨0,c',rfl,ok.pos,xE c' hc'⟩
   show 300<_
   omega
  ·have tk:∀q∈t.parts,q.1∈ks:=λq hq=>(fr.mem _).mpr (AZ.mpr ⟨q,hq,rfl⟩)
   refine h2 ks p nm _ mw H' k tb fr (pC hb2 gr hl lJ en λv hv=>?_)
   obtain⟨r,d,e1,e2⟩:=tI hb2 ok.b_ ok.pos nt (ns:=ks.map λn=>(v n).toNat) (ds:=ks.map t.at) (by rw[AA,AA]) (wC pt.sm ks) c'
   rw[e1]
   rw[pE pt.sm fr.once Kv tk hv hc'] at e2
   show decide (((dB b (rows x).sg (rows x).mv r d:Nat):Int)=sn)=decide (V.int ((dB b (rows x).sg (rows x).mv 0 (bE t v).toNat:Nat):Int)=V.int sn)
   rw[e2]
   exact decide_eq_decide.mpr ⟨λh=>congrArg V.int h,λh=>V.int.inj h⟩
 | alike x t y u=>
  obtain⟨ta,tb,e,et,eu⟩:=es
  obtain⟨hx,hy,pt,pu⟩:=fo
  have ok:=wd.ok x hx
  have nt:=wd.nt x hx
  have ok':=wd.ok y hy
  have nt':=wd.nt y hy
  have hn0:=pt.sm.1
  have hn9:=pt.sm.2.1
  have hm0:=pu.sm.1
  have hm9:=pu.sm.2.1
  obtain⟨c,hc⟩:∃c:Nat,t.num=(c:Int):=⟨t.num.toNat,by omega⟩
  obtain⟨d,hd⟩:∃d:Nat,u.num=(d:Int):=⟨u.num.toNat,by omega⟩
  have Kv:(t.parts.map (·.1)).Nodup:=CD pt.sub nd
  have UL:(u.parts.map (·.1)).Nodup:=CD pu.sub nd
  refine .inr (.inr ⟨b,200,300,rows x,rows y,wo,Dw,sy,ta,tb,kvs,x,y,t,u,pool,rfl,hb2,hb4,⟨wd.wo,.inl wd.dw,wd.at' x hx,wd.at' y hy,ok,ok',e,et,eu,by have:=pt.few;omega,by have:=pu.few;omega,⟨c,hc,by omega⟩,⟨d,hd,by omega⟩,p20⟩,λks hk=>vg hb4 pt.sm hk,λks hk=>vg hb4 pu.sm hk,pt.over,pu.over,by omega,by decide,wJ,λks xs c' d' H' k tb fr hc' hd' nd' rc lt=>?_,λks p nm xs c' d' mw H' k tb fr hc' hd' lJ en hl hle gr=>?_⟩)
  ·have tk:∀q∈t.parts,q.1∈ks:=λq hq=>(fr.mem _).mpr (.inl (AZ.mpr ⟨q,hq,rfl⟩))
   have uk:∀q∈u.parts,q.1∈ks:=λq hq=>(fr.mem _).mpr (.inr (AZ.mpr ⟨q,hq,rfl⟩))
   refine h1 H' k tb ?_
   have:=Qy (R:=rows x) (S:=rows y) (t:=t) (u:=u) nd' λp hp=>by
    obtain⟨w',_,rfl⟩:=rc p hp
    obtain⟨x1,y1,x2,y2,e1,e2,e3⟩:=xB b (rows x) (rows y) (aE b (ks.map t.at)) (aE b (ks.map u.at)) w' 0 c' 0 d'
    refine⟨[x1,y1],[x2,y2],e3,?_,?_⟩
    ·rw[<-e1];exact tY hb2 ok.b_ pt.sm fr.once Kv tk w' _ ⟨0,c',rfl,ok.pos,xE c' hc'⟩
    ·rw[<-e2];exact tY hb2 ok'.b_ pu.sm fr.once UL uk w' _ ⟨0,d',rfl,ok'.pos,xE d' hd'⟩
   show 300<_
   omega
  ·have tk:∀q∈t.parts,q.1∈ks:=λq hq=>(fr.mem _).mpr (.inl (AZ.mpr ⟨q,hq,rfl⟩))
   have uk:∀q∈u.parts,q.1∈ks:=λq hq=>(fr.mem _).mpr (.inr (AZ.mpr ⟨q,hq,rfl⟩))
   refine h2 ks p nm _ mw H' k tb fr (pC hb2 gr hl lJ en λv hv=>?_)
   obtain⟨r,d1,e1,e2⟩:=tI hb2 ok.b_ ok.pos nt (ns:=ks.map λn=>(v n).toNat) (ds:=ks.map t.at) (by rw[AA,AA]) (wC pt.sm ks) c'
   obtain⟨r',d2,e3,e4⟩:=tI hb2 ok'.b_ ok'.pos nt' (ns:=ks.map λn=>(v n).toNat) (ds:=ks.map u.at) (by rw[AA,AA]) (wC pu.sm ks) d'
   obtain⟨x1,y1,x2,y2,g1,g2,g3⟩:=xB b (rows x) (rows y) (aE b (ks.map t.at)) (aE b (ks.map u.at)) (sO b (ks.map λn=>(v n).toNat)) 0 c' 0 d'
   rw[e1] at g1
   rw[e3] at g2
   cases g1
   cases g2
   rw[g3]
   rw[pE pt.sm fr.once Kv tk hv hc'] at e2
   rw[pE pu.sm fr.once UL uk hv hd'] at e4
   show decide (((dB b (rows x).sg (rows x).mv r d1:Nat):Int)=((dB b (rows y).sg (rows y).mv r' d2:Nat):Int))=decide (V.int ((dB b (rows x).sg (rows x).mv 0 (bE t v).toNat:Nat):Int)=V.int ((dB b (rows y).sg (rows y).mv 0 (bE u v).toNat:Nat):Int))
   rw[e2,e4]
   exact decide_eq_decide.mpr ⟨λh=>congrArg V.int h,λh=>V.int.inj h⟩
 | _=>exact fo.elim
end
def kd:ay->List (List Str)
 | .same t u=>[t.parts.map (·.1),u.parts.map (·.1)]
 | .less t u=>[t.parts.map (·.1),u.parts.map (·.1)]
 | .sign _ t _=>[[],t.parts.map (·.1),[]]
 | .alike _ t _ u=>[[],t.parts.map (·.1),[],u.parts.map (·.1)]
 | _=>[]
theorem S_{H:Hp}{sy:Addr}{pool ss:List Str}{f:ay}(es:qW H sy f)(fo:Kl pool ss f):∃w0 xs,H sy=some (.tup (w0::xs))/\Bl (L7 H) xs (kd f)/\xs.length<=4:=by
 have el:∀{ta:Addr} {t:Term},bp H ta t->jh pool t->L7 H (.ref ta) (t.parts.map (·.1)):=λe p=>.inr (.inr ⟨_,_,rfl,e,p.few,rfl⟩)
 have st:∀x:Str,L7 H (.str x) []:=λx=>.inl ⟨⟨x,rfl⟩,rfl⟩
 cases f with
 | same t u=>obtain⟨ta,tb,e,et,eu⟩:=es;exact⟨_,_,e,.cons (el et fo.1) (.cons (el eu fo.2) .nil),by show 2<=4;decide⟩
 | less t u=>obtain⟨ta,tb,e,et,eu⟩:=es;exact⟨_,_,e,.cons (el et fo.1) (.cons (el eu fo.2) .nil),by show 2<=4;decide⟩
 | sign x t sn=>obtain⟨ta,e,et⟩:=es;exact⟨_,_,e,.cons (st x) (.cons (el et fo.2) (.cons (.inr (.inl ⟨⟨sn,rfl⟩,rfl⟩)) .nil)),by show 3<=4;decide⟩
 | alike x t y u=>obtain⟨ta,tb,e,et,eu⟩:=es;exact⟨_,_,e,.cons (st x) (.cons (el et fo.2.2.1) (.cons (st y) (.cons (el eu fo.2.2.2) .nil))),by show 4<=4;decide⟩
 | _=>exact fo.elim
theorem Np{pool ss:List Str}{f:ay}(fo:Kl pool ss f)(so:B4 pool=true)(nd:pool.Nodup):cL (pool.filter λn=>decide (n∈(kd f).flatten)) f:=by
 refine⟨Nm HF so,CD HF nd,λz=>?_⟩
 rw[Ei,decide_eq_true_iff]
 cases f with
 | same t u=>
  show _↔z∈ip t∨z∈ip u
  simp only[kd,DP,DZ,A8,Ac]
  exact⟨λh=>h.2,λh=>⟨h.elim (λy=>fo.1.sub.subset y) (λy=>fo.2.sub.subset y),h⟩⟩
 | less t u=>
  show _↔z∈ip t∨z∈ip u
  simp only[kd,DP,DZ,A8,Ac]
  exact⟨λh=>h.2,λh=>⟨h.elim (λy=>fo.1.sub.subset y) (λy=>fo.2.sub.subset y),h⟩⟩
 | sign x t sn=>
  show _↔z∈ip t
  simp only[kd,DP,DZ,A8,Eu]
  exact⟨λh=>h.2,λh=>⟨fo.2.sub.subset h,h⟩⟩
 | alike x t y u=>
  show _↔z∈ip t∨z∈ip u
  simp only[kd,DP,DZ,A8,Eu,Ac]
  exact⟨λh=>h.2,λh=>⟨h.elim (λy=>fo.2.2.1.sub.subset y) (λy=>fo.2.2.2.sub.subset y),h⟩⟩
 | _=>exact fo.elim
end My
namespace My
open PySem L2
theorem tM{K:AB}{H:Hp}:∀ss:List Str,aM K H (ss.map V.str) (ss.map Dt.str)
 | []=>d_
 | s::ss=>bA iQ (tM ss)
theorem yV{α:Type}(f:α->Dt)(h:∀x,(f x).dep=0):∀l:List α,Dt.deps (l.map f)=0
 | []=>by simp[Dt.deps]
 | x::l=>by rw[Aj,Dt.deps,yV f h l,h x];rfl
theorem QL(ss:List Str):(Dt.tup (ss.map Dt.str)).dep<=40:=by
 have h1:=yV Dt.str (λ_=>by simp[Dt.dep]) ss
 simp only[Dt.dep,h1]
 omega
theorem S3{H:Hp}{sy:Addr}{ss pool:List Str}{rows:Str->Rw}{f:ay}(es:qW H sy f)(fo:Kl pool ss f)(big:Big rows f):∃(w0:Str) (ws:List V) (els:List (Option (Str×Addr×Term))),H sy=some (.tup ws)/\ws[0]? =some (.str w0)/\ws.length=els.length+2/\els.length<=4/\(∀i e,els[i]? =some e->ElK H ss ws i e)/\(w0="sign"∨w0="alike")/\300<kc rows els:=by
 have one:∀{t:Term} (n:Nat),jM t->((n*(cu t+1).toNat:Nat):Int)=(n:Int)*(1+cu t):=λ{t} n sm=>by
  have:0<=cu t:=by have:=sm.1;unfold cu;omega
  rw[CA,BH (by omega),Int.add_comm]
 cases f with
 | same t u=>exact big.elim
 | less t u=>exact big.elim
 | sign x t sn=>
  obtain⟨ta,e,et⟩:=es
  obtain⟨hx,pt⟩:=fo
  obtain⟨q1,q2,a1,_⟩:=id et
  refine⟨"sign",_,[some (x,ta,t),none],e,rfl,rfl,by show 2<=4;decide,λi e h=>?_,.inl rfl,?_⟩
  ·match i,h with
   | 0,h=>cases h;exact⟨rfl,rfl,et,hx,pt.sm,pt.few⟩
   | 1,h=>cases h;exact⟨ta,_,rfl,a1⟩
  ·show 300<((rows x).n:Int)*(1+cu t)*(1*1)
   have h:300<(rows x).n*(cu t+1).toNat:=big
   have:=one (rows x).n pt.sm
   omega
 | alike x t y u=>
  obtain⟨ta,tb,e,et,eu⟩:=es
  obtain⟨hx,hy,pt,pu⟩:=fo
  obtain⟨q1,q2,a1,_⟩:=id et
  refine⟨"alike",_,[some (x,ta,t),none,some (y,tb,u)],e,rfl,rfl,by show 3<=4;decide,λi e h=>?_,.inr rfl,?_⟩
  ·match i,h with
   | 0,h=>cases h;exact⟨rfl,rfl,et,hx,pt.sm,pt.few⟩
   | 1,h=>cases h;exact⟨ta,_,rfl,a1⟩
   | 2,h=>cases h;exact⟨rfl,rfl,eu,hy,pu.sm,pu.few⟩
  ·show 300<((rows x).n:Int)*(1+cu t)*(1*(((rows y).n:Int)*(1+cu u)*1))
   have h:300<(rows x).n*(cu t+1).toNat*((rows y).n*(cu u+1).toNat):=big
   rw[Ht,Gq,<-one (rows x).n pt.sm,<-one (rows y).n pu.sm,<-CA]
   omega
 | _=>exact fo.elim
theorem Wx{H:Hp}{sy:Addr}{pool ss:List Str}{f:ay}(es:qW H sy f)(fo:Kl pool ss f):∃(w0:Str) (ws:List V),H sy=some (.tup (.str w0::ws))/\(w0∈(["same","less"]:List Str)->∃(ta tb:Addr) (t u:Term),ws=[.ref ta,.ref tb]/\bp H ta t/\bp H tb u/\jh pool t/\jh pool u/\∀z,z∈ip t∨z∈ip u->f.Free z):=by
 cases f with
 | same t u=>obtain⟨ta,tb,e,et,eu⟩:=es;exact⟨_,_,e,λ_=>⟨ta,tb,t,u,rfl,et,eu,fo.1,fo.2,λz h=>h⟩⟩
 | less t u=>obtain⟨ta,tb,e,et,eu⟩:=es;exact⟨_,_,e,λ_=>⟨ta,tb,t,u,rfl,et,eu,fo.1,fo.2,λz h=>h⟩⟩
 | sign x t sn=>obtain⟨ta,e,et⟩:=es;exact⟨_,_,e,λh=>absurd h (by decide)⟩
 | alike x t y u=>obtain⟨ta,tb,e,et,eu⟩:=es;exact⟨_,_,e,λh=>absurd h (by decide)⟩
 | _=>exact fo.elim
section
variable{P:Ah}{w:World}{K:AB}{mg:Str->Option Value}{base:Heap}
theorem ia:aP ["_law_script","_law_feed_here","_law_world_here","_law_pool","_law_saying_here","_law_names_here","_law_machine","_law_asked","_law_turn","_law_values","_law_told"] ["_law_script"] (ah ji):=⟨rfl,rfl,rfl,by decide+kernel,rfl,by decide+kernel,by decide+kernel⟩
set_option maxHeartbeats 32000000 in
theorem Zz{a:bh}{pb:mD}{pc:oa}(T:Txt K mg a)(hB:eG mg base)(U:jr K w.params mg pb)(Yt:j9 K w.params mg pc):aO P w K mg base aW 7 a.MS a.OQ ["_law_script"] (zF K [a.cA,a.cB,a.cC,a.cn]):=by
 have S4:=Ph (P:=P) (w:=w) (base:=base) T
 have bb:=iG (P:=P) (w:=w) (base:=base) T
 have tJ:=wa (P:=P) (w:=w) (base:=base) T
 have QM:=Nk (P:=P) (w:=w) (base:=base) T
 have QN:=MZ (P:=P) (w:=w) (base:=base) T
 have Nq:=K3 (P:=P) (w:=w) (base:=base) T
 have Kw:=zu (P:=P) (w:=w) (base:=base) T
 have K4:=Ko (P:=P) (w:=w) (base:=base) T
 have S5:=QE (P:=P) (w:=w) (base:=base) T
 have S6:=QA (P:=P) (w:=w) (base:=base) T
 have ZA:=Wu (P:=P) (w:=w) (base:=base) T
 have QO:aO P w K mg base aW 6 a.iF a.gR ["world","saying","most"] (Nn a):=((K_ T hB U Yt).mono (by decide)).or ((K0 T hB U Yt).or (K1 T hB U Yt))
 refine T.abq.ok ia (λvs H Q E h=>?_) (λcdv A outer s H vs Q E hr h=>?_)
 ·obtain⟨sa,ns,rfl,_⟩:=h
  rfl
 ·obtain⟨sa,ns,rfl,hS,hns,hO,q⟩:=h
  have QP:aK 1 _:=hr.mono (by decide)
  have aS:aK 1 _:=hr.mono (by decide)
  have zv:aK 1 _:=hr.mono (by decide)
  have Kx:aK 1 _:=hr.mono (by decide)
  have QQ:aK 1 _:=hr.mono (by decide)
  have Wy:aK 2 _:=hr.mono (by decide)
  have qV:aK 2 _:=hr.mono (by decide)
  have Nr:aK 2 _:=hr.mono (by decide)
  have QR:aK 2 _:=hr.mono (by decide)
  have Nu:aK 3 _:=hr.mono (by decide)
  have K5:aK 3 _:=hr.mono (by decide)
  have Nv:aK 6 _:=hr
  refine⟨_,(aj (aw (i:=1) ia.nd rfl (CT rfl) (aq S4 QP rfl T.RQ T.RS T.RT .nil az (ae (pv 0) ag)))
  (aj (aw (i:=2) ia.nd rfl (Ab rfl) (aq QM Nu rfl T.Pb T.Pc T.Pd .nil az (ae (pv 1) ag)))
  (aj (aw (i:=3) ia.nd rfl (Ab rfl) (aq tJ qV rfl T.yx T.yy T.yz .nil az (ae (pv 1) (ae (aq bb aS rfl T.bB T.bC T.bD .nil az (ae (pv 1) (ae ai ag))) ag))))
  (aj (aw (i:=4) ia.nd rfl (Ab rfl) (aq Nq K5 rfl T.MV T.MW T.MX .nil az (ae (pv 1) (ae (pv 2) (ae (pv 3) ag)))))
  (aj (aw (i:=5) ia.nd rfl (Ab rfl) (aq Kw zv rfl T.Jn T.Jo T.Jp .nil az (ae (pv 4) (ae (pv 3) ag))))
  (aj (aw (i:=6) ia.nd rfl (Ab rfl) (aq QO Nv rfl T.OS T.OT T.OU .nil az (ae (pv 2) (ae (pv 4) (ae ai ag)))))
  (aj (cq (aV zS (pv 6) pK (a_ _))
   (av (aL (ic oC (aq K4 Kx rfl T.KR T.KS T.KU .nil az (ae (pv 2) (ae (pv 4) ag))) ai (a_ _))))
   bG)
  (aj (cq (aV (Oa K hr.units) (au (ao K) (pv 6) ai (λ_ _=>rfl)) (pv 5) (a_ _))
   (av (aL Me))
   bG)
  (aj (aw (i:=7) ia.nd rfl (Ab rfl) (df (ae (bw (qu hr.hd) (by rfl) T.nQ ko (ae (bU (aN.mk' (esc:=ah ji) (N:=["_law_script","_law_feed_here","_law_world_here","_law_pool","_law_saying_here","_law_names_here","_law_machine","_law_asked","_law_turn","_law_values","_law_told"]) (own:=["_law_name"]) (aR:=[]) (bS:=[]) rfl rfl (by decide+kernel)) rfl (dF (pv 5)) (λ_ _ _ _=>(aF (i:=0) (show A4 (["_law_name"]:List Str) by decide+kernel) rfl (Ab rfl))) (λ_ _ _ _=>bz) (λ_ _ _ _=>(bq (ae (pv 0) (ae ai ag))))) ag)) ag)))
  (aj (cK Aw rfl (dm rfl T.eP (ae ai ag)) (aF (i:=8) ia.nd rfl (Ab rfl))
   (aj (aw (i:=9) ia.nd rfl (CT rfl) (bw (qu hr.hd) (by rfl) T.nQ ko (ae (bU (aN.mk' (esc:=ah ji) (N:=["_law_script","_law_feed_here","_law_world_here","_law_pool","_law_saying_here","_law_names_here","_law_machine","_law_asked","_law_turn","_law_values","_law_told"]) (own:=["_law_name"]) (aR:=["_law_feed_here"]) (bS:=[1]) rfl rfl (by decide+kernel)) rfl (dF (pv 5)) (λ_ _ _ _=>(aF (i:=0) (show A4 (["_law_name","_law_feed_here"]:List Str) by decide+kernel) rfl (Ab rfl))) (λ_ _ _ _=>bz) (λ_ _ _ _=>(bq (ae (pv 0) (ae (aq QN Nr rfl T.O0 T.O1 T.O6 .nil az (ae (pv 1) ag)) ag))))) ag)))
   (aj (dX (fV Az BC BD dq (pv 7) (ae (pv 9) ag)))
   (av (cq (aV (pQ K) (au (ao K) (pv 4) ai (λ_ _=>rfl)) (bq (ae aX (ae aX ag))) (by with_unfolding_all rfl))
    (av (dX (fV Az BC BD dq (pv 7) (ae (aq S5 QR rfl T.R1 T.R3 T.R4 .nil az (ae (pv 1) (ae (au (ao K) (pv 4) ai (λ_ _=>rfl)) (ae (au (ao K) (pv 4) ai (λ_ _=>rfl)) (ae (pv 9) ag))))) ag))))
    bG)))))
  (aj (cK Aw rfl (dH (pv 7)) (aF (i:=9) ia.nd rfl (CT rfl))
   (aj (aw (i:=10) ia.nd rfl (Ab rfl) (aq S6 QQ rfl T.RX T.RY T.RZ .nil az (ae (au (ao K) (pv 2) ai (λ_ _=>rfl)) (ae (pv 6) (ae (bU (aN.mk' (esc:=ah ji) (N:=["_law_script","_law_feed_here","_law_world_here","_law_pool","_law_saying_here","_law_names_here","_law_machine","_law_asked","_law_turn","_law_values","_law_told"]) (own:=["_law_name"]) (aR:=["_law_values"]) (bS:=[9]) rfl rfl (by decide+kernel)) rfl (dF (pv 5)) (λ_ _ _ _=>(aF (i:=0) (show A4 (["_law_name","_law_values"]:List Str) by decide+kernel) rfl (Ab rfl))) (λ_ _ _ _=>bz) (λ_ _ _ _=>(cv (cf hr) (pv 1) (pv 0) (λ_ _=>rfl)))) ag)))))
   (av (cq (PW.pt (Mf (WK (qj (bo (rX K) (by rfl) T.nR lO (ae (pv 10) (ae (wL (v:=.ty "bool") rfl T.Pg Ll rfl) ag))) (λ_=>rfl))) (zM (aV vw (pv 10) (aq ZA Wy rfl T.X3 T.X4 T.X5 .nil az (ae (pv 2) (ae (pv 4) (ae (pv 9) ag)))) (a_ _)))))
    (av (aL Me))
    bG))))
  (av (aL Me))))))))))))),?_⟩
  have big:(10000:Nat)<=sizeLine:=by decide
  have wz:(2 ^ 10:Nat)<2 ^ 1000:=Cw (by decide) (by decide)
  have small:∀x:Nat,x<=1000->x<2 ^ 1000:=λx hx=>CL (show x<2 ^ 10 by omega) wz
  have wJ:TB a H:=⟨hO.tab (by simp),hO.tab (by simp),hO.tab (by simp),hO.tab (by simp)⟩
  refine aU λR hR=>?_
  refine⟨_,rfl,sa,ns,rfl,hS,hns,λF L H1 hF hL s1 f1=>?_⟩
  have gp:=wJ.same s1
  dsimp only[aD]
  subst hR
  refine aU λR hR=>?_
  refine⟨_,rfl,F,L,rfl,f1,λwo Dw b kvs ss H2 k2 f2 hb2 hb4 wd' nD=>?_⟩
  have tb2:=bK.tb gp f1 k2
  obtain⟨rows,wd2⟩:=wd'.wd nD
  dsimp only[aD]
  subst hR
  refine aU λR hR=>?_
  refine⟨_,rfl,_,rfl,F,L,4,rfl,f2,by decide,small _ (by decide),λr H3 r1 k3 f3=>⟨F,L,r,rfl,f3,by omega,λpl pool H4 hpl k4 f4 kg amD Zh LK=>?_⟩⟩
  have k24:=k3.trans k4
  have tb4:=bK.tb tb2 f2 k24
  have Ks:=wd2.kb2 f2 k24
  have nd:=Zh.once
  have Kq:pool.length<=3:=by omega
  dsimp only[aD]
  subst hR
  refine aU λR hR=>?_
  refine⟨_,rfl,_,rfl,_,rfl,b,F,L,wo,Dw,pl,kvs,ss,pool,rows,rfl,f4,Ks,kg,Kq,λsy f H5 k5 f5 ZC fo=>?_⟩
  have uw:=bK.tb tb4 f4 k5
  have wI:=Ks.kb2 f4 k5
  have M':=f4.ktu k5 _ _ kg
  clear wJ gp tb2 tb4 f1 f2 f3 f4 k2 k3 k4 k24 k5 wd' wd2 Ks kg s1 hF hL hpl
  dsimp only[aD]
  subst hR
  refine aU λR hR=>?_
  obtain⟨w0,xs0,esy,pe,lx4⟩:=S_ ZC fo
  refine⟨_,rfl,_,rfl,sy,pl,w0,xs0,kd f,pool,rfl,esy,pe,lx4,M',Kq,λnm H6 s6 o_=>?_⟩
  have L9:=Np fo LK nd
  have ZD:(pool.filter λn=>decide (n∈(kd f).flatten)).length<=3:=A5 (DL _ _) Kq
  generalize (pool.filter λn=>decide (n∈(kd f).flatten))=ks at o_ L9 ZD
  have tb6:=uw.same s6
  have UM:=wI.same s6
  have f6:=f5.same s6
  have UN:=ZC.keep s6.kt
  clear uw wI f5 ZC esy pe s6 M'
  have UO:=L9.once
  dsimp only[aD]
  subst hR
  refine aU λR hR=>?_
  refine⟨_,rfl,_,rfl,?_⟩
  dsimp only[Tx,tC,WX,A8]
  refine abE hb2 hb4 UM UN fo Kq nd tb6 (λH7 k7 tb7 bg=>?_) (λks' p n1 bs mw H7 k7 tb7 fr tl=>?_)
  ·
   have ZE:=UM.kx k7
   have UP:=UN.keep k7.kt
   obtain⟨w1,ws,els,e1,e2,e3,e4,e5,e6,e7⟩:=S3 (rows:=rows) UP fo bg
   dsimp only[aD]
   subst hR
   refine aU λR hR=>?_
   refine⟨_,rfl,rfl,_,rfl,?_⟩
   refine bJ (λ_=>?_) (λz=>absurd rfl z)
   refine⟨_,rfl,_,rfl,b,F,L,wo,Dw,sy,kvs,ss,rows,w1,ws,els,rfl,ZE,e1,e2,e3,e4,e5,e6,λH8 s8=>⟨_,_,rfl,rfl,?_⟩⟩
   dsimp only
   rw[decide_eq_true e7]
   exact q H8
  cases fr.uniq L9
  have ZE:=UM.kx k7
  have UP:=UN.keep k7.kt
  have f7:=f6.kx k7
  have en7:=k7.kt _ _ o_
  clear tb6 UM f6 UN o_ k7
  dsimp only[aD]
  subst hR
  refine aU λR hR=>?_
  refine⟨_,rfl,rfl,_,rfl,?_⟩
  refine bJ (λz=>absurd z (by simp)) (λ_=>?_)
  dsimp only[tN]
  subst hR
  refine aU λR hR=>?_
  obtain⟨ya,va,mps,e1,e2,e3,tp⟩:=id tl.lJ
  have D1:ax K H7 (.ref n1) (.tup (ks.map Dt.str)):=iR (.of tl.nm) (tM _)
  have D2:ax K H7 (.ref nm) (.tup (ks.map Dt.str)):=iR (.of en7) (tM _)
  refine⟨_,rfl,p,_,_,.ref n1,rfl,rfl,.of e1,ak (j:=0) rfl,_,rfl,⟨⟨_,_,D1,D2,rfl,rfl,QL _,_,rfl,?_⟩,_,_,D1,D2,.inl ⟨_,_,rfl,rfl⟩⟩⟩
  rw[if_pos rfl,Dt.beq_refl]
  refine lN ?_
  clear D1 D2 e1 e2 e3 tp tb7
  dsimp only[tN]
  subst hR
  refine aU λR hR=>?_
  have fd:=f7
  have en:=en7
  obtain⟨fms,fn,fsd,fe1,Zp,_⟩:=fd.ex
  refine⟨_,rfl,nm,rfl,⟨_,.of en⟩,λC hC=>?_⟩
  refine cR (xs:=ks.map V.str) (λi σ H'=>∃(ps:List Addr) (v:Option V),σ=[v]/\Same H7 H'/\H' C=some (.lst (ps.map V.ref))/\iM H' ps ((ks.take i).map λn=>(n,(0:Int))))
   ⟨[],none,?sg2,Same.new hC,af,.nil⟩ (by rintro i σ H' _ ⟨_,_,_,s',_⟩;exact .of (s' _ _ en)) ?_ ?_
  case sg2=>rfl
  ·rintro i x σ J hx ⟨ps,v,rfl,sJ,cJ,tp⟩
   obtain⟨n,rfl,en'⟩:=iS hx
   have hi:=(AF.mp en').1
   have lps:ps.length<=3:=by rw[Ag tp,AA,Ao];omega
   refine⟨_,rfl,by show 2<=sizeLine;decide,λp hp=>?_⟩
   have sp:=Same.new (o:=.tup [.str n,.int 0]) hp
   have cp:=sp _ _ cJ
   have kC:bj (upd J p (.tup [.str n,.int 0])) (upd (upd J p (.tup [.str n,.int 0])) C (.lst (ps.map V.ref++[.ref p]))):=bj.lst cp
   refine⟨_,cp,by rw[AA];omega,ps++[p],_,rfl,(sJ.trans sp).kbn hC KB.write,by rw[af,AI];rfl,?_⟩
   rw[take_snoc en',AI]
   exact bO ((iM.keep tp sp.kt).keep kC) (.cons (kC _ _ af) .nil)
  rintro σ J ⟨ps,v,rfl,sJ,cJ,tp⟩
  rw[AA,Ap] at tp
  have lps:ps.length<=3:=by rw[Ag tp,AA];omega
  refine⟨C,ps,_,rfl,cJ,Kt tp,by rw[AA,<-Ag tp];omega,λD hD=>?_⟩
  rw[tL (qs:=ks.map λn=>(n,(0:Int))) (ks:=ks) (by rw[BL];exact Ee _) UO,yQ UO]
  have bd0:Bd λn=>bH n (ks.map λn=>(n,(0:Int))) 0:=λn=>by
   have:=tK n (B:=0) (ks.map λn=>(n,(0:Int))) 0 (λq hq=>by obtain⟨m,_,rfl⟩:=AZ.mp hq;exact⟨B7 _,B7 _⟩) (B7 _) (B7 _)
   exact⟨this.1,Int.le_trans this.2 (by decide)⟩
  generalize (λn=>bH n (ks.map λn=>(n,(0:Int))) 0)=v0 at bd0 ⊢
  have sD:=Same.new (o:=.dK (dj v0 ks)) hD
  have nDD:=(fd.same sJ).jJ hD
  refine⟨by show 1<=sizeLine;decide,λas has=>?_⟩
  have ZF:=Same.new (o:=.lst [.ref D]) has
  have nDa:D≠as:=aA (show(upd J D (.dK (dj v0 ks))) D=some _ from af) has
  have S7:H7 as=none:=sJ.free (sD.free has)
  have Ma:=fd.jJ S7
  have gU:=(sJ.trans sD).trans ZF
  have eD0:(upd (upd J D (.dK (dj v0 ks))) as (.lst [.ref D])) D=some (.dK (dj v0 ks)):=ZF _ _ af
  have eA0:(upd (upd J D (.dK (dj v0 ks))) as (.lst [.ref D])) as=some (.lst ([D].map V.ref)):=af
  generalize upd (upd J D (.dK (dj v0 ks))) as (.lst [.ref D])=J0 at gU eD0 eA0 ⊢
  clear ZF sD sJ cJ tp hC has hD
  dsimp only[aD]
  subst hR
  refine aU λR hR=>?_
  refine⟨_,rfl,by decide,by decide,mR (n:=5) (λi σ H'=>∃(Ds:List Addr) (x8 x9:Option V),σ=[some (.ref sa),some (.ref F),some (.ref wo),some (.ref pl),some (.ref sy),some (.ref nm),some (.ref p),some (.ref as),x8,x9,none]/\cy F L H7 H'/\bK H' F L/\H' as=some (.lst (Ds.map V.ref))/\Ds.length<=1+2*i/\∀D∈Ds,D≠F/\D≠L/\D≠as/\∃v,Rd H' D (.dK (dj v ks))/\Bd v)
   ⟨[D],none,none,rfl,gU.kb2,fd.same gU,eA0,AM _,λD' hD'=>by rw[AW.mp hD'];exact⟨nDD.1,nDD.2,nDa,v0,.inl eD0,bd0⟩⟩ ?_ ?_⟩
  ·rintro i σ J N hN hi ⟨Ds,x8,x9,rfl,kJ,fJ,UQ,lDs,UR⟩
   dsimp only[aD]
   refine aU λR2 QS=>?_
   have QT:=fd.ktu kJ _ _ en
   refine⟨_,rfl,nm,rfl,⟨_,.of QT⟩,λC hC=>?_⟩
   have nC:=fJ.jJ hC
   refine cR (xs:=ks.map V.str) (λj σ H'=>∃(ps:List Addr) (qs:List (Str×Int)) (v:Option V),σ=[v,some (.ref F)]/\cy F L J H'/\bK H' F L/\H' C=some (.lst (ps.map V.ref))/\iM H' ps qs/\qs.map (·.1)=ks.take j/\∀q∈qs,0<=q.2/\q.2<=10 ^ 60)
    ⟨[],[],none,?sg3,(Same.new hC).kb2,fJ.same (Same.new hC),af,.nil,rfl,λq hq=>(by cases hq)⟩ (by rintro j σ H' _ ⟨_,_,_,_,k',_⟩;exact .of (fJ.ktu k' _ _ QT)) ?_ ?_
   case sg3=>rfl
   ·rintro j x σ J1 hx ⟨ps,qs,v,rfl,k1,f1,c1,tp,eq,hq⟩
    obtain⟨n,rfl,en'⟩:=iS hx
    have hj:=(AF.mp en').1
    have lps:ps.length<=3:=by
     have:=congrArg Ed eq
     rw[AA,Ao] at this
     rw[Ag tp];omega
    refine⟨_,rfl,_,rfl,F,L,rfl,f1,λr J2 r1 k2 f2=>⟨by show 2<=sizeLine;decide,λp hp=>?_⟩⟩
    have sp:=Same.new (o:=.tup [.str n,.int (r:Nat)]) hp
    have k12:=k2.trans sp.kb2
    have cp:=k12 _ _ c1 nC.1 nC.2
    have tpp:iM (upd J2 p (.tup [.str n,.int (r:Nat)])) ps qs:=iM.keep tp (f1.ktu k12)
    have kC:bj (upd J2 p (.tup [.str n,.int (r:Nat)])) (upd (upd J2 p (.tup [.str n,.int (r:Nat)])) C (.lst (ps.map V.ref++[.ref p]))):=bj.lst cp
    refine⟨_,cp,by rw[AA];omega,ps++[p],qs++[(n,(r:Int))],_,rfl,cy.qO (k1.trans k12) hC,(f2.same sp).upd nC,by rw[af,AI];rfl,bO (tpp.keep kC) (.cons (kC _ _ af) .nil),by rw[AI,eq,take_snoc en'];rfl,λq hq'=>?_⟩
    rcases Ac.mp hq' with z | z
    ·exact hq q z
    ·rw[AW.mp z]
     exact⟨by show(0:Int)<=r;omega,by show(r:Int)<=10 ^ 60;omega⟩
   rintro σ J1 ⟨ps,qs,v,rfl,k1,f1,c1,tp,eq,hq⟩
   rw[AA,Ap] at eq
   have lps:ps.length<=3:=by
    have:=congrArg Ed eq
    rw[AA] at this
    rw[Ag tp];omega
   refine⟨C,ps,_,rfl,c1,Kt tp,by rw[AA,<-Ag tp];omega,λD1 hD1=>?_⟩
   rw[tL eq UO,yQ UO]
   have hv1:∀n,0<=bH n qs 0/\bH n qs 0<=10 ^ 60:=λn=>tK n qs 0 hq (B7 _) (by decide)
   generalize hvv:(λn=>bH n qs 0)=v1
   have hv1':∀n,0<=v1 n/\v1 n<=10 ^ 60:=λn=>by rw[<-hvv];exact hv1 n
   have bd1:Bd v1:=λn=>⟨(hv1' n).1,Int.le_trans (hv1' n).2 (by decide)⟩
   have wH:=Same.new (o:=.dK (dj v1 ks)) hD1
   have Jw:=f1.jJ hD1
   have ZG:=k1 _ _ UQ Ma.1 Ma.2
   have Ky:as≠D1:=aA ZG hD1
   have k13:=(kJ.trans k1).trans wH.kb2
   have Nw:=wH _ _ ZG
   have sI:(upd J1 D1 (.dK (dj v1 ks))) D1=some (.dK (dj v1 ks)):=af
   have f2:=f1.same wH
   have old:∀{b:Addr} {o:HO},J b=some o->b≠F->b≠L->(upd J1 D1 (.dK (dj v1 ks))) b=some o/\b≠D1:=λ{b o} e n1 n2=>⟨wH _ _ (k1 _ _ e n1 n2),aA (k1 _ _ e n1 n2) hD1⟩
   have hJD:∀{b:Addr} {o:HO},H7 b=some o->b≠F->b≠L->b≠D1:=λ{b o} e n1 n2=>(old (kJ _ _ e n1 n2) n1 n2).2
   have S8:∀D∈Ds,D≠F/\D≠L/\D≠as/\D≠D1/\∃v,Rd (upd J1 D1 (.dK (dj v1 ks))) D (.dK (dj v ks))/\Bd v:=λD' hD'=>by
    obtain⟨n1,n2,n3,v2,rd,bd⟩:=UR D' hD'
    rcases rd with e | ⟨ob,e⟩
    ·obtain⟨e2,n4⟩:=old e n1 n2
     exact⟨n1,n2,n3,n4,v2,.inl e2,bd⟩
    ·obtain⟨e2,n4⟩:=old e n1 n2
     exact⟨n1,n2,n3,n4,v2,.inr ⟨ob,e2⟩,bd⟩
   generalize upd J1 D1 (.dK (dj v1 ks))=J2 at k13 Nw sI f2 old S8 ⊢
   clear wH c1 tp eq hq k1 hC f1 hv1 hvv old UR
   dsimp only[aD]
   subst QS
   refine aU λR2 QS=>?_
   refine⟨_,rfl,.inl ⟨rfl,_,.of Nw⟩,_,rfl,as,_,_,rfl,rfl,Nw,by rw[AA];omega,?_⟩
   have k3:cy F L H7 (upd J2 as (.lst (Ds.map V.ref++[.ref D1]))):=cy.qO k13 S7
   have f3:=f2.upd (o:=.lst (Ds.map V.ref++[.ref D1])) Ma
   have S9:(upd J2 as (.lst (Ds.map V.ref++[.ref D1]))) as=some (.lst ((Ds++[D1]).map V.ref)):=by rw[af,AI];rfl
   have yH:(upd J2 as (.lst (Ds.map V.ref++[.ref D1]))) D1=some (.dK (dj v1 ks)):=by rw[aB Ky.symm];exact sI
   have S':∀D∈Ds,D≠F/\D≠L/\D≠as/\D≠D1/\∃v,Rd (upd J2 as (.lst (Ds.map V.ref++[.ref D1]))) D (.dK (dj v ks))/\Bd v:=λD' hD'=>by
    obtain⟨n1,n2,n3,n4,v2,rd,bd⟩:=S8 D' hD'
    refine⟨n1,n2,n3,n4,v2,?_,bd⟩
    rcases rd with e | ⟨ob,e⟩
    ·exact .inl (by rw[aB n3];exact e)
    ·exact .inr ⟨ob,by rw[aB n3];exact e⟩
   generalize upd J2 as (.lst (Ds.map V.ref++[.ref D1]))=J3 at k3 f3 S9 yH S' ⊢
   clear S8 Nw sI f2 k13
   have YS:=fd.ktu k3
   have es3:=UP.keep YS
   obtain⟨w1,ws1,ew,hw1⟩:=Wx es3 fo
   dsimp only
   subst QS
   refine⟨_,rfl,sy,_,_,.str w1,rfl,rfl,.of ew,ak (j:=0) rfl,by show 2<=sizeLine;decide,λZ0 hZ0=>⟨Z0,_,rfl,.inr (.of af),rfl,rfl,_,rfl,?_⟩⟩
   have mO:=Same.new (o:=.tup [.str "same",.str "less"]) hZ0
   rw[if_neg An,show inV (.str w1) [V.str "same",V.str "less"]=decide (w1∈(["same","less"]:List Str)) from ku w1 ["same","less"]]
   have ZH:∀{D:Addr} {v:Str->Int} {X X':Hp},Same X X'->Rd X D (.dK (dj v ks))->Rd X' D (.dK (dj v ks)):=λs h=>h.elim (λe=>.inl (s _ _ e)) (λ⟨o,e⟩=>.inr ⟨o,s _ _ e⟩)
   refine bJ (λz=>?_) (λ_=>?_)
   ·obtain⟨ta,tb',t,u,rfl,et,eu,pt,pu,ff⟩:=hw1 (of_decide_eq_true z)
    have tk:∀q∈t.parts,q.1∈ks:=λq hq=>(L9.mem _).mpr (ff _ (.inl (AZ.mpr ⟨q,hq,rfl⟩)))
    have uk:∀q∈u.parts,q.1∈ks:=λq hq=>(L9.mem _).mpr (ff _ (.inr (AZ.mpr ⟨q,hq,rfl⟩)))
    have Ta:=mO _ _ S9
    refine⟨_,rfl,.inl ⟨rfl,_,.of Ta⟩,_,rfl,_,rfl,sy,_,_,.ref ta,rfl,rfl,.of (mO _ _ ew),ak (j:=1) rfl,_,rfl,sy,_,_,.ref tb',rfl,rfl,.of (mO _ _ ew),ak (j:=2) rfl,_,rfl,F,L,ta,tb',D1,t,u,ks,v1,rfl,f3.same mO,et.keep mO.kt,eu.keep mO.kt,pt.sm,pu.sm,pt.few,pu.few,tk,uk,mO _ _ yH,Jw.1,ZD,hv1',λo Dn v' J4 kp f4 LW wG aeV hv'=>?_⟩
    have aeW:=kp _ _ Ta Ma.1 Ma.2 Ky
    have ZI:Dn≠as:=λz=>by rw[z,Ta] at wG;cases wG
    have nDn:=(f3.same mO).jJ wG
    refine⟨as,_,_,rfl,rfl,aeW,by rw[AA,AK];show Ds.length+1<_;omega,hN _ _ ⟨Ds++[D1]++[Dn],_,_,rfl,λb o e n1 n2=>?_,f4.upd Ma,by rw[af,AI (l₂:=[Dn])];rfl,by rw[AK,AK];show Ds.length+1+1<=_;omega,λD' hD'=>?_⟩⟩
    ·rw[aB (aA e S7)]
     exact kp _ _ (mO _ _ (k3 _ _ e n1 n2)) n1 n2 (hJD e n1 n2)
    ·rcases Ac.mp hD' with z | z
     ·rcases Ac.mp z with z | z
      ·obtain⟨n1,n2,n3,n4,v2,rd,bd⟩:=S' D' z
       refine⟨n1,n2,n3,v2,?_,bd⟩
       rcases rd with e | ⟨ob,e⟩
       ·exact .inl (by rw[aB n3];exact kp _ _ (mO _ _ e) n1 n2 n4)
       ·exact .inr ⟨ob,by rw[aB n3];exact kp _ _ (mO _ _ e) n1 n2 n4⟩
      ·rw[AW.mp z]
       exact⟨Jw.1,Jw.2,Ky.symm,v1,.inr ⟨o,by rw[aB Ky.symm];exact LW⟩,bd1⟩
     ·rw[AW.mp z]
      exact⟨nDn.1,nDn.2,ZI,v',.inl (by rw[aB ZI];exact aeV),hv'⟩
   ·refine hN _ _ ⟨Ds++[D1],_,_,rfl,k3.trans mO.kb2,f3.same mO,mO _ _ S9,by rw[AK];show Ds.length+1<=_;omega,λD' hD'=>?_⟩
    rcases Ac.mp hD' with z | z
    ·obtain⟨n1,n2,n3,n4,v2,rd,bd⟩:=S' D' z
     exact⟨n1,n2,n3,v2,ZH mO rd,bd⟩
    ·rw[AW.mp z]
     exact⟨Jw.1,Jw.2,Ky.symm,v1,.inl (mO _ _ yH),bd1⟩
  ·rintro σ J ⟨Ds,x8,x9,rfl,kJ,fJ,UQ,lDs,UR⟩
   subst hR
   dsimp only
   refine aU λR hR=>?_
   have ZJ:=fd.ktu kJ
   have QT:=ZJ _ _ en
   have esJ:=UP.keep ZJ
   have wdJ:=ZE.kb2 fd kJ
   have US:=tl.keep ZJ
   refine⟨_,rfl,as,rfl,⟨_,.of UQ⟩,OB (xs:=Ds.map V.ref) (λi σ H'=>∃x9 x10:Option V,σ=[some (.ref sa),some (.ref F),some (.ref wo),some (.ref pl),some (.ref sy),some (.ref nm),some (.ref p),some (.ref as),x8,x9,x10]/\Same J H')
    ⟨x9,none,rfl,.refl _⟩ (by rintro i σ H' _ ⟨_,_,_,s'⟩;exact .of (s' _ _ UQ)) ?_ ?_⟩
   ·rintro i x σ J1 N hN hx ⟨x9,x10,rfl,s1⟩
    obtain⟨D',rfl,eD'⟩:=kP hx
    obtain⟨_,_,_,v,ZH,bd⟩:=UR D' (AG eD')
    have rdS:∀{H':Hp},Same J H'->Rd H' D' (.dK (dj v ks)):=λ{H'} s=>by
     rcases ZH with z | ⟨o,z⟩
     ·exact .inl (s _ _ z)
     ·exact .inr ⟨o,s _ _ z⟩
    dsimp only[aD]
    refine aU λR2 QS=>?_
    refine⟨_,rfl,wo,_,_,.int (b:Nat),rfl,rfl,.of (s1 _ _ wdJ.wo),ak (j:=0) rfl,_,rfl,_,rfl,nm,rfl,⟨_,.of (s1 _ _ QT)⟩,λC hC=>?_⟩
    refine cR (xs:=ks.map V.str) (λj σ H'=>∃v0:Option V,σ=[v0,some (.ref D')]/\Same J1 H'/\H' C=some (.lst ((aC ((ks.take j).map λn=>(v n).toNat)).map V.int)))
     ⟨none,?sg4,Same.new hC,af⟩ (by rintro j σ H' _ ⟨_,_,s',_⟩;exact .of (s' _ _ (s1 _ _ QT))) ?_ ?_
    case sg4=>rfl
    ·rintro j y σ J2 hy ⟨v0,rfl,s2,c2⟩
     obtain⟨n,rfl,en'⟩:=iS hy
     have hj:=(AF.mp en').1
     refine⟨_,rfl,_,rfl,D',.int (v n),rfl,.inl ⟨_,Am n,rdS (s1.trans s2),rfl,(qg (AG en')).symm⟩,_,c2,by rw[AA,cj,AA,Ao];omega,_,rfl,s2.kbn hC KB.write,?_⟩
     rw[af,take_snoc en',AI,eO,AI]
     show some (HO.lst (_++[V.int (v n)]))=some (HO.lst (_++[V.int (((v n).toNat:Nat):Int)]))
     rw[BH (bd n).1]
    rintro σ J2 ⟨v0,rfl,s2,c2⟩
    rw[AA,Ap] at c2
    have s12:=s1.trans s2
    have lns:(ks.map λn=>(v n).toNat).length=ks.length:=AA _
    have nsb:∀n∈ks.map λn=>(v n).toNat,n<2 ^ 600:=λn hn=>by
     obtain⟨m,_,rfl⟩:=AZ.mp hn
     have h1:=(bd m).2
     have h2:(v m).toNat<=128 ^ 3*10 ^ 60:=by omega
     exact Ay h2 (AX (show 128 ^ 3*10 ^ 60<2 ^ 256 by decide) (A0 (by decide) (by decide)))
    have aeX:Nj b bs mw (ks.map λn=>(v n).toNat)=holds b rows v f:=US.say v λn=>(bd n).1
    refine⟨b,p,C,n1,bs,mw,_,rfl,hb2,hb4,US.lJ.keep s12.kt,by rw[lns];exact US.b_,US.pos,c2,by rw[lns];exact ZD,nsb,λJ3 s3=>?_⟩
    rw[aeX]
    have UT:=s12.trans s3
    dsimp only[aD]
    subst QS
    refine⟨_,rfl,.bl (holds b rows v f),_,"bool",true,rfl,.bl _,Zm,true,rfl,lN ?_⟩
    refine⟨_,rfl,_,rfl,_,rfl,_,rfl,b,F,L,wo,Dw,sy,D',kvs,ss,pool,ks,rows,f,v,rfl,hb2,hb4,wdJ.same UT,esJ.keep UT.kt,fo,⟨_,rdS UT,λm hm=>qg hm⟩,λn=>(bd n).1,λn hn=>(L9.mem n).mpr hn,λJ4 s4=>⟨rfl,_,rfl,?_⟩⟩
    refine bJ (λz=>?_) (λ_=>hN _ _ ⟨_,_,rfl,UT.trans s4⟩)
    exfalso
    simp at z
   ·rintro σ J1 ⟨x9,x10,rfl,s1⟩
    subst hR
    exact q J1
@[elab_as_elim] theorem oK {P:List Value->Prop} (us:List Value) (e:us.length=1) (h:∀a,P [a]):P us:=by
 cases us with
 | nil=>cases e
 | cons a us=>cases us with
  | nil=>exact h a
  | cons _ _=>cases e
@[elab_as_elim] theorem ln2 {P:List Value->Prop} (us:List Value) (e:us.length=2) (h:∀a0 a1,P [a0,a1]):P us:=by
 cases us with
 | nil=>cases e
 | cons a us=>exact oK (P:=λz=>P (a::z)) us (DV e) (h a)
@[elab_as_elim] theorem oz {P:List Value->Prop} (us:List Value) (e:us.length=3) (h:∀a0 a1 a2,P [a0,a1,a2]):P us:=by
 cases us with
 | nil=>cases e
 | cons a us=>exact ln2 (P:=λz=>P (a::z)) us (DV e) (h a)
@[elab_as_elim] theorem QU {P:List Value->Prop} (us:List Value) (e:us.length=4) (h:∀a0 a1 a2 a3,P [a0,a1,a2,a3]):P us:=by
 cases us with
 | nil=>cases e
 | cons a us=>exact oz (P:=λz=>P (a::z)) us (DV e) (h a)
@[elab_as_elim] theorem ln5 {P:List Value->Prop} (us:List Value) (e:us.length=5) (h:∀a0 a1 a2 a3 a4,P [a0,a1,a2,a3,a4]):P us:=by
 cases us with
 | nil=>cases e
 | cons a us=>exact QU (P:=λz=>P (a::z)) us (DV e) (h a)
@[elab_as_elim] theorem ln6 {P:List Value->Prop} (us:List Value) (e:us.length=6) (h:∀a0 a1 a2 a3 a4 a5,P [a0,a1,a2,a3,a4,a5]):P us:=by
 cases us with
 | nil=>cases e
 | cons a us=>exact ln5 (P:=λz=>P (a::z)) us (DV e) (h a)
theorem all_mk{l:GW}{w:World}{K:AB}{h:Heap}{mg:Str->Option Value}{fa:Addr}(X:K.In h)(G:h.Ns AY mg)(hfa:mg "law"=some (.ref fa))
  {f0:Addr} {od0 an0:Option Addr} {sl0:Array (Option Value)} {oc0 kV0 dc0 pm0 ct0:Value} {cd0:Value}
  {f1:Addr} {od1 an1:Option Addr} {sl1:Array (Option Value)} {oc1 kV1 dc1 pm1 ct1:Value} {cd1:Value}
  {f2:Addr} {od2 an2:Option Addr} {sl2:Array (Option Value)} {oc2 kV2 dc2 pm2 ct2:Value} {cd2:Value}
  {f3:Addr} {od3 ZK:Option Addr} {sl3:Array (Option Value)} {oc3 ZL ZM ZN ZO:Value} {QV:Addr}
  {Mb dn3:Nat} {aeY:Value} {aeZ:Option Addr} {ZP:Tok} {ae_:Array (Option Value)}
  {f4:Addr} {od4 an4:Option Addr} {sl4:Array (Option Value)} {oc4 kV4 dc4 pm4 ct4:Value} {cd4:Value}
  {f5:Addr} {od5 an5:Option Addr} {sl5:Array (Option Value)} {oc5 kV5 dc5 pm5 ct5:Value} {cd5:Value}
  {f6:Addr} {od6 an6:Option Addr} {sl6:Array (Option Value)} {oc6 kV6 dc6 pm6 ct6:Value} {cd6:Value}
  {f7:Addr} {od7 an7:Option Addr} {sl7:Array (Option Value)} {oc7 kV7 dc7 pm7 ct7:Value} {cd7:Value}
  {f8:Addr} {od8 an8:Option Addr} {sl8:Array (Option Value)} {oc8 kV8 dc8 pm8 ct8:Value} {cd8:Value}
  {f9:Addr} {od9 an9:Option Addr} {sl9:Array (Option Value)} {oc9 kV9 dc9 pm9 ct9:Value} {cd9:Value}
  {UU:Addr} {ae0 ae1:Option Addr} {ae2:Array (Option Value)} {ae3 ae4 ae5 ae6 ae7:Value} {ZQ:Value}
  {f11:Addr} {ae8 ae9:Option Addr} {ae':Array (Option Value)} {afa afb afc afd afe:Value} {ZR:Value}
  {UW:Addr} {aff afg:Option Addr} {afh:Array (Option Value)} {afi afj afk afl afm:Value} {ZS:Value}
  {UX:Addr} {afn afo:Option Addr} {afp:Array (Option Value)} {afq afr afs afu afv:Value} {ZT:Value}
  {UY:Addr} {afw afx:Option Addr} {afy:Array (Option Value)} {afz afA afB afC afD:Value} {ZU:Value}
  {UZ:Addr} {afE afF:Option Addr} {afG:Array (Option Value)} {afH afI afJ afK afL:Value} {ZV:Value}
  {U_:Addr} {afM afN:Option Addr} {afO:Array (Option Value)} {afP afQ afR afS afT:Value} {ZW:Value}
  {U0:Addr} {afU ZX:Option Addr} {afV:Array (Option Value)} {afW ZY ZZ Z_ Z1:Value} {xF:Addr}
  {pF:Addr} {abF:Option Addr} {qX:Array Value} {abG:Array (Option Value)}
  {U1:Addr} {afX Z2:Option Addr} {afY:Array (Option Value)} {afZ Z3 Z4 Z5 Z6:Value} {xG:Addr}
  {pG:Addr} {abH:Option Addr} {qY:Array Value} {abI:Array (Option Value)}
  {U2:Addr} {af_ af0:Option Addr} {af1:Array (Option Value)} {af2 af3 af4 af5 af6:Value} {Z7:Value}
  {U3:Addr} {af7 af8:Option Addr} {af9:Array (Option Value)} {af' aga agb agc agd:Value} {Z8:Value}
  {U4:Addr} {age Z9:Option Addr} {agf:Array (Option Value)} {agg Z' aac aad aae:Value} {xH:Addr}
  {pH:Addr} {abJ:Option Addr} {qZ:Array Value} {abK:Array (Option Value)}
  {U5:Addr} {agh aaf:Option Addr} {agi:Array (Option Value)} {agj aag aah aai aaj:Value} {xI:Addr}
  {pI:Addr} {abL:Option Addr} {q_:Array Value} {abM:Array (Option Value)}
  {U6:Addr} {agk agl:Option Addr} {agm:Array (Option Value)} {agn ago agp agq agr:Value} {aak:Value}
  {U7:Addr} {ags Tb:Option Addr} {agt:Array (Option Value)} {agu Td Te Tg Ti:Value} {Kz:Addr}
  {xJ agv:Nat} {abN:Value} {abO:Option Addr} {U8:Tok} {abP:Array (Option Value)}
  {U9:Addr} {agw agx:Option Addr} {agy:Array (Option Value)} {agz agA agB agC agD:Value} {aal:Value}
  {U':Addr} {agE agF:Option Addr} {agG:Array (Option Value)} {agH agI agJ agK agL:Value} {aam:Value}
  {Vb:Addr} {agM agN:Option Addr} {agO:Array (Option Value)} {agP agQ agR agS agT:Value} {aan:Value}
  {Vc:Addr} {agU agV:Option Addr} {agW:Array (Option Value)} {agX agY agZ ag_ ag0:Value} {aao:Value}
  {Vd:Addr} {ag1 ag2:Option Addr} {ag3:Array (Option Value)} {ag4 ag5 ag6 ag7 ag8:Value} {aap:Value}
  {Ve:Addr} {ag9 ag':Option Addr} {aha:Array (Option Value)} {ahb ahc ahd ahe ahf:Value} {aaq:Value}
  {Vf:Addr} {ahg ahh:Option Addr} {ahi:Array (Option Value)} {ahj ahk ahl ahm ahn:Value} {aar:Value}
  {f32:Addr} {aho ahp:Option Addr} {ahq:Array (Option Value)} {ahr ahs aht ahu ahv:Value} {aas:Value}
  {Vg:Addr} {ahw ahx:Option Addr} {ahy:Array (Option Value)} {ahz ahA ahB ahC ahD:Value} {aat:Value}
  {Vh:Addr} {ahE ahF:Option Addr} {ahG:Array (Option Value)} {ahH ahI ahJ ahK ahL:Value} {aau:Value}
  {Vi:Addr} {ahM ahN:Option Addr} {ahO:Array (Option Value)} {ahP ahQ ahR ahS ahT:Value} {aav:Value}
  {Vj:Addr} {ahU ahV:Option Addr} {ahW:Array (Option Value)} {ahX ahY ahZ ah_ ah0:Value} {aaw:Value}
  {Vk:Addr} {ah1 ah2:Option Addr} {ah3:Array (Option Value)} {ah4 ah5 ah6 ah7 ah8:Value} {aax:Value}
  {Vl:Addr} {ah9 ah':Option Addr} {aia:Array (Option Value)} {aib aic aid aie aif:Value} {aay:Value}
  {Vm:Addr} {aih aii:Option Addr} {aij:Array (Option Value)} {aik ail aim ain aio:Value} {aaz:Value}
  {Vn:Addr} {aip aiq:Option Addr} {air:Array (Option Value)} {ais ait aiu aiv aiw:Value} {aaA:Value}
  {Vo:Addr} {aix aiy:Option Addr} {aiz:Array (Option Value)} {aiA aiB aiC aiD aiE:Value} {aaB:Value}
  {f42:Addr} {aiF aaD:Option Addr} {aiG:Array (Option Value)} {aiH aaE aaF aaG aaH:Value} {Tj:Value}
  (a0:AQ K AY "figures_of"=some (some (.ref f0))) (l0:K.lookup f0=some ⟨oc0,od0,.func (Ad "figures_of" "figures_of" (aH f_) (aG f_) (ah f_) .none kV0 dc0 pm0 an0 cd0 ct0),sl0⟩) (c0:Af K cd0 "figures_of"=true) (k0:AH K (.ref f0)=true)
  (a1:AQ K AY "all_letters"=some (some (.ref f1))) (l1:K.lookup f1=some ⟨oc1,od1,.func (Ad "all_letters" "all_letters" (aH d4) (aG d4) (ah d4) .none kV1 dc1 pm1 an1 cd1 ct1),sl1⟩) (c1:Af K cd1 "all_letters"=true) (k1:AH K (.ref f1)=true)
  (a2:AQ K AY "room_after"=some (some (.ref f2))) (l2:K.lookup f2=some ⟨oc2,od2,.func (Ad "room_after" "room_after" (aH f') (aG f') (ah f') .none kV2 dc2 pm2 an2 cd2 ct2),sl2⟩) (c2:Af K cd2 "room_after"=true) (k2:AH K (.ref f2)=true)
  (a3:AQ K AY "grown_from"=some (some (.ref f3))) (l3:K.lookup f3=some ⟨oc3,od3,.func (Ad "grown_from" "grown_from" (aH bZ) (aG bZ) (ah bZ) (.ref Mb) ZL ZM ZN ZK (.ref QV) ZO),sl3⟩) (c3:Af K (.ref QV) "grown_from"=true) (k3:AH K (.ref f3)=true)
  (ld3:K.lookup Mb=some ⟨aeY,aeZ,.seq #[(.int 2000 ZP)] dn3,ae_⟩)
  (a4:AQ K AY "machine_of"=some (some (.ref f4))) (l4:K.lookup f4=some ⟨oc4,od4,.func (Ad "machine_of" "machine_of" (aH gb) (aG gb) (ah gb) .none kV4 dc4 pm4 an4 cd4 ct4),sl4⟩) (c4:Af K cd4 "machine_of"=true) (k4:AH K (.ref f4)=true)
  (a5:AQ K AY "inner_parts"=some (some (.ref f5))) (l5:K.lookup f5=some ⟨oc5,od5,.func (Ad "inner_parts" "inner_parts" (aH d6) (aG d6) (ah d6) .none kV5 dc5 pm5 an5 cd5 ct5),sl5⟩) (c5:Af K cd5 "inner_parts"=true) (k5:AH K (.ref f5)=true)
  (a6:AQ K AY "term_names"=some (some (.ref f6))) (l6:K.lookup f6=some ⟨oc6,od6,.func (Ad "term_names" "term_names" (aH fg) (aG fg) (ah fg) .none kV6 dc6 pm6 an6 cd6 ct6),sl6⟩) (c6:Af K cd6 "term_names"=true) (k6:AH K (.ref f6)=true)
  (a7:AQ K AY "parts_in_order"=some (some (.ref f7))) (l7:K.lookup f7=some ⟨oc7,od7,.func (Ad "parts_in_order" "parts_in_order" (aH dN) (aG dN) (ah dN) .none kV7 dc7 pm7 an7 cd7 ct7),sl7⟩) (c7:Af K cd7 "parts_in_order"=true) (k7:AH K (.ref f7)=true)
  (a8:AQ K AY "told_of_parts"=some (some (.ref f8))) (l8:K.lookup f8=some ⟨oc8,od8,.func (Ad "told_of_parts" "told_of_parts" (aH dg) (aG dg) (ah dg) .none kV8 dc8 pm8 an8 cd8 ct8),sl8⟩) (c8:Af K cd8 "told_of_parts"=true) (k8:AH K (.ref f8)=true)
  (a9:AQ K AY "names_over"=some (some (.ref f9))) (l9:K.lookup f9=some ⟨oc9,od9,.func (Ad "names_over" "names_over" (aH fh) (aG fh) (ah fh) .none kV9 dc9 pm9 an9 cd9 ct9),sl9⟩) (c9:Af K cd9 "names_over"=true) (k9:AH K (.ref f9)=true)
  (a10:AQ K AY "names_by_place"=some (some (.ref UU))) (l10:K.lookup UU=some ⟨ae3,ae0,.func (Ad "names_by_place" "names_by_place" (aH dP) (aG dP) (ah dP) .none ae4 ae5 ae6 ae1 ZQ ae7),ae2⟩) (c10:Af K ZQ "names_by_place"=true) (k10:AH K (.ref UU)=true)
  (a11:AQ K AY "free_names"=some (some (.ref f11))) (l11:K.lookup f11=some ⟨afa,ae8,.func (Ad "free_names" "free_names" (aH gc) (aG gc) (ah gc) .none afb afc afd ae9 ZR afe),ae'⟩) (c11:Af K ZR "free_names"=true) (k11:AH K (.ref f11)=true)
  (a12:AQ K AY "times_of"=some (some (.ref UW))) (l12:K.lookup UW=some ⟨afi,aff,.func (Ad "times_of" "times_of" (aH gP) (aG gP) (ah gP) .none afj afk afl afg ZS afm),afh⟩) (c12:Af K ZS "times_of"=true) (k12:AH K (.ref UW)=true)
  (a13:AQ K AY "sum_of"=some (some (.ref UX))) (l13:K.lookup UX=some ⟨afq,afn,.func (Ad "sum_of" "sum_of" (aH jy) (aG jy) (ah jy) .none afr afs afu afo ZT afv),afp⟩) (c13:Af K ZT "sum_of"=true) (k13:AH K (.ref UX)=true)
  (a14:AQ K AY "letter_sums"=some (some (.ref UY))) (l14:K.lookup UY=some ⟨afz,afw,.func (Ad "letter_sums" "letter_sums" (aH d8) (aG d8) (ah d8) .none afA afB afC afx ZU afD),afy⟩) (c14:Af K ZU "letter_sums"=true) (k14:AH K (.ref UY)=true)
  (a15:AQ K AY "differences"=some (some (.ref UZ))) (l15:K.lookup UZ=some ⟨afH,afE,.func (Ad "differences" "differences" (aH d9) (aG d9) (ah d9) .none afI afJ afK afF ZV afL),afG⟩) (c15:Af K ZV "differences"=true) (k15:AH K (.ref UZ)=true)
  (a16:AQ K AY "same_onward"=some (some (.ref U_))) (l16:K.lookup U_=some ⟨afP,afM,.func (Ad "same_onward" "same_onward" (aH fz) (aG fz) (ah fz) .none afQ afR afS afN ZW afT),afO⟩) (c16:Af K ZW "same_onward"=true) (k16:AH K (.ref U_)=true)
  (a17:AQ K AY "same_growth"=some (some (.ref U0))) (l17:K.lookup U0=some ⟨afW,afU,.func (Ad "same_growth" "same_growth" (aH bV) (aG bV) (ah bV) .none ZY ZZ Z_ ZX (.ref xF) Z1),afV⟩) (c17:Af K (.ref xF) "same_growth"=true) (k17:AH K (.ref U0)=true)
  (lc17:K.lookup xF=some ⟨.type "code",abF,.fields qX,abG⟩) (lv17:qX[11]? =some (.ref pF))
  (le17:((match (qX[11]? :Option Value) with | some (.ref P')=>P' == pF | _=>false)&&(match qX.getD 18 .none with | .str _ _=>true | _=>false)&&(match qX.getD 7 .none with | .int _ _=>true | _=>false)&&(match qX.getD 9 .none with | .bool _=>true | _=>false)&&(match qX.getD 10 .none with | .int _ _=>true | _=>false)&&xF != pF)=true)
  (ln17:K.lookup pF=none) (lt17:h.get? pF=some (Bn #[]))
  (a18:AQ K AY "less_growth"=some (some (.ref U1))) (l18:K.lookup U1=some ⟨afZ,afX,.func (Ad "less_growth" "less_growth" (aH bW) (aG bW) (ah bW) .none Z3 Z4 Z5 Z2 (.ref xG) Z6),afY⟩) (c18:Af K (.ref xG) "less_growth"=true) (k18:AH K (.ref U1)=true)
  (lc18:K.lookup xG=some ⟨.type "code",abH,.fields qY,abI⟩) (lv18:qY[11]? =some (.ref pG))
  (le18:((match (qY[11]? :Option Value) with | some (.ref P')=>P' == pG | _=>false)&&(match qY.getD 18 .none with | .str _ _=>true | _=>false)&&(match qY.getD 7 .none with | .int _ _=>true | _=>false)&&(match qY.getD 9 .none with | .bool _=>true | _=>false)&&(match qY.getD 10 .none with | .int _ _=>true | _=>false)&&xG != pG)=true)
  (ln18:K.lookup pG=none) (lt18:h.get? pG=some (Bn #[]))
  (a19:AQ K AY "row_onward"=some (some (.ref U2))) (l19:K.lookup U2=some ⟨af2,af_,.func (Ad "row_onward" "row_onward" (aH gf) (aG gf) (ah gf) .none af3 af4 af5 af0 Z7 af6),af1⟩) (c19:Af K Z7 "row_onward"=true) (k19:AH K (.ref U2)=true)
  (a20:AQ K AY "sign_from"=some (some (.ref U3))) (l20:K.lookup U3=some ⟨af',af7,.func (Ad "sign_from" "sign_from" (aH ig) (aG ig) (ah ig) .none aga agb agc af8 Z8 agd),af9⟩) (c20:Af K Z8 "sign_from"=true) (k20:AH K (.ref U3)=true)
  (a21:AQ K AY "sign_growth"=some (some (.ref U4))) (l21:K.lookup U4=some ⟨agg,age,.func (Ad "sign_growth" "sign_growth" (aH bP) (aG bP) (ah bP) .none Z' aac aad Z9 (.ref xH) aae),agf⟩) (c21:Af K (.ref xH) "sign_growth"=true) (k21:AH K (.ref U4)=true)
  (lc21:K.lookup xH=some ⟨.type "code",abJ,.fields qZ,abK⟩) (lv21:qZ[11]? =some (.ref pH))
  (le21:((match (qZ[11]? :Option Value) with | some (.ref P')=>P' == pH | _=>false)&&(match qZ.getD 18 .none with | .str _ _=>true | _=>false)&&(match qZ.getD 7 .none with | .int _ _=>true | _=>false)&&(match qZ.getD 9 .none with | .bool _=>true | _=>false)&&(match qZ.getD 10 .none with | .int _ _=>true | _=>false)&&xH != pH)=true)
  (ln21:K.lookup pH=none) (lt21:h.get? pH=some (Bn #[]))
  (a22:AQ K AY "alike_growth"=some (some (.ref U5))) (l22:K.lookup U5=some ⟨agj,agh,.func (Ad "alike_growth" "alike_growth" (aH bt) (aG bt) (ah bt) .none aag aah aai aaf (.ref xI) aaj),agi⟩) (c22:Af K (.ref xI) "alike_growth"=true) (k22:AH K (.ref U5)=true)
  (lc22:K.lookup xI=some ⟨.type "code",abL,.fields q_,abM⟩) (lv22:q_[11]? =some (.ref pI))
  (le22:((match (q_[11]? :Option Value) with | some (.ref P')=>P' == pI | _=>false)&&(match q_.getD 18 .none with | .str _ _=>true | _=>false)&&(match q_.getD 7 .none with | .int _ _=>true | _=>false)&&(match q_.getD 9 .none with | .bool _=>true | _=>false)&&(match q_.getD 10 .none with | .int _ _=>true | _=>false)&&xI != pI)=true)
  (ln22:K.lookup pI=none) (lt22:h.get? pI=some (Bn #[]))
  (a23:AQ K AY "atom_growth"=some (some (.ref U6))) (l23:K.lookup U6=some ⟨agn,agk,.func (Ad "atom_growth" "atom_growth" (aH fA) (aG fA) (ah fA) .none ago agp agq agl aak agr),agm⟩) (c23:Af K aak "atom_growth"=true) (k23:AH K (.ref U6)=true)
  (a24:AQ K AY "atom_of"=some (some (.ref U7))) (l24:K.lookup U7=some ⟨agu,ags,.func (Ad "atom_of" "atom_of" (aH dr) (aG dr) (ah dr) (.ref xJ) Td Te Tg Tb (.ref Kz) Ti),agt⟩) (c24:Af K (.ref Kz) "atom_of"=true) (k24:AH K (.ref U7)=true)
  (ld24:K.lookup xJ=some ⟨abN,abO,.seq #[(.int 2000 U8)] agv,abP⟩)
  (a25:AQ K AY "_law_feed"=some (some (.ref U9))) (l25:K.lookup U9=some ⟨agz,agw,.func (Ad "_law_feed" "_law_feed" (aH jz) (aG jz) (ah jz) .none agA agB agC agx aal agD),agy⟩) (c25:Af K aal "_law_feed"=true) (k25:AH K (.ref U9)=true)
  (a26:AQ K AY "_law_draw"=some (some (.ref U'))) (l26:K.lookup U'=some ⟨agH,agE,.func (Ad "_law_draw" "_law_draw" (aH kz) (aG kz) (ah kz) .none agI agJ agK agF aam agL),agG⟩) (c26:Af K aam "_law_draw"=true) (k26:AH K (.ref U')=true)
  (a27:AQ K AY "_law_after"=some (some (.ref Vb))) (l27:K.lookup Vb=some ⟨agP,agM,.func (Ad "_law_after" "_law_after" (aH jG) (aG jG) (ah jG) .none agQ agR agS agN aan agT),agO⟩) (c27:Af K aan "_law_after"=true) (k27:AH K (.ref Vb)=true)
  (a28:AQ K AY "_law_names"=some (some (.ref Vc))) (l28:K.lookup Vc=some ⟨agX,agU,.func (Ad "_law_names" "_law_names" (aH gB) (aG gB) (ah gB) .none agY agZ ag_ agV aao ag0),agW⟩) (c28:Af K aao "_law_names"=true) (k28:AH K (.ref Vc)=true)
  (a29:AQ K AY "_law_great"=some (some (.ref Vd))) (l29:K.lookup Vd=some ⟨ag4,ag1,.func (Ad "_law_great" "_law_great" (aH jH) (aG jH) (ah jH) .none ag5 ag6 ag7 ag2 aap ag8),ag3⟩) (c29:Af K aap "_law_great"=true) (k29:AH K (.ref Vd)=true)
  (a30:AQ K AY "_law_rings"=some (some (.ref Ve))) (l30:K.lookup Ve=some ⟨ahb,ag9,.func (Ad "_law_rings" "_law_rings" (aH jI) (aG jI) (ah jI) .none ahc ahd ahe ag' aaq ahf),aha⟩) (c30:Af K aaq "_law_rings"=true) (k30:AH K (.ref Ve)=true)
  (a31:AQ K AY "_law_row"=some (some (.ref Vf))) (l31:K.lookup Vf=some ⟨ahj,ahg,.func (Ad "_law_row" "_law_row" (aH iT) (aG iT) (ah iT) .none ahk ahl ahm ahh aar ahn),ahi⟩) (c31:Af K aar "_law_row"=true) (k31:AH K (.ref Vf)=true)
  (a32:AQ K AY "_law_world"=some (some (.ref f32))) (l32:K.lookup f32=some ⟨ahr,aho,.func (Ad "_law_world" "_law_world" (aH gC) (aG gC) (ah gC) .none ahs aht ahu ahp aas ahv),ahq⟩) (c32:Af K aas "_law_world"=true) (k32:AH K (.ref f32)=true)
  (a33:AQ K AY "_law_term"=some (some (.ref Vg))) (l33:K.lookup Vg=some ⟨ahz,ahw,.func (Ad "_law_term" "_law_term" (aH jA) (aG jA) (ah jA) .none ahA ahB ahC ahx aat ahD),ahy⟩) (c33:Af K aat "_law_term"=true) (k33:AH K (.ref Vg)=true)
  (a34:AQ K AY "_law_worth"=some (some (.ref Vh))) (l34:K.lookup Vh=some ⟨ahH,ahE,.func (Ad "_law_worth" "_law_worth" (aH iB) (aG iB) (ah iB) .none ahI ahJ ahK ahF aau ahL),ahG⟩) (c34:Af K aau "_law_worth"=true) (k34:AH K (.ref Vh)=true)
  (a35:AQ K AY "_law_says"=some (some (.ref Vi))) (l35:K.lookup Vi=some ⟨ahP,ahM,.func (Ad "_law_says" "_law_says" (aH jB) (aG jB) (ah jB) .none ahQ ahR ahS ahN aav ahT),ahO⟩) (c35:Af K aav "_law_says"=true) (k35:AH K (.ref Vi)=true)
  (a36:AQ K AY "_law_sign"=some (some (.ref Vj))) (l36:K.lookup Vj=some ⟨ahX,ahU,.func (Ad "_law_sign" "_law_sign" (aH kB) (aG kB) (ah kB) .none ahY ahZ ah_ ahV aaw ah0),ahW⟩) (c36:Af K aaw "_law_sign"=true) (k36:AH K (.ref Vj)=true)
  (a37:AQ K AY "_law_so"=some (some (.ref Vk))) (l37:K.lookup Vk=some ⟨ah4,ah1,.func (Ad "_law_so" "_law_so" (aH pZ) (aG pZ) (ah pZ) .none ah5 ah6 ah7 ah2 aax ah8),ah3⟩) (c37:Af K aax "_law_so"=true) (k37:AH K (.ref Vk)=true)
  (a38:AQ K AY "_law_saying"=some (some (.ref Vl))) (l38:K.lookup Vl=some ⟨aib,ah9,.func (Ad "_law_saying" "_law_saying" (aH fH) (aG fH) (ah fH) .none aic aid aie ah' aay aif),aia⟩) (c38:Af K aay "_law_saying"=true) (k38:AH K (.ref Vl)=true)
  (a39:AQ K AY "_law_near"=some (some (.ref Vm))) (l39:K.lookup Vm=some ⟨aik,aih,.func (Ad "_law_near" "_law_near" (aH kD) (aG kD) (ah kD) .none ail aim ain aii aaz aio),aij⟩) (c39:Af K aaz "_law_near"=true) (k39:AH K (.ref Vm)=true)
  (a40:AQ K AY "_law_at_most"=some (some (.ref Vn))) (l40:K.lookup Vn=some ⟨ais,aip,.func (Ad "_law_at_most" "_law_at_most" (aH fR) (aG fR) (ah fR) .none ait aiu aiv aiq aaA aiw),air⟩) (c40:Af K aaA "_law_at_most"=true) (k40:AH K (.ref Vn)=true)
  (a41:AQ K AY "_law_names_in"=some (some (.ref Vo))) (l41:K.lookup Vo=some ⟨aiA,aix,.func (Ad "_law_names_in" "_law_names_in" (aH dU) (aG dU) (ah dU) .none aiB aiC aiD aiy aaB aiE),aiz⟩) (c41:Af K aaB "_law_names_in"=true) (k41:AH K (.ref Vo)=true)
  (a42:AQ K AY "law"=some (some (.ref f42))) (l42:K.lookup f42=some ⟨aiH,aiF,.func (Ad "law" "law" (aH ji) (aG ji) (ah ji) .none aaE aaF aaG aaD Tj aaH),aiG⟩) (c42:Af K Tj "law"=true) (k42:AH K (.ref f42)=true)
  (z0:AQ K AY "range"=some none)
  (z1:AQ K AY "tuple"=some none)
  (z2:AQ K AY "len"=some none)
  (z3:AQ K AY "list"=some none)
  (z4:AQ K AY "dict"=some none)
  (z5:AQ K AY "sum"=some none)
  (z6:AQ K AY "sorted"=some none)
  (z7:AQ K AY "enumerate"=some none)
  (z8:AQ K AY "reversed"=some none)
  (z9:AQ K AY "abs"=some none)
  (z10:AQ K AY "isinstance"=some none)
  (z11:AQ K AY "str"=some none)
  (z12:AQ K AY "int"=some none)
  (z13:AQ K AY "bool"=some none)
  (z14:AQ K AY "set"=some none)
  (z15:AQ K AY "zip"=some none)
  (z16:AQ K AY "min"=some none)
  (z17:AQ K AY "max"=some none)
  (tne01:pF≠pG)
  (tne02:pF≠pH)
  (tne03:pF≠pI)
  (tne12:pG≠pH)
  (tne13:pG≠pI)
  (tne23:pH≠pI)
  {pd:Addr} {pes:Array DictEntry} {pn:Nat}
  {Nx:Addr} {abQ:Nat} {aaJ:_}
  {Ny:Addr} {abR:Nat} {aaK:_} {aaL:_}
  {Nz:Addr} {abS:Nat} {aaM:_} {aaN:_}
  {NA:Addr} {abT:Nat} {aaO:_}
  {NB:Addr} {abU:Nat} {aaP:_}
  (p_a:AQ K AY "PART_SPOTS"=some (some (.ref pd))) (p_l:K.lookup pd=some ⟨.type "dict",none,.dict pes pn, #[]⟩) (p_k:GV w.params pes.toList) (p_s:(pd == Ba)=false)
  (pq_no:AQ K pd "not"=some (some (.ref Nx))) (pr_no:K.lookup Nx=some ⟨.type "tuple",none,.seq #[.int 1 aaJ] abQ, #[]⟩)
  (pq_an:AQ K pd "and"=some (some (.ref Ny))) (pr_an:K.lookup Ny=some ⟨.type "tuple",none,.seq #[.int 1 aaK,.int 2 aaL] abR, #[]⟩)
  (pq_or:AQ K pd "or"=some (some (.ref Nz))) (pr_or:K.lookup Nz=some ⟨.type "tuple",none,.seq #[.int 1 aaM,.int 2 aaN] abS, #[]⟩)
  (pq_so:AQ K pd "some"=some (some (.ref NA))) (pr_so:K.lookup NA=some ⟨.type "tuple",none,.seq #[.int 2 aaO] abT, #[]⟩)
  (pq_ea:AQ K pd "each"=some (some (.ref NB))) (pr_ea:K.lookup NB=some ⟨.type "tuple",none,.seq #[.int 2 aaP] abU, #[]⟩)
  (pq_same:AQ K pd "same"=some none)
  (pq_less:AQ K pd "less"=some none)
  (pq_sign:AQ K pd "sign"=some none)
  (pq_alike:AQ K pd "alike"=some none)
  {sd:Addr} {ses:Array DictEntry} {sn:Nat}
  {NC:Addr} {abV:Nat} {aaR:_} {aaS:_}
  {ND:Addr} {abW:Nat} {aaT:_} {aaU:_}
  {NF:Addr} {abX:Nat} {aaV:_}
  {NG:Addr} {abY:Nat} {aaW:_} {aaX:_}
  (s_a:AQ K AY "TERM_SPOTS"=some (some (.ref sd))) (s_l:K.lookup sd=some ⟨.type "dict",none,.dict ses sn, #[]⟩) (s_k:GV w.params ses.toList) (s_s:(sd == Ba)=false)
  (sq_sa:AQ K sd "same"=some (some (.ref NC))) (sr_sa:K.lookup NC=some ⟨.type "tuple",none,.seq #[.int 1 aaR,.int 2 aaS] abV, #[]⟩)
  (sq_le:AQ K sd "less"=some (some (.ref ND))) (sr_le:K.lookup ND=some ⟨.type "tuple",none,.seq #[.int 1 aaT,.int 2 aaU] abW, #[]⟩)
  (sq_si:AQ K sd "sign"=some (some (.ref NF))) (sr_si:K.lookup NF=some ⟨.type "tuple",none,.seq #[.int 2 aaV] abX, #[]⟩)
  (sq_al:AQ K sd "alike"=some (some (.ref NG))) (sr_al:K.lookup NG=some ⟨.type "tuple",none,.seq #[.int 2 aaW,.int 4 aaX] abY, #[]⟩)
  (sq_not:AQ K sd "not"=some none)
  (sq_and:AQ K sd "and"=some none)
  (sq_or:AQ K sd "or"=some none)
  (sq_some:AQ K sd "some"=some none)
  (sq_each:AQ K sd "each"=some none)
  :∃(fd:Av) (ts:List Addr),(∀T∈ts,(∃c,EI h c T)/\h.get? T=some (Bn #[])/\K.lookup T=none)/\(∀(s:AN) (v:Value),Ha s fd ⟨[v],[]⟩ [("_law_script",v)])/\∀base:Heap,K.In base->base.Ns AY mg->eG mg base->aO l.prog w K mg base aW 7 fa fd ["_law_script"] (zF K ts):=by
 have e:=hfa.symm.trans (Ak X G a42)
 cases e
 have F0:=br (st:=f_) l0 c0 k0
 have b0:=F0.binds (ps:=["base","number"]) λ_ _ _ _ _ _ us hl=>ln2 us hl λ_ _=>rfl
 have F1:=br (st:=d4) l1 c1 k1
 have b1:=F1.binds (ps:=["base","many"]) λ_ _ _ _ _ _ us hl=>ln2 us hl λ_ _=>rfl
 have F2:=br (st:=f') l2 c2 k2
 have b2:=F2.binds (ps:=["moves","room","figures"]) λ_ _ _ _ _ _ us hl=>oz us hl λ_ _ _=>rfl
 have F3:=mX (st:=bZ) l3 c3 k3
 have b3:Binds K (Ad "grown_from" "grown_from" (aH bZ) (aG bZ) (ah bZ) (.ref Mb) ZL ZM ZN ZK (.ref QV) ZO) ["first","many","onward","is_yes","most"] []:=λs us hK hl=>ln5 us (by rw[A8] at hl;exact hl) λ_ _ _ _ _=>Dj (T:=Mb) rfl (hK _ _ ld3) rfl rfl rfl
 have d3:∃t,Binds K (Ad "grown_from" "grown_from" (aH bZ) (aG bZ) (ah bZ) (.ref Mb) ZL ZM ZN ZK (.ref QV) ZO) ["first","many","onward","is_yes","most"] [.int 2000 t]:=⟨ZP,λs us hK hl=>have h3:us.length=4:=(by simpa using hl);QU us h3 λ_ _ _ _=>Dj (T:=Mb) rfl (hK _ _ ld3) rfl rfl rfl⟩
 have F4:=br (st:=gb) l4 c4 k4
 have b4:=F4.binds (ps:=["base","names","growth","most"]) λ_ _ _ _ _ _ us hl=>QU us hl λ_ _ _ _=>rfl
 have F5:=br (st:=d6) l5 c5 k5
 have b5:=F5.binds (ps:=["saying"]) λ_ _ _ _ _ _ us hl=>oK us hl λ_=>rfl
 have F6:=br (st:=fg) l6 c6 k6
 have b6:=F6.binds (ps:=["saying"]) λ_ _ _ _ _ _ us hl=>oK us hl λ_=>rfl
 have F7:=br (st:=dN) l7 c7 k7
 have b7:=F7.binds (ps:=["saying"]) λ_ _ _ _ _ _ us hl=>oK us hl λ_=>rfl
 have F8:=br (st:=dg) l8 c8 k8
 have b8:=F8.binds (ps:=["told","place","saying"]) λ_ _ _ _ _ _ us hl=>oz us hl λ_ _ _=>rfl
 have F9:=br (st:=fh) l9 c9 k9
 have b9:=F9.binds (ps:=["saying","inner"]) λ_ _ _ _ _ _ us hl=>ln2 us hl λ_ _=>rfl
 have F10:=br (st:=dP) l10 c10 k10
 have b10:=F10.binds (ps:=["saying"]) λ_ _ _ _ _ _ us hl=>oK us hl λ_=>rfl
 have F11:=br (st:=gc) l11 c11 k11
 have b11:=F11.binds (ps:=["saying"]) λ_ _ _ _ _ _ us hl=>oK us hl λ_=>rfl
 have F12:=br (st:=gP) l12 c12 k12
 have b12:=F12.binds (ps:=["term","names"]) λ_ _ _ _ _ _ us hl=>ln2 us hl λ_ _=>rfl
 have F13:=br (st:=jy) l13 c13 k13
 have b13:=F13.binds (ps:=["letter","times"]) λ_ _ _ _ _ _ us hl=>ln2 us hl λ_ _=>rfl
 have F14:=br (st:=d8) l14 c14 k14
 have b14:=F14.binds (ps:=["base","times"]) λ_ _ _ _ _ _ us hl=>ln2 us hl λ_ _=>rfl
 have F15:=br (st:=d9) l15 c15 k15
 have b15:=F15.binds (ps:=["saying","names"]) λ_ _ _ _ _ _ us hl=>ln2 us hl λ_ _=>rfl
 have F16:=br (st:=fz) l16 c16 k16
 have b16:=F16.binds (ps:=["base","room","total"]) λ_ _ _ _ _ _ us hl=>oz us hl λ_ _ _=>rfl
 have F17:=mX (st:=bV) l17 c17 k17
 have H17:=oN lc17 le17
 have b17:Binds K (Ad "same_growth" "same_growth" (aH bV) (aG bV) (ah bV) .none ZY ZZ Z_ ZX (.ref xF) Z1) ["base","names","saying"] []:=.all λus hl=>oz us hl λ_ _ _=>rfl
 have F18:=mX (st:=bW) l18 c18 k18
 have H18:=oN lc18 le18
 have b18:Binds K (Ad "less_growth" "less_growth" (aH bW) (aG bW) (ah bW) .none Z3 Z4 Z5 Z2 (.ref xG) Z6) ["base","names","saying"] []:=.all λus hl=>oz us hl λ_ _ _=>rfl
 have F19:=br (st:=gf) l19 c19 k19
 have b19:=F19.binds (ps:=["base","row","pair","total"]) λ_ _ _ _ _ _ us hl=>QU us hl λ_ _ _ _=>rfl
 have F20:=br (st:=ig) l20 c20 k20
 have b20:=F20.binds (ps:=["base","row","pair"]) λ_ _ _ _ _ _ us hl=>oz us hl λ_ _ _=>rfl
 have F21:=mX (st:=bP) l21 c21 k21
 have H21:=oN lc21 le21
 have b21:Binds K (Ad "sign_growth" "sign_growth" (aH bP) (aG bP) (ah bP) .none Z' aac aad Z9 (.ref xH) aae) ["world","names","saying"] []:=.all λus hl=>oz us hl λ_ _ _=>rfl
 have F22:=mX (st:=bt) l22 c22 k22
 have H22:=oN lc22 le22
 have b22:Binds K (Ad "alike_growth" "alike_growth" (aH bt) (aG bt) (ah bt) .none aag aah aai aaf (.ref xI) aaj) ["world","names","saying"] []:=.all λus hl=>oz us hl λ_ _ _=>rfl
 have F23:=br (st:=fA) l23 c23 k23
 have b23:=F23.binds (ps:=["world","names","saying"]) λ_ _ _ _ _ _ us hl=>oz us hl λ_ _ _=>rfl
 have F24:=mX (st:=dr) l24 c24 k24
 have b24:Binds K (Ad "atom_of" "atom_of" (aH dr) (aG dr) (ah dr) (.ref xJ) Td Te Tg Tb (.ref Kz) Ti) ["world","saying","most"] []:=λs us hK hl=>oz us (by rw[A8] at hl;exact hl) λ_ _ _=>Dj (T:=xJ) rfl (hK _ _ ld24) rfl rfl rfl
 have d24:∃t,Binds K (Ad "atom_of" "atom_of" (aH dr) (aG dr) (ah dr) (.ref xJ) Td Te Tg Tb (.ref Kz) Ti) ["world","saying","most"] [.int 2000 t]:=⟨U8,λs us hK hl=>have h3:us.length=2:=(by simpa using hl);ln2 us h3 λ_ _=>Dj (T:=xJ) rfl (hK _ _ ld24) rfl rfl rfl⟩
 have F25:=br (st:=jz) l25 c25 k25
 have b25:=F25.binds (ps:=["_law_script"]) λ_ _ _ _ _ _ us hl=>oK us hl λ_=>rfl
 have F26:=br (st:=kz) l26 c26 k26
 have b26:=F26.binds (ps:=["_law_feed_here","_law_many"]) λ_ _ _ _ _ _ us hl=>ln2 us hl λ_ _=>rfl
 have F27:=br (st:=jG) l27 c27 k27
 have b27:=F27.binds (ps:=["_law_word"]) λ_ _ _ _ _ _ us hl=>oK us hl λ_=>rfl
 have F28:=br (st:=gB) l28 c28 k28
 have b28:=F28.binds (ps:=["_law_feed_here","_law_many"]) λ_ _ _ _ _ _ us hl=>ln2 us hl λ_ _=>rfl
 have F29:=br (st:=jH) l29 c29 k29
 have b29:=F29.binds (ps:=["_law_feed_here"]) λ_ _ _ _ _ _ us hl=>oK us hl λ_=>rfl
 have F30:=br (st:=jI) l30 c30 k30
 have b30:=F30.binds (ps:=["_law_moves"]) λ_ _ _ _ _ _ us hl=>oK us hl λ_=>rfl
 have F31:=br (st:=iT) l31 c31 k31
 have b31:=F31.binds (ps:=["_law_feed_here","_law_base"]) λ_ _ _ _ _ _ us hl=>ln2 us hl λ_ _=>rfl
 have F32:=br (st:=gC) l32 c32 k32
 have b32:=F32.binds (ps:=["_law_feed_here"]) λ_ _ _ _ _ _ us hl=>oK us hl λ_=>rfl
 have F33:=br (st:=jA) l33 c33 k33
 have b33:=F33.binds (ps:=["_law_feed_here","_law_names_here"]) λ_ _ _ _ _ _ us hl=>ln2 us hl λ_ _=>rfl
 have F34:=br (st:=iB) l34 c34 k34
 have b34:=F34.binds (ps:=["_law_term_here","_law_values"]) λ_ _ _ _ _ _ us hl=>ln2 us hl λ_ _=>rfl
 have F35:=br (st:=jB) l35 c35 k35
 have b35:=F35.binds (ps:=["_law_base","_law_machine","_law_numbers"]) λ_ _ _ _ _ _ us hl=>oz us hl λ_ _ _=>rfl
 have F36:=br (st:=kB) l36 c36 k36
 have b36:=F36.binds (ps:=["_law_world_here","_law_name","_law_number"]) λ_ _ _ _ _ _ us hl=>oz us hl λ_ _ _=>rfl
 have F37:=br (st:=pZ) l37 c37 k37
 have b37:=F37.binds (ps:=["_law_world_here","_law_saying_here","_law_values"]) λ_ _ _ _ _ _ us hl=>oz us hl λ_ _ _=>rfl
 have F38:=br (st:=fH) l38 c38 k38
 have b38:=F38.binds (ps:=["_law_feed_here","_law_world_here","_law_pool"]) λ_ _ _ _ _ _ us hl=>oz us hl λ_ _ _=>rfl
 have F39:=br (st:=kD) l39 c39 k39
 have b39:=F39.binds (ps:=["_law_feed_here","_law_one","_law_other","_law_values"]) λ_ _ _ _ _ _ us hl=>QU us hl λ_ _ _ _=>rfl
 have F40:=br (st:=fR) l40 c40 k40
 have b40:=F40.binds (ps:=["_law_world_here","_law_saying_here"]) λ_ _ _ _ _ _ us hl=>ln2 us hl λ_ _=>rfl
 have F41:=br (st:=dU) l41 c41 k41
 have b41:=F41.binds (ps:=["_law_saying_here","_law_pool"]) λ_ _ _ _ _ _ us hl=>ln2 us hl λ_ _=>rfl
 have F42:=br (st:=ji) l42 c42 k42
 have T:Txt K mg ⟨f0,_,f1,_,f2,_,f3,_,QV,f4,_,f5,_,f6,_,f7,_,f8,_,f9,_,UU,_,f11,_,UW,_,UX,_,UY,_,UZ,_,U_,_,U0,_,xF,pF,U1,_,xG,pG,U2,_,U3,_,U4,_,xH,pH,U5,_,xI,pI,U6,_,U7,_,Kz,U9,_,U',_,Vb,_,Vc,_,Vd,_,Ve,_,Vf,_,f32,_,Vg,_,Vh,_,Vi,_,Vj,_,Vk,_,Vl,_,Vm,_,Vn,_,Vo,_,fa,_⟩:=⟨F0,Ak X G a0,k0,b0,F1,Ak X G a1,k1,b1,F2,Ak X G a2,k2,b2,F3,Ak X G a3,k3,b3,d3,F4,Ak X G a4,k4,b4,F5,Ak X G a5,k5,b5,F6,Ak X G a6,k6,b6,F7,Ak X G a7,k7,b7,F8,Ak X G a8,k8,b8,F9,Ak X G a9,k9,b9,F10,Ak X G a10,k10,b10,F11,Ak X G a11,k11,b11,F12,Ak X G a12,k12,b12,F13,Ak X G a13,k13,b13,F14,Ak X G a14,k14,b14,F15,Ak X G a15,k15,b15,F16,Ak X G a16,k16,b16,F17,H17,Ak X G a17,k17,b17,F18,H18,Ak X G a18,k18,b18,F19,Ak X G a19,k19,b19,F20,Ak X G a20,k20,b20,F21,H21,Ak X G a21,k21,b21,F22,H22,Ak X G a22,k22,b22,F23,Ak X G a23,k23,b23,F24,Ak X G a24,k24,b24,d24,F25,Ak X G a25,k25,b25,F26,Ak X G a26,k26,b26,F27,Ak X G a27,k27,b27,F28,Ak X G a28,k28,b28,F29,Ak X G a29,k29,b29,F30,Ak X G a30,k30,b30,F31,Ak X G a31,k31,b31,F32,Ak X G a32,k32,b32,F33,Ak X G a33,k33,b33,F34,Ak X G a34,k34,b34,F35,Ak X G a35,k35,b35,F36,Ak X G a36,k36,b36,F37,Ak X G a37,k37,b37,F38,Ak X G a38,k38,b38,F39,Ak X G a39,k39,b39,F40,Ak X G a40,k40,b40,F41,Ak X G a41,k41,b41,F42,Ak X G a42,A7 X G z0,A7 X G z1,A7 X G z2,A7 X G z3,A7 X G z4,A7 X G z5,A7 X G z6,A7 X G z7,A7 X G z8,A7 X G z9,A7 X G z10,A7 X G z11,A7 X G z12,A7 X G z13,A7 X G z14,A7 X G z15,A7 X G z16,A7 X G z17,tne01,tne02,tne03,tne12,tne13,tne23⟩
 have Dp:pS K w.params pd (eU ⟨pd,Nx,Ny,Nz,NA,NB⟩):=⟨⟨pes,pn,p_l,p_k,by
  intro x r hm
  simp only[eU,Ae,List.mem_nil_iff,or_false,Fh] at hm
  rcases hm with⟨rfl,rfl⟩ | ⟨rfl,rfl⟩ | ⟨rfl,rfl⟩ | ⟨rfl,rfl⟩ | ⟨rfl,rfl⟩ | ⟨rfl,rfl⟩ | ⟨rfl,rfl⟩ | ⟨rfl,rfl⟩ | ⟨rfl,rfl⟩
  ·rw[BM p_l pq_no];exact rfl
  ·rw[BM p_l pq_an];exact rfl
  ·rw[BM p_l pq_or];exact rfl
  ·rw[BM p_l pq_so];exact rfl
  ·rw[BM p_l pq_ea];exact rfl
  ·rw[BM p_l pq_same];exact BU
  ·rw[BM p_l pq_less];exact BU
  ·rw[BM p_l pq_sign];exact BU
  ·rw[BM p_l pq_alike];exact BU⟩,p_s⟩
 have U:jr K w.params mg ⟨pd,Nx,Ny,Nz,NA,NB⟩:=⟨Ak X G p_a,Dp,λH=>iP (us:=[.int 1 _]) pr_no (.cons ⟨_,rfl⟩ (.nil)) (by decide),λH=>iP (us:=[.int 1 _,.int 2 _]) pr_an (.cons ⟨_,rfl⟩ (.cons ⟨_,rfl⟩ (.nil))) (by decide),λH=>iP (us:=[.int 1 _,.int 2 _]) pr_or (.cons ⟨_,rfl⟩ (.cons ⟨_,rfl⟩ (.nil))) (by decide),λH=>iP (us:=[.int 2 _]) pr_so (.cons ⟨_,rfl⟩ (.nil)) (by decide),λH=>iP (us:=[.int 2 _]) pr_ea (.cons ⟨_,rfl⟩ (.nil)) (by decide)⟩
 have Ds:pS K w.params sd (eV ⟨sd,NC,ND,NF,NG⟩):=⟨⟨ses,sn,s_l,s_k,by
  intro x r hm
  simp only[eV,Ae,List.mem_nil_iff,or_false,Fh] at hm
  rcases hm with⟨rfl,rfl⟩ | ⟨rfl,rfl⟩ | ⟨rfl,rfl⟩ | ⟨rfl,rfl⟩ | ⟨rfl,rfl⟩ | ⟨rfl,rfl⟩ | ⟨rfl,rfl⟩ | ⟨rfl,rfl⟩ | ⟨rfl,rfl⟩
  ·rw[BM s_l sq_sa];exact rfl
  ·rw[BM s_l sq_le];exact rfl
  ·rw[BM s_l sq_si];exact rfl
  ·rw[BM s_l sq_al];exact rfl
  ·rw[BM s_l sq_not];exact BU
  ·rw[BM s_l sq_and];exact BU
  ·rw[BM s_l sq_or];exact BU
  ·rw[BM s_l sq_some];exact BU
  ·rw[BM s_l sq_each];exact BU⟩,s_s⟩
 have Y:j9 K w.params mg ⟨sd,NC,ND,NF,NG⟩:=⟨Ak X G s_a,Ds,λH=>iP (us:=[.int 1 _,.int 2 _]) sr_sa (.cons ⟨_,rfl⟩ (.cons ⟨_,rfl⟩ (.nil))) (by decide),λH=>iP (us:=[.int 1 _,.int 2 _]) sr_le (.cons ⟨_,rfl⟩ (.cons ⟨_,rfl⟩ (.nil))) (by decide),λH=>iP (us:=[.int 2 _]) sr_si (.cons ⟨_,rfl⟩ (.nil)) (by decide),λH=>iP (us:=[.int 2 _,.int 4 _]) sr_al (.cons ⟨_,rfl⟩ (.cons ⟨_,rfl⟩ (.nil))) (by decide)⟩
 exact⟨Ad "law" "law" (aH ji) (aG ji) (ah ji) .none aaE aaF aaG aaD Tj aaH,[pF,pG,pH,pI],(Aa.mpr ⟨⟨⟨_,C3 X H17⟩,lt17,ln17⟩,(Aa.mpr ⟨⟨⟨_,C3 X H18⟩,lt18,ln18⟩,(Aa.mpr ⟨⟨⟨_,C3 X H21⟩,lt21,ln21⟩,(Aa.mpr ⟨⟨⟨_,C3 X H22⟩,lt22,ln22⟩,(λ_ h=>nomatch h)⟩)⟩)⟩)⟩),λs v=>.of_eq rfl,λbase _ _ hB=>Zz T hB U Y⟩
theorem walk{l:GW}{q:Ah}{loose:List Str}{XP:(Str->Option Value)->Heap->Prop}{YP:World->Heap->Prop}{d:DefRec}{K:Gw->AB}(hn:l.most=some 63)(hdf:d.params.defaults=[])
  (hY:∀(w:World) (h:Heap),YP w h->(K w.params).In h)
  (F:∀(w:World) (mg:Str->Option Value) (fa:Addr) (h:Heap),(K w.params).In h->h.Ns AY mg->mg d.name=some (.ref fa)->YP w h->
   ∃(fd:Av) (ts:List Addr),(∀T∈ts,(∃c,EI h c T)/\h.get? T=some (Bn #[])/\(K w.params).lookup T=none)/\(∀(s:AN) (u:Value),Ha s fd ⟨[u],[]⟩ [("_law_script",u)])/\
    ∀base:Heap,(K w.params).In base->base.Ns AY mg->eG mg base->aO l.prog w (K w.params) mg base aW 7 fa fd ["_law_script"] (zF (K w.params) ts)):
  PySem.W.WalkO q loose XP YP l.row.toRowW d [] (λf vs=>Hw f vs):=
 L2.RB (n:=63) (k:=7) (x:="_law_script") (sp:=λw ts=>zF (K w.params) ts) hn (by decide) hdf ⟨rfl,by decide,by decide,rfl⟩ hY F (λ_ _ a ns _ hl hO hS=>⟨a,ns,rfl,hS,hl,hO,λ_=>rfl⟩)
end
end My
namespace PySem.W.Fast
theorem tw16163767678979562879 : True := trivial
theorem tw15545933029761170663 : True := trivial
theorem tw414505826321040224 : True := trivial
theorem tw63624985524483935 : True := trivial
theorem tw17326023108575979758 : True := trivial
theorem tw7522718055836982133 : True := trivial
theorem tw4079080603513577966 : True := trivial
theorem tw9276953596867197204 : True := trivial
theorem tw11789274119727970154 : True := trivial
theorem tw1825342655380476822 : True := trivial
theorem tw4074826200792922660 : True := trivial
theorem tw974740072857965065 : True := trivial
theorem tw11318173105929453861 : True := trivial
theorem tw16491843055619521428 : True := trivial
theorem tw10736945959869935565 : True := trivial
theorem tw12326304475315576816 : True := trivial
theorem tw14491430484461260738 : True := trivial
theorem tw7354797331891901762 : True := trivial
theorem tw6778205621469023679 : True := trivial
theorem tw10990043362683645309 : True := trivial
theorem tw6524770135994940232 : True := trivial
theorem tw3840208642106102629 : True := trivial
theorem tw4070114598294337921 : True := trivial
theorem tw3891586839287217947 : True := trivial
theorem tw14714418665687760269 : True := trivial
theorem tw5965686332706154775 : True := trivial
theorem tw3054670806424086367 : True := trivial
theorem tw15943968457823721587 : True := trivial
theorem tw16872600464549979977 : True := trivial
theorem tw15765989409256859302 : True := trivial
theorem tw7577210710239587647 : True := trivial
theorem tw13326637251994157868 : True := trivial
theorem tw203233016570001895 : True := trivial
theorem tw13714914206969680766 : True := trivial
theorem tw8585899821909008767 : True := trivial
theorem tw3498240752653247303 : True := trivial
theorem tw13714480013322699028 : True := trivial
theorem tw12893139879369628269 : True := trivial
theorem tw8182700103551079117 : True := trivial
theorem tw444488033044444271 : True := trivial
theorem tw10987651279662448027 : True := trivial
theorem tw10220292654096843126 : True := trivial
theorem tw16639091826184331798 : True := trivial
theorem tw10414990281641813361 : True := trivial
theorem tw1839761793285400653 : True := trivial
theorem tw15568498912400415553 : True := trivial
theorem tw3768924466984582401 : True := trivial
theorem tw8036815282805662817 : True := trivial
theorem tw10351138777798435142 : True := trivial
theorem tw2739020004942647596 : True := trivial
theorem tw6441334024462101281 : True := trivial
theorem tw17450177030592163243 : True := trivial
theorem tw17428857620795964148 : True := trivial
theorem tw3654731173686850114 : True := trivial
theorem tw8584953729912326742 : True := trivial
theorem tw14480311759894510711 : True := trivial
theorem tw17424849998094663772 : True := trivial
theorem tw4301971935339627452 : True := trivial
theorem tw9858139942387996167 : True := trivial
theorem tw7115367170739906163 : True := trivial
theorem tw1500178747638337952 : True := trivial
theorem tw15548886173072483534 : True := trivial
theorem tw14460752641136209542 : True := trivial
theorem tw3344261623813415966 : True := trivial
theorem tw5528325892845258009 : True := trivial
theorem tw12394608620880049528 : True := trivial
theorem tw11501043247258945340 : True := trivial
theorem tw12453723627357068052 : True := trivial
theorem tw659310290819833210 : True := trivial
theorem tw13893992736970277909 : True := trivial
theorem tw5378110541981277490 : True := trivial
theorem tw1625983188319941927 : True := trivial
theorem tw5294479784049631948 : True := trivial
theorem tw17183213303873320813 : True := trivial
theorem tw14587249330646054294 : True := trivial
theorem tw2728255137685207643 : True := trivial
theorem tw623285143612865206 : True := trivial
theorem tw2056794678327994079 : True := trivial
theorem tw9761707070160272585 : True := trivial
theorem tw9280518485801023796 : True := trivial
theorem tw1063879682117463067 : True := trivial
theorem tw4986929622359268578 : True := trivial
theorem tw15582168781431344298 : True := trivial
theorem tw401666562269639512 : True := trivial
theorem tw12028153000315396107 : True := trivial
theorem tw12628116315304959322 : True := trivial
theorem tw15668503527997087164 : True := trivial
theorem tw14991655658837481932 : True := trivial
theorem tw6717967437893065221 : True := trivial
theorem tw12835681545245725584 : True := trivial
theorem tw3587284162093869742 : True := trivial
theorem tw6220747538814549067 : True := trivial
theorem tw7687238903079919603 : True := trivial
theorem tw17780070504537829224 : True := trivial
theorem tw13460627191656379410 : True := trivial
theorem tw4793192238966738643 : True := trivial
theorem tw18215846985842535772 : True := trivial
theorem tw9510769753933286924 : True := trivial
theorem tw17986917703998358212 : True := trivial
theorem tw13329573879131016780 : True := trivial
theorem tw11467418172959669653 : True := trivial
theorem tw6185713567429567503 : True := trivial
theorem tw5804210012982039388 : True := trivial
theorem tw1402865503849821290 : True := trivial
theorem tw8208720500866599162 : True := trivial
theorem tw17454795146989912965 : True := trivial
theorem tw3237257216977604942 : True := trivial
theorem tw3983059479143566537 : True := trivial
theorem tw268419508660426140 : True := trivial
theorem tw18169330352797183425 : True := trivial
theorem tw2471482215663328871 : True := trivial
theorem tw6395854863430587218 : True := trivial
theorem tw2248065823445627674 : True := trivial
theorem tw5992878800410639944 : True := trivial
theorem tw9039405703813429691 : True := trivial
theorem tw1216750314765772245 : True := trivial
theorem tw1302600031483393889 : True := trivial
theorem tw7344251120545923920 : True := trivial
theorem tw11607381878114705561 : True := trivial
theorem tw11295245138681219213 : True := trivial
theorem tw6592972459467416548 : True := trivial
theorem tw9242516035283812277 : True := trivial
theorem tw6693204434724386691 : True := trivial
theorem tw2553999598838740417 : True := trivial
theorem tw11536641306034613976 : True := trivial
theorem tw6102725365635773407 : True := trivial
theorem tw7551306076596238293 : True := trivial
theorem tw11333307696741619203 : True := trivial
theorem tw17010145504238464653 : True := trivial
theorem tw864407004606904379 : True := trivial
theorem tw4847099557015291269 : True := trivial
theorem tw6142692800901955348 : True := trivial
theorem tw7047324899192230122 : True := trivial
theorem tw7825601283111174004 : True := trivial
theorem tw11268250137439506133 : True := trivial
theorem tw6316652110276585509 : True := trivial
theorem tw14228919606577566855 : True := trivial
theorem tw2365435027755209085 : True := trivial
theorem tw12439596175042944278 : True := trivial
theorem tw13579376300205191278 : True := trivial
theorem tw4612555395675908918 : True := trivial
end PySem.W.Fast
open PySem PySem.W PyProof.Rows
set_option maxRecDepth 100000 in
set_option maxHeartbeats 0 in
theorem PySem.Challenge.cw_figurejudge_k37_whole_atoms_at_great_num_holds : PySem.Challenge.rw_figurejudge_k37_whole_atoms_at_great_num.Holds := by
 w_on;o_law;k_head;(case hw=>w_witness2)
 k_fill
 refine My.walk (l:=PySem.Challenge.rw_figurejudge_k37_whole_atoms_at_great_num) rfl rfl (fun w h Y=>PySem.W.km_in_of Y) ?F
 case F=>
  intro w mg fa h KX G hmg Y
  refine' My.all_mk KX G hmg ?a0 ?l0 ?c0 ?k0 ?a1 ?l1 ?c1 ?k1 ?a2 ?l2 ?c2 ?k2 ?a3 ?l3 ?c3 ?k3 ?ld3 ?a4 ?l4 ?c4 ?k4 ?a5 ?l5 ?c5 ?k5 ?a6 ?l6 ?c6 ?k6 ?a7 ?l7 ?c7 ?k7 ?a8 ?l8 ?c8 ?k8 ?a9 ?l9 ?c9 ?k9 ?a10 ?l10 ?c10 ?k10 ?a11 ?l11 ?c11 ?k11 ?a12 ?l12 ?c12 ?k12 ?a13 ?l13 ?c13 ?k13 ?a14 ?l14 ?c14 ?k14 ?a15 ?l15 ?c15 ?k15 ?a16 ?l16 ?c16 ?k16 ?a17 ?l17 ?c17 ?k17 ?lc17 ?lv17 ?le17 ?ln17 ?lt17 ?a18 ?l18 ?c18 ?k18 ?lc18 ?lv18 ?le18 ?ln18 ?lt18 ?a19 ?l19 ?c19 ?k19 ?a20 ?l20 ?c20 ?k20 ?a21 ?l21 ?c21 ?k21 ?lc21 ?lv21 ?le21 ?ln21 ?lt21 ?a22 ?l22 ?c22 ?k22 ?lc22 ?lv22 ?le22 ?ln22 ?lt22 ?a23 ?l23 ?c23 ?k23 ?a24 ?l24 ?c24 ?k24 ?ld24 ?a25 ?l25 ?c25 ?k25 ?a26 ?l26 ?c26 ?k26 ?a27 ?l27 ?c27 ?k27 ?a28 ?l28 ?c28 ?k28 ?a29 ?l29 ?c29 ?k29 ?a30 ?l30 ?c30 ?k30 ?a31 ?l31 ?c31 ?k31 ?a32 ?l32 ?c32 ?k32 ?a33 ?l33 ?c33 ?k33 ?a34 ?l34 ?c34 ?k34 ?a35 ?l35 ?c35 ?k35 ?a36 ?l36 ?c36 ?k36 ?a37 ?l37 ?c37 ?k37 ?a38 ?l38 ?c38 ?k38 ?a39 ?l39 ?c39 ?k39 ?a40 ?l40 ?c40 ?k40 ?a41 ?l41 ?c41 ?k41 ?a42 ?l42 ?c42 ?k42 ?z0 ?z1 ?z2 ?z3 ?z4 ?z5 ?z6 ?z7 ?z8 ?z9 ?z10 ?z11 ?z12 ?z13 ?z14 ?z15 ?z16 ?z17 ?tne01 ?tne02 ?tne03 ?tne12 ?tne13 ?tne23 ?p_a ?p_l ?p_k ?p_s ?pq_no ?pr_no ?pq_an ?pr_an ?pq_or ?pr_or ?pq_so ?pr_so ?pq_ea ?pr_ea ?pq_same ?pq_less ?pq_sign ?pq_alike ?s_a ?s_l ?s_k ?s_s ?sq_sa ?sr_sa ?sq_le ?sr_le ?sq_si ?sr_si ?sq_al ?sr_al ?sq_not ?sq_and ?sq_or ?sq_some ?sq_each
  (case a0=>k_is)
  (case l0=>k_is)
  (case c0=>k_is)
  (case k0=>k_is)
  (case a1=>k_is)
  (case l1=>k_is)
  (case c1=>k_is)
  (case k1=>k_is)
  (case a2=>k_is)
  (case l2=>k_is)
  (case c2=>k_is)
  (case k2=>k_is)
  (case a3=>k_is)
  (case l3=>k_is)
  (case c3=>k_is)
  (case k3=>k_is)
  (case ld3=>k_is)
  (case a4=>k_is)
  (case l4=>k_is)
  (case c4=>k_is)
  (case k4=>k_is)
  (case a5=>k_is)
  (case l5=>k_is)
  (case c5=>k_is)
  (case k5=>k_is)
  (case a6=>k_is)
  (case l6=>k_is)
  (case c6=>k_is)
  (case k6=>k_is)
  (case a7=>k_is)
  (case l7=>k_is)
  (case c7=>k_is)
  (case k7=>k_is)
  (case a8=>k_is)
  (case l8=>k_is)
  (case c8=>k_is)
  (case k8=>k_is)
  (case a9=>k_is)
  (case l9=>k_is)
  (case c9=>k_is)
  (case k9=>k_is)
  (case a10=>k_is)
  (case l10=>k_is)
  (case c10=>k_is)
  (case k10=>k_is)
  (case a11=>k_is)
  (case l11=>k_is)
  (case c11=>k_is)
  (case k11=>k_is)
  (case a12=>k_is)
  (case l12=>k_is)
  (case c12=>k_is)
  (case k12=>k_is)
  (case a13=>k_is)
  (case l13=>k_is)
  (case c13=>k_is)
  (case k13=>k_is)
  (case a14=>k_is)
  (case l14=>k_is)
  (case c14=>k_is)
  (case k14=>k_is)
  (case a15=>k_is)
  (case l15=>k_is)
  (case c15=>k_is)
  (case k15=>k_is)
  (case a16=>k_is)
  (case l16=>k_is)
  (case c16=>k_is)
  (case k16=>k_is)
  (case a17=>k_is)
  (case l17=>k_is)
  (case c17=>k_is)
  (case k17=>k_is)
  (case lc17=>k_is)
  (case lv17=>rfl)
  (case le17=>rfl)
  (case ln17=>kernel_rfl)
  (case lt17=>exact PySem.W.km_tabs_of Y _ (by decide))
  (case a18=>k_is)
  (case l18=>k_is)
  (case c18=>k_is)
  (case k18=>k_is)
  (case lc18=>k_is)
  (case lv18=>rfl)
  (case le18=>rfl)
  (case ln18=>kernel_rfl)
  (case lt18=>exact PySem.W.km_tabs_of Y _ (by decide))
  (case a19=>k_is)
  (case l19=>k_is)
  (case c19=>k_is)
  (case k19=>k_is)
  (case a20=>k_is)
  (case l20=>k_is)
  (case c20=>k_is)
  (case k20=>k_is)
  (case a21=>k_is)
  (case l21=>k_is)
  (case c21=>k_is)
  (case k21=>k_is)
  (case lc21=>k_is)
  (case lv21=>rfl)
  (case le21=>rfl)
  (case ln21=>kernel_rfl)
  (case lt21=>exact PySem.W.km_tabs_of Y _ (by decide))
  (case a22=>k_is)
  (case l22=>k_is)
  (case c22=>k_is)
  (case k22=>k_is)
  (case lc22=>k_is)
  (case lv22=>rfl)
  (case le22=>rfl)
  (case ln22=>kernel_rfl)
  (case lt22=>exact PySem.W.km_tabs_of Y _ (by decide))
  (case a23=>k_is)
  (case l23=>k_is)
  (case c23=>k_is)
  (case k23=>k_is)
  (case a24=>k_is)
  (case l24=>k_is)
  (case c24=>k_is)
  (case k24=>k_is)
  (case ld24=>k_is)
  (case a25=>k_is)
  (case l25=>k_is)
  (case c25=>k_is)
  (case k25=>k_is)
  (case a26=>k_is)
  (case l26=>k_is)
  (case c26=>k_is)
  (case k26=>k_is)
  (case a27=>k_is)
  (case l27=>k_is)
  (case c27=>k_is)
  (case k27=>k_is)
  (case a28=>k_is)
  (case l28=>k_is)
  (case c28=>k_is)
  (case k28=>k_is)
  (case a29=>k_is)
  (case l29=>k_is)
  (case c29=>k_is)
  (case k29=>k_is)
  (case a30=>k_is)
  (case l30=>k_is)
  (case c30=>k_is)
  (case k30=>k_is)
  (case a31=>k_is)
  (case l31=>k_is)
  (case c31=>k_is)
  (case k31=>k_is)
  (case a32=>k_is)
  (case l32=>k_is)
  (case c32=>k_is)
  (case k32=>k_is)
  (case a33=>k_is)
  (case l33=>k_is)
  (case c33=>k_is)
  (case k33=>k_is)
  (case a34=>k_is)
  (case l34=>k_is)
  (case c34=>k_is)
  (case k34=>k_is)
  (case a35=>k_is)
  (case l35=>k_is)
  (case c35=>k_is)
  (case k35=>k_is)
  (case a36=>k_is)
  (case l36=>k_is)
  (case c36=>k_is)
  (case k36=>k_is)
  (case a37=>k_is)
  (case l37=>k_is)
  (case c37=>k_is)
  (case k37=>k_is)
  (case a38=>k_is)
  (case l38=>k_is)
  (case c38=>k_is)
  (case k38=>k_is)
  (case a39=>k_is)
  (case l39=>k_is)
  (case c39=>k_is)
  (case k39=>k_is)
  (case a40=>k_is)
  (case l40=>k_is)
  (case c40=>k_is)
  (case k40=>k_is)
  (case a41=>k_is)
  (case l41=>k_is)
  (case c41=>k_is)
  (case k41=>k_is)
  (case a42=>k_is)
  (case l42=>k_is)
  (case c42=>k_is)
  (case k42=>k_is)
  (case z0=>k_is)
  (case z1=>k_is)
  (case z2=>k_is)
  (case z3=>k_is)
  (case z4=>k_is)
  (case z5=>k_is)
  (case z6=>k_is)
  (case z7=>k_is)
  (case z8=>k_is)
  (case z9=>k_is)
  (case z10=>k_is)
  (case z11=>k_is)
  (case z12=>k_is)
  (case z13=>k_is)
  (case z14=>k_is)
  (case z15=>k_is)
  (case z16=>k_is)
  (case z17=>k_is)
  (case tne01=>decide)
  (case tne02=>decide)
  (case tne03=>decide)
  (case tne12=>decide)
  (case tne13=>decide)
  (case tne23=>decide)
  (case p_a=>k_is)
  (case p_l=>k_is)
  (case p_k=>repeat (first | exact⟨⟩ | refine⟨⟨_,_,rfl,rfl⟩,?_⟩))
  (case p_s=>rfl)
  (case pq_no=>k_is)
  (case pr_no=>k_is)
  (case pq_an=>k_is)
  (case pr_an=>k_is)
  (case pq_or=>k_is)
  (case pr_or=>k_is)
  (case pq_so=>k_is)
  (case pr_so=>k_is)
  (case pq_ea=>k_is)
  (case pr_ea=>k_is)
  (case pq_same=>k_is)
  (case pq_less=>k_is)
  (case pq_sign=>k_is)
  (case pq_alike=>k_is)
  (case s_a=>k_is)
  (case s_l=>k_is)
  (case s_k=>repeat (first | exact⟨⟩ | refine⟨⟨_,_,rfl,rfl⟩,?_⟩))
  (case s_s=>rfl)
  (case sq_sa=>k_is)
  (case sr_sa=>k_is)
  (case sq_le=>k_is)
  (case sr_le=>k_is)
  (case sq_si=>k_is)
  (case sr_si=>k_is)
  (case sq_al=>k_is)
  (case sr_al=>k_is)
  (case sq_not=>k_is)
  (case sq_and=>k_is)
  (case sq_or=>k_is)
  (case sq_some=>k_is)
  (case sq_each=>k_is)
#print axioms PySem.Challenge.cw_figurejudge_k37_whole_atoms_at_great_num_holds
