import PyProof.Rows.All
import Wide.All
import OpenK.AllK
import Wide.FinOn
import HandS.Iter
import HandS.Comp
import HandS.Text
import HandS.Codes
import HandS.Call
import HandS.Walk
import PyProof.EnumMake
import KE.GoesMore
import KE.GoesEnum
import KE.GoesNew
import KE.KDictZip
import HandS.Dict
import HandS.List
import HandS.Words
import HandS.Replace
import HandS.ForMost
import HandS.IsInst
import HandS.Zip
import OpenK.KMore
import HandS.Exc
import HandS.ExcInit
import HandS.ExcField
import HandS.HotCalls
import HandS.Lambda
import HandS.WordsExc
import HandS.CallSlots
import KE.KTryMore
import HandS.More
import PyProof.CollectStr
import HandS.Property
import HandS.Style
import HandS.OwnEq
import HandS.TryOnly
import HandS.Star
import HandS.FStr
import HandS.RaiseMore
import HandS.TupAny
import HandS.MakeKw
import HandS.MakeKwOnly
import KE.KCallOwn
import HandS.ReplaceList
import HandS.ReplaceLit
import HandS.DictComp
import HandS.ClsMeth
import HandS.Defaults
import HandS.Nested
import HandS.StrMore
import HandS.SortRule
import HandS.SetBool
import HandS.Conv
import PyProof.SetRoads
import PyProof.Rows.SetFrom
import KE.KDictKeyed
import HandS.TupLen
import HandS.Wide
import HandS.RevRange
import HandS.Flow
import PyProof.Rows.StrLawsPart
import HandS.SortInts
import KE.KOpsOwn
import KE.GoesZip
import KE.KDictDisplayH
import HandS.SetFor
import HandS.Strs
import HandS.Rev
import HandS.Head2
import HandS.HeadHook4
import HandS.HeadNt
import HandS.HeadWalk
import HandS.HeadEnd
import HandS.HeadHook3
import PySem.Challenge.RW_ownfill_k38_texts_of_conditions
set_option Elab.async false
set_option linter.all false
set_option maxRecDepth 100000
set_option maxHeartbeats 4000000
namespace Own
open PySem PySem.Spec PyProof.Rows L2

/-! ### walks that give a new tuple at each turn -/
/-- what an iterator of new tuples gives, in the library's words (GoesN), is a turn of the hand layer: at turn i the tuple's items are some vs with R i vs -/
theorem turn_tuples {P : Program} {w : World} {K : PySem.W.Frag} {tg : Expr} {I : Addr} {fp wr : List Addr} {n : Nat} {St : Nat → Heap → Prop}
    {Y : Nat → Heap → Value → Heap → Prop} {R : Nat → List V → Prop} {J : It} (W : ∀ A : Around, A.handled = none → GoesN P w A tg I fp wr n Y St)
    (hY : ∀ i h0 u h, Y i h0 u h → ∃ T vs us, u = .ref T ∧ h0.objs.size ≤ T ∧ vs.length ≤ sizeLine ∧ R i vs ∧ Vals vs us ∧ h.IsTuple T us.toArray)
    (mem : I ∈ fp) (obj : ∀ i h, St i h → ∀ b ∈ fp, ∃ o, h.get? b = some o ∧ ∀ v, o.data ≠ .cell v)
    (self : ∀ (A : Around) (i : Nat) (s : Shared) (Q : Value → Shared → Prop) (E : Value → Shared → Prop), St i s.heap → Q (.ref I) s → wpAny (model P w) A (pyIter (.ref I)) Q E s)
    (go : ∀ i H, J.go i H → i < n) (stop : ∀ i H, J.stop i H → i = n) (yld : ∀ i H T vs, H T = none → R i vs → J.yld i H (.ref T) (upd H T (.tup vs))) :
    Turn P w K tg J fp I St := by
  refine ⟨mem, obj, fun i h h' st k => (W callerA rfl).frame i h h' st k, ?_, ?_, self⟩
  · rintro X rfl rfl rfl calm i pins s σ H E I0 off st hg
    have G := W X.A (I0.ok.hd calm)
    refine G.goes i s (fun u s2 => ∃ x H', Inv X pins σ H' s2 ∧ RelV x u ∧ J.yld i H x H' ∧ St (i + 1) s2.heap ∧ ∀ b ∈ fp, H' b = none) E (go i H hg) st fun u h tk y st' rest _ => ?_
    obtain ⟨T, vs, us, rfl, young, len, r, rel, tup⟩ := hY _ _ _ _ y
    refine ⟨.ref T, upd H T (.tup vs), ?_, rfl, yld i H T vs (I0.hok.fresh young) r, st', fun b hb => ?_⟩
    · refine I0.turnedNew (t' := tk) (ch := fp) (fun b o nb q => rest b o (fun m => nb (G.sub b m)) q) off young ?_
      obtain ⟨o, e1, e2, e3⟩ := tup
      exact ⟨len, us, rel, o, e1, e2, e3⟩
    · obtain ⟨o, ho, _⟩ := obj i s.heap st b hb
      rw [upd_ne (Nat.ne_of_lt (Nat.lt_of_lt_of_le (Heap.lt_size ho) young))]
      exact (off b hb).1
  · rintro X rfl rfl rfl calm i pins s σ H E I0 off st hg
    have G := W X.A (I0.ok.hd calm)
    rw [stop i H hg] at st
    exact G.stops s (fun s1 => Inv X pins σ H s1) E st fun h tk rest _ => I0.turnedL (t' := tk) (ch := fp) (fun b o nb q => rest b o (fun m => nb (G.sub b m)) q) off

/-! ### a text's signs numbered -/
def ItE (z : Str) : It :=
  ⟨fun i _ => i < z.cps.size,
   fun i H v H' => ∃ T c, v = .ref T ∧ H T = none ∧ z.cps[i]? = some c ∧
     H' = upd H T (.tup [.int (i : Nat), .str ⟨#[c]⟩]),
   fun i _ => i = z.cps.size⟩

theorem turnE {P : Program} {w : World} {K : PySem.W.Frag} {elts : List Expr} {kk : Nat} {tpos : Pos} (z : Str) (t : Tok) (e it : Addr) (ne : e ≠ it) :
    Turn P w K (.Tuple elts kk tpos) (ItE z) [e, it] e
      (fun i h => (∃ old, IsEnum h e it (0 + (i : Int)) old) ∧ h.IsStrIter it (strIterType z) z t i) := by
  refine turn_tuples (R := fun i vs => ∃ c, z.cps[i]? = some c ∧ vs = [.int (i : Nat), .str ⟨#[c]⟩])
    (fun A hh => GoesN.enumFrom (elts := elts) (x1 := kk) (pos := tpos) 0 (Draws.text (prog := P) (w := w) (A := A.in1) hh it z t) e ne
      (fun m => ne (List.mem_singleton.mp m)) (List.mem_singleton.mpr rfl)) ?_ List.mem_cons_self ?_ ?_ (fun _ _ h => h) (fun _ _ h => h) ?_
  · rintro i h0 u h ⟨T, k, x, rfl, young, ⟨c, v, hc, rfl⟩, tup⟩
    rw [Int.zero_add] at tup
    exact ⟨T, _, [_, _], rfl, young, by show 2 ≤ sizeLine; decide, ⟨c, hc, rfl⟩, .cons ⟨_, rfl⟩ (.cons ⟨_, rfl⟩ .nil), tup⟩
  · rintro i h ⟨⟨old, he⟩, ⟨o, ho, _, hd⟩⟩
    simp only [List.forall_mem_cons]
    exact ⟨⟨_, he, fun v => nofun⟩, ⟨o, ho, fun v q => by rw [hd] at q; cases q⟩, fun _ q => nomatch q⟩
  · rintro A i s Q E ⟨⟨_, he⟩, _⟩ h
    exact wpAny_pyIter_enum he h
  · rintro i H T vs free ⟨c, hc, rfl⟩
    exact ⟨T, c, rfl, free, hc, rfl⟩

def iEnS (ta : TA) : TI := fun σ H R => ta σ H fun vs H1 => ∃ z, vs = [.str z] ∧ R (ItE z) H1

theorem pi_enS {X : Cx} {e : Expr} {ta : TA} {p pos tpos : Pos} {elts : List Expr} {kk : Nat}
    (hg : Gl X "enumerate") (hm : X.mg "enumerate" = none) (ha : PA X [e] ta)
    (hs : starEach [e] X.env = [(false, eval e X.env)] := by rfl) :
    PI X (.Tuple elts kk tpos) (.Call (.Name "enumerate" p) [e] [] pos) (iEnS ta) := by
  constructor
  intro pins s σ H R I h
  refine Call_ (ld_blt I hg hm boot_enumerate (PyProof.Rows.callWith_type1 (thn (ha.run pos pins s σ H _ I h) ?_) hs rfl))
  rintro us s1 ⟨vs, H1, I1, r1, z, rfl, q⟩
  obtain ⟨u, rfl, t, rfl⟩ := vals1 r1
  refine call_enumerate_str fun h' he hit _ hk => wpAny_pyIter_enum he ?_
  refine ⟨s1.heap.objs.size + 1, [s1.heap.objs.size + 1, s1.heap.objs.size], _, _, H1, rfl, I1.kept hk, turnE z t _ _ (Nat.succ_ne_self _), ⟨⟨.none, he⟩, hit⟩, ?_, q⟩
  have young : ∀ b, s1.heap.objs.size ≤ b → FpOk X pins H1 b := fun b lb => I1.fpOk lb (I1.hok.fresh lb)
  simp only [List.forall_mem_cons]
  exact ⟨young _ (Nat.le_add_right _ _), young _ (Nat.le_refl _), fun _ q => nomatch q⟩

theorem walkE {z : Str} : Walk (ItE z) z.cps.size (fun _ => True)
    (fun i H v H' => ∃ T c, v = .ref T ∧ H T = none ∧ z.cps[i]? = some c ∧
      H' = upd H T (.tup [.int (i : Nat), .str ⟨#[c]⟩])) :=
  ⟨fun _ _ h _ => h, fun _ _ => rfl, fun _ _ _ _ _ _ h => h⟩
end Own

namespace Own
open PySem PySem.Spec PyProof.Rows L2
/-! ### dict(zip(s, t)): a zip of any two iterators as a source of pairs -/
section
variable {P : Program} {w : World} {A : Around} {z TI TO T i1 i2 d : Addr} {f1 f2 : List Addr} {n1 n2 i : Nat} {s : Shared}
variable {R1 R2 : Nat → Value → Prop} {S1 S2 : Nat → Heap → Prop}

/-- all outside of some places stays -/
def Rest (l : List Addr) (h h' : Heap) : Prop := ∀ b o, b ∉ l → h.get? b = some o → h'.get? b = some o
theorem Rest.of {h h' : Heap} {x : Addr} (e : Heap.SameBut x h h') : Rest [x] h h' :=
  fun b o hb q => e.extBut b o (fun r => hb (List.mem_singleton.mpr r)) q
theorem Rest.push {h : Heap} {o : Obj} : Rest [] h (h.push o) := fun _ _ _ q => Heap.get?_push_of_some _ q
theorem Rest.seq {l1 l2 : List Addr} {h h1 h2 : Heap} (a : Rest l1 h h1) (b : Rest l2 h1 h2) : Rest (l1 ++ l2) h h2 :=
  fun c o hc q => b c o (fun r => hc (List.mem_append_right _ r)) (a c o (fun r => hc (List.mem_append_left _ r)) q)
theorem Rest.more {l1 l2 : List Addr} {h h' : Heap} (a : Rest l1 h h') (b : ∀ c ∈ l1, c ∈ l2) : Rest l2 h h' :=
  fun c o hc q => a c o (fun r => hc (b c r)) q

end

end Own

namespace Own
open PySem PySem.Spec PyProof.Rows L2
end Own

namespace Own
open PySem PySem.Spec PyProof.Rows L2 SX
/-! ### texts -/
theorem idx_of {c : Nat} : ∀ (a : List Nat) (i : Nat), a[i]? = some c → (∀ k, k < i → a[k]? ≠ some c) → a.idxOf c = i
  | [], i, h, _ => by simp at h
  | x :: r, 0, h, _ => by
    have e : x = c := Option.some.inj h
    rw [e, List.idxOf_cons_self]
  | x :: r, i + 1, h, hk => by
    have ne : x ≠ c := fun e => hk 0 (Nat.succ_pos _) (by rw [e]; rfl)
    have ih := idx_of r i h fun k lt e => hk (k + 1) (Nat.succ_lt_succ lt) e
    have nb : (x == c) = false := beq_eq_false_iff_ne.mpr ne
    rw [List.idxOf_cons, nb, ih]
    rfl
theorem occ1 {a : List Nat} {c : Nat} (h : c ∈ a) :
    ∃ rest, Builtin.Str.occurrences (S a) (S [c]) 0 (S a).length 1 = a.idxOf c :: rest := by
  obtain ⟨j, hj⟩ := List.mem_iff_getElem?.mp h
  rcases StrLaws.occ_head (S a) (S [c]) 1 (Nat.le_refl _) with ⟨_, hn⟩ | ⟨i, r, e, hi, hk⟩
  · exact absurd ((StrLaws.subAt_one (S a) c j).mpr hj) (hn j)
  · have h1 : a[i]? = some c := (StrLaws.subAt_one (S a) c i).mp hi
    have e2 := idx_of a i h1 fun k lt q => hk k lt ((StrLaws.subAt_one (S a) c k).mpr q)
    exact ⟨r, by rw [e, e2]⟩
theorem join1 : ∀ cs : List Nat, TL.joinL [] (cs.map fun c => [c]) = cs
  | [] => rfl
  | [_] => rfl
  | x :: y :: r => by
    show [x] ++ ([] ++ TL.joinL [] ((y :: r).map fun c => [c])) = x :: y :: r
    rw [join1 (y :: r)]
    rfl
theorem empty_S : Str.ofString "" = S [] := rfl
theorem joinC (cs : List Nat) : Txt.join (Str.ofString "") (cs.map fun c => S [c]) = S cs := by
  rw [empty_S]
  have e := join_S [] (cs.map fun c => [c])
  rw [List.map_map, join1] at e
  exact e
theorem joinT (ts : List (List Nat)) : Txt.join (Str.ofString "") (ts.map S) = S ts.flatten := by
  rw [empty_S, join_S]
  congr 2
  induction ts with
  | nil => rfl
  | cons x r ih =>
    cases r with
    | nil => simp [TL.joinL]
    | cons y r =>
      show x ++ ([] ++ TL.joinL [] (y :: r)) = _
      rw [ih]
      rfl
theorem one_len (cs : List Nat) : ((cs.map fun c => S [c]).map (·.length)).sum = cs.length := by
  induction cs with
  | nil => rfl
  | cons c r ih =>
    rw [List.map_cons, List.map_cons, List.sum_cons, ih, List.length_cons, S_len]
    show 1 + r.length = _
    omega
theorem az : Str.ofString "abcdefghijklmnopqrstuvwxyz" = S (List.range' 97 26) := by decide +kernel

/-! ### turns -/
theorem get_idx {gs : List Nat} {c : Nat} (h : c ∈ gs) : gs[gs.idxOf c]? = some c := by
  rw [List.getElem?_eq_getElem (List.idxOf_lt_length_of_mem h), List.getElem_idxOf]
def tau (gs p : List Nat) (c : Nat) : Nat := p.getD (gs.idxOf c) 0
theorem tau_at {gs p : List Nat} {c : Nat} (h : c ∈ gs) (hl : p.length = gs.length) : p[gs.idxOf c]? = some (tau gs p c) := by
  have lt : gs.idxOf c < p.length := by rw [hl]; exact List.idxOf_lt_length_of_mem h
  unfold tau
  rw [List.getD_eq_getElem?_getD, List.getElem?_eq_getElem lt]
  rfl
theorem tau_self {gs : List Nat} {c : Nat} (h : c ∈ gs) : tau gs gs c = c := by
  have e := tau_at h (rfl : gs.length = gs.length)
  have e2 : gs[gs.idxOf c]? = some c := get_idx h
  rw [e] at e2
  exact Option.some.inj e2
theorem tau_map {gs m : List Nat} (f : Nat → Nat) {c : Nat} (h : c ∈ gs) (hl : m.length = gs.length) :
    tau gs (m.map f) c = f (tau gs m c) := by
  have e := tau_at (p := m.map f) h (by rw [List.length_map, hl])
  rw [List.getElem?_map, tau_at h hl] at e
  exact (Option.some.inj e).symm
theorem idx_get {y : List Nat} (nd : y.Nodup) {i c : Nat} (h : y[i]? = some c) : y.idxOf c = i := by
  refine idx_of y i h fun k lt e => ?_
  obtain ⟨h1, e1⟩ := List.getElem?_eq_some_iff.mp h
  obtain ⟨h2, e2⟩ := List.getElem?_eq_some_iff.mp e
  have : k = i := (List.getElem_inj nd).mp (e2.trans e1.symm)
  omega
/-! ### how often -/
def it (gs t : List Nat) : Nat → List Nat
  | 0 => t
  | j + 1 => (it gs t j).map (tau gs t)
def lists (n : Nat) : Nat → List (List Nat)
  | 0 => [[]]
  | k + 1 => (List.range n).flatMap fun a => (lists n k).map fun l => a :: l
/-! ### letters -/
def lets (f s n : Nat) : List Nat := (List.range n).map fun k => 97 + (f + s * k) % 26
theorem lets_nd : ∀ f ∈ List.range 26, ∀ s ∈ [1, 3, 5, 25, 7], ∀ n ∈ [2, 3, 4], (lets f s n).Nodup := by
  decide +kernel
structure Good (gs : List Nat) : Prop where
  lo : 2 ≤ gs.length
  hi : gs.length ≤ 4
  nd : gs.Nodup
  az : ∀ c ∈ gs, 97 ≤ c ∧ c ≤ 122
theorem lets_good {f s n : Nat} (hf : f < 26) (hs : s ∈ [1, 3, 5, 25, 7]) (hn : n ∈ [2, 3, 4]) : Good (lets f s n) := by
  have hl : (lets f s n).length = n := by unfold lets; rw [List.length_map, List.length_range]
  have h2 : 2 ≤ n ∧ n ≤ 4 := by
    simp only [List.mem_cons, List.not_mem_nil, or_false] at hn
    omega
  refine ⟨by omega, by omega, lets_nd f (List.mem_range.mpr hf) s hs n hn, fun c hc => ?_⟩
  obtain ⟨k, _, rfl⟩ := List.mem_map.mp hc
  omega

/-! ### the dict of two texts -/
end Own

namespace Own
open PySem PySem.Spec PyProof.Rows L2 SX RZ
/-! ### the drawer -/
def RngV (H : Hp) (r l : Addr) (ns : List Int) (i b s c : Int) : Prop :=
  0 ≤ i ∧ H r = some (.lst [.ref l, .int i, .int b, .int s, .int c]) ∧ H l = some (.lst (ns.map V.int))
def RngL (H : Hp) (r l : Addr) : Prop := ∃ ns i b s c, RngV H r l ns i b s c
def Rng (H : Hp) (r : Addr) : Prop := ∃ l, RngL H r l
/-- all but r as before, and at r a drawer over the same cells -/
def Go (r : Addr) (H H' : Hp) : Prop :=
  (∀ b o, b ≠ r → H b = some o → H' b = some o) ∧ ∃ l, RngL H r l ∧ RngL H' r l

theorem ints_ne {a : List Int} {l : Addr} {xs : List V} : HO.lst (a.map V.int) ≠ HO.lst (V.ref l :: xs) := by
  intro h
  injection h with h
  cases a with
  | nil => cases h
  | cons x r =>
    injection h with h1 h2
    cases h1
theorem RngV.ne {H : Hp} {r l : Addr} {ns : List Int} {i b s c : Int} (h : RngV H r l ns i b s c) : l ≠ r :=
  ne_of h.2.2 h.2.1 ints_ne
theorem RngV.put {H : Hp} {r l : Addr} {ns : List Int} {i b s c i' b' s' c' : Int}
    (h : RngV H r l ns i b s c) (hi : 0 ≤ i') :
    RngV (upd H r (.lst [.ref l, .int i', .int b', .int s', .int c'])) r l ns i' b' s' c' :=
  ⟨hi, upd_same, by rw [upd_ne h.ne]; exact h.2.2⟩
theorem RngL.inj {r l l' : Addr} {H : Hp} (a : RngL H r l) (b : RngL H r l') : l = l' := by
  obtain ⟨ns, i, b', s, c, R⟩ := a
  obtain ⟨ns', i', b'', s', c', R'⟩ := b
  have e := R.2.1.symm.trans R'.2.1
  injection e with e
  injection e with e
  injection e with e1 e2
  injection e1
theorem RngL.same {r l : Addr} {H H' : Hp} (h : RngL H r l) (s : Same H H') : RngL H' r l := by
  obtain ⟨ns, i, b, z, c, R⟩ := h
  exact ⟨ns, i, b, z, c, R.1, s _ _ R.2.1, s _ _ R.2.2⟩
theorem Rng.same {r : Addr} {H H' : Hp} (h : Rng H r) (s : Same H H') : Rng H' r := let ⟨l, h⟩ := h; ⟨l, h.same s⟩
theorem Go.rng {r : Addr} {H H' : Hp} (g : Go r H H') : Rng H' r := let ⟨l, _, h⟩ := g.2; ⟨l, h⟩
theorem Go.rng0 {r : Addr} {H H' : Hp} (g : Go r H H') : Rng H r := let ⟨l, h, _⟩ := g.2; ⟨l, h⟩
theorem Go.trans {r : Addr} {H H1 H2 : Hp} (a : Go r H H1) (b : Go r H1 H2) : Go r H H2 := by
  obtain ⟨a1, l, a2, a3⟩ := a
  obtain ⟨b1, l', b2, b3⟩ := b
  have e := a3.inj b2
  subst e
  exact ⟨fun x o nx e => b1 x o nx (a1 x o nx e), l, a2, b3⟩
theorem Go.refl {r : Addr} {H : Hp} (h : Rng H r) : Go r H H := let ⟨l, h⟩ := h; ⟨fun _ _ _ e => e, l, h, h⟩
theorem Go.of {r : Addr} {H H' : Hp} (h : Rng H r) (s : Same H H') : Go r H H' :=
  let ⟨l, h⟩ := h; ⟨fun _ _ _ e => s _ _ e, l, h, h.same s⟩
theorem Go.same {r : Addr} {H H1 H2 : Hp} (a : Go r H H1) (s : Same H1 H2) : Go r H H2 := a.trans (Go.of a.rng s)
theorem Go.after {r : Addr} {H H1 H2 : Hp} (h : Rng H r) (s : Same H H1) (a : Go r H1 H2) : Go r H H2 := (Go.of h s).trans a
theorem RngL.ex {r l : Addr} {H : Hp} (h : RngL H r l) : (∃ xs, H r = some (.lst xs)) ∧ ∃ xs, H l = some (.lst xs) := by
  obtain ⟨ns, i, b, s, c, R⟩ := h
  exact ⟨⟨_, R.2.1⟩, ⟨_, R.2.2⟩⟩
theorem Rng.ex {r : Addr} {H : Hp} (h : Rng H r) : ∃ xs, H r = some (.lst xs) := let ⟨_, h⟩ := h; h.ex.1
/-- a list made on the way, new at H, is written -/
theorem Go.put {r D : Addr} {H H' : Hp} {o : HO} (g : Go r H H') (nD : H D = none) : Go r H (upd H' D o) := by
  obtain ⟨g1, l, h, h'⟩ := g
  obtain ⟨⟨x1, e1⟩, ⟨x2, e2⟩⟩ := h.ex
  have n1 : r ≠ D := ne_of_none e1 nD
  have n2 : l ≠ D := ne_of_none e2 nD
  refine ⟨fun b u nb e => ?_, l, h, ?_⟩
  · rw [upd_ne (ne_of_none e nD)]
    exact g1 b u nb e
  · obtain ⟨ns, i, b, z, c, R⟩ := h'
    exact ⟨ns, i, b, z, c, R.1, by rw [upd_ne n1]; exact R.2.1, by rw [upd_ne n2]; exact R.2.2⟩
theorem same_new {H : Hp} {p : Addr} {o : HO} (h : H p = none) : Same H (upd H p o) := fun b x e => by
  rw [upd_ne (ne_of_none e h)]
  exact e
theorem Go.seq {K : PySem.W.Frag} {r a : Addr} {H H' : Hp} {xs : List V} (g : Go r H H') (ne : a ≠ r) (h : SqL K H a xs) : SqL K H' a xs := by
  rcases h with (h | ⟨o, h⟩) | h
  · exact .inl (.inl (g.1 _ _ ne h))
  · exact .inl (.inr ⟨o, g.1 _ _ ne h⟩)
  · exact .inr h
theorem small {n : Nat} (h : n ≤ 1000) : n ≤ sizeLine := Nat.le_of_lt (small1000 h)
/-! ### equal data -/
def Flat : V → Prop
  | .non => True
  | .bl _ => True
  | .int _ => True
  | .str _ => True
  | _ => False
/-- two values that are the same data, less than n deep -/
def Eqd (K : PySem.W.Frag) (H : Hp) : Nat → V → V → Prop
  | 0, _, _ => False
  | n + 1, x, y => (x = y ∧ Flat x) ∨ ∃ a b xs ys, x = .ref a ∧ y = .ref b ∧
      ((SqL K H a xs ∧ SqL K H b ys) ∨ (SqT K H a xs ∧ SqT K H b ys)) ∧ xs.length ≤ 1000 ∧ xs.length = ys.length ∧
      ∀ (i : Nat) u v, xs[i]? = some u → ys[i]? = some v → Eqd K H n u v
theorem same_t {K : PySem.W.Frag} {H H' : Hp} {a : Addr} {xs : List V} (e : Same H H') (h : SqT K H a xs) : SqT K H' a xs := by
  rcases h with (h | ⟨o, h⟩) | h
  · exact .inl (.inl (e _ _ h))
  · exact .inl (.inr ⟨o, e _ _ h⟩)
  · exact .inr h
theorem Eqd.same {K : PySem.W.Frag} {H H' : Hp} (s : Same H H') : ∀ {n : Nat} {x y : V}, Eqd K H n x y → Eqd K H' n x y
  | 0, _, _, h => h.elim
  | n + 1, x, y, h => by
    rcases h with h | ⟨a, b, xs, ys, e1, e2, h, l1, l2, k⟩
    · exact Or.inl h
    · refine Or.inr ⟨a, b, xs, ys, e1, e2, ?_, l1, l2, fun i u v hu hv => (k i u v hu hv).same s⟩
      rcases h with ⟨h1, h2⟩ | ⟨h1, h2⟩
      · exact .inl ⟨s.seq h1, s.seq h2⟩
      · exact .inr ⟨same_t s h1, same_t s h2⟩
theorem Eqd.refl {K : PySem.W.Frag} {H : Hp} {n : Nat} {x : V} (h : Flat x) : Eqd K H (n + 1) x x := Or.inl ⟨rfl, h⟩
/-- two lists of flat things -/
theorem Eqd.lst {K : PySem.W.Frag} {H : Hp} {n : Nat} {a b : Addr} {xs : List V} (h1 : H a = some (.lst xs)) (h2 : H b = some (.lst xs)) (hl : xs.length ≤ 1000) (hf : ∀ x ∈ xs, Flat x) :
    Eqd K H (n + 2) (.ref a) (.ref b) := by
  refine Or.inr ⟨a, b, xs, xs, rfl, rfl, .inl ⟨.inl (.inl h1), .inl (.inl h2)⟩, hl, rfl, fun i u v hu hv => ?_⟩
  have e := Option.some.inj (hu.symm.trans hv)
  subst e
  exact Eqd.refl (hf _ (List.mem_of_getElem? hu))
theorem tyL {K : PySem.W.Frag} {H : Hp} {a : Addr} {xs : List V} (h : SqL K H a xs) : TyX K H (.ref a) (.type "list") := by
  rcases h with (h | ⟨o, h⟩) | ⟨o, its, n, hk, hc, _⟩
  · exact .base (.lst h)
  · exact .base (.frz h)
  · exact .kList hk hc
theorem tyT {K : PySem.W.Frag} {H : Hp} {a : Addr} {xs : List V} (h : SqT K H a xs) : TyX K H (.ref a) (.type "tuple") := by
  rcases h with (h | ⟨o, h⟩) | ⟨o, its, n, hk, hc, _⟩
  · exact .base (.tup h)
  · exact .fTuple h
  · exact .kTuple hk hc
theorem walk_zT {K : PySem.W.Frag} {a b : Addr} {xs ys : List V} {n : Nat} (hn : n = min xs.length ys.length) :
    Walk (ItzT K a b) n (fun H => SqT K H a xs ∧ SqT K H b ys) (YPair (fun i => xs[i]?) (fun i => ys[i]?)) := by
  refine ⟨fun i H hi q => ?_, fun H q => ⟨xs, ys, q.1, q.2, by omega⟩, ?_⟩
  · obtain ⟨lx, ly⟩ := Nat.lt_min.mp (hn ▸ hi)
    exact ⟨xs, ys, _, _, q.1, q.2, List.getElem?_eq_getElem lx, List.getElem?_eq_getElem ly⟩
  · rintro i H v H' _ ⟨qa, qb⟩ ⟨T, x, z, e1, e2, e3, a, b⟩
    exact ⟨T, x, z, e1, e2, e3, a _ qa, b _ qb⟩

theorem kit2 {K : PySem.W.Frag} {t a b : String} {r s : Bool} (h1 : kitB t a = some r) (h2 : kitB t b = some s) :
    PySem.W.kitAny K (.type t) [.type a, .type b] = some (r || s) := by
  refine kitAny_cons (kit_ty h1) (fun e => ?_) (fun e => by rw [e]; rfl)
  subst e
  refine kitAny_cons (kit_ty h2) (fun e => ?_) (fun e => by rw [e]; rfl)
  subst e
  rfl
theorem flat_ty {K : PySem.W.Frag} {x : V} (h : Flat x) : ∃ t, (∀ H, TyX K H x (.type t)) ∧ kitB t "list" = some false ∧ kitB t "tuple" = some false ∧
    (∃ b, kitB t "bool" = some b) ∧ (∃ b, kitB t "int" = some b) ∧ ∃ b, kitB t "str" = some b := by
  cases x with
  | non => exact ⟨"NoneType", fun _ => .base .non, by decide +kernel, by decide +kernel, ⟨false, by decide +kernel⟩, ⟨false, by decide +kernel⟩, ⟨false, by decide +kernel⟩⟩
  | bl b => exact ⟨"bool", fun _ => .base (.bl b), by decide +kernel, by decide +kernel, ⟨true, by decide +kernel⟩, ⟨true, by decide +kernel⟩, ⟨false, by decide +kernel⟩⟩
  | int i => exact ⟨"int", fun _ => .base (.int i), by decide +kernel, by decide +kernel, ⟨false, by decide +kernel⟩, ⟨true, by decide +kernel⟩, ⟨false, by decide +kernel⟩⟩
  | str z => exact ⟨"str", fun _ => .base (.str z), by decide +kernel, by decide +kernel, ⟨false, by decide +kernel⟩, ⟨false, by decide +kernel⟩, ⟨true, by decide +kernel⟩⟩
  | _ => exact h.elim
def spDraws (K : PySem.W.Frag) : Sp := fun vs H Q _ => ∃ (a : Addr) (ns : List Int), vs = [.ref a] ∧
  SqL K H a (ns.map V.int) ∧ ∀ H' r, Same H H' → H r = none → Rng H' r → Q (.ref r) H'
def spDraw : Sp := fun vs H Q _ => ∃ (r : Addr) (n : Int), vs = [.ref r, .int n] ∧ 0 < n ∧ n < 1000000 ∧
  Rng H r ∧ ∀ H' k, Go r H H' → 0 ≤ k → k < n → Q (.int k) H'
def spPick (K : PySem.W.Frag) : Sp := fun vs H Q _ => ∃ (r : Addr) (x : V), vs = [.ref r, x] ∧ Rng H r ∧
  ((∃ a xs, x = .ref a ∧ a ≠ r ∧ SqL K H a xs ∧ 0 < xs.length ∧ xs.length ≤ 1000 ∧ ∀ H' v, Go r H H' → v ∈ xs → Q v H') ∨
   (∃ cs : List Nat, x = .str (S cs) ∧ 0 < cs.length ∧ cs.length ≤ 1000 ∧ ∀ H' c, Go r H H' → c ∈ cs → Q (.str (S [c])) H'))
def spLetters : Sp := fun vs H Q _ => ∃ (r : Addr) (m : Int), vs = [.ref r, .int m] ∧ 2 ≤ m ∧ Rng H r ∧
  ∀ H' gs, Go r H H' → Good gs → (gs.length : Int) ≤ m → Q (.str (S gs)) H'
def spTurn : Sp := fun vs H Q _ => ∃ (r : Addr) (gs : List Nat), vs = [.ref r, .str (S gs)] ∧ gs.length ≤ 1000 ∧ Rng H r ∧
  ∀ H' t, Go r H H' → t.Perm gs → Q (.str (S t)) H'
def spSm (K : PySem.W.Frag) (n : Nat) : Sp := fun vs H Q _ => ∃ x y, vs = [x, y] ∧ Eqd K H n x y ∧ ∀ H', Same H H' → Q (.bl true) H'
structure SameT (mg : Str → Option Value) : Prop where
  isi : mg "isinstance" = none
  list : mg "list" = none
  tuple : mg "tuple" = none
  len : mg "len" = none
  all : mg "all" = none
  zip : mg "zip" = none
  bool : mg "bool" = none
  int : mg "int" = none
  str : mg "str" = none
/-! ### calls in short -/
structure Cl (P : Program) (w : World) (K : PySem.W.Frag) (mg : Str → Option Value) (base : Heap) (x : Str) (k : Nat) (ps : List Str) (sp : Sp) (f : Addr) (fd : FuncData) : Prop where
  ok : FnOk P w K mg base CX0 k f fd ps sp
  gl : mg x = some (.ref f)
  kp : PySem.W.keepIn K (.ref f) = true
  bd : Binds K fd ps []
section
variable {X : Cx} {k j : Nat} {f : Addr} {fd : FuncData} {ps ks : List Str} {sp : Sp} {x : Str} {p pos : Pos} {e : Expr} {es : List Expr} {kws : List Keyword} {t tk : TA}
theorem pe_cl (C : Cl X.prog X.w X.K X.mg X.base x k ps sp f fd) (hr : Room j X.A) (hk : k ≤ j) (hg : Gl X x) (ha : PA X (e :: es) t)
    (hdb : (x == ("__debug__" : Str)) = false := by decide) (he : starEach (e :: es) X.env = (false, eval e X.env) :: starEach es X.env := by rfl)
    (hpl : (backTo pos (starEach es X.env)).any (·.1) = false := by rfl) :
    PE X (.Call (.Name x p) (e :: es) [] pos) (tCall sp [] E0 t) :=
  pe_call C.ok (hr.mono hk) hg C.gl C.kp C.bd .nil pass0 ha hdb he hpl
/-- f(k = v, ..) -/
theorem pe_kw {g : List Value → List Value → List Value} {gV : List V → List V → List V}
    (C : Cl X.prog X.w X.K X.mg X.base x k ps sp f fd) (hr : Room j X.A) (hk : k ≤ j) (hg : Gl X x)
    (hb : KBinds X.K fd ps ks g gV) (hkw : PK X kws tk)
    (hall : (backToKw pos (keywordEach kws X.env)).all (·.1.isSome) = true := by rfl)
    (hks : (backToKw pos (keywordEach kws X.env)).filterMap (·.1) = ks := by rfl)
    (hdb : (x == ("__debug__" : Str)) = false := by decide)
    (hpl : ((backTo pos (starEach [] X.env)).any (·.1) || (backToKw pos (keywordEach kws X.env)).any (·.1.isNone)) = false := by rfl) :
    PE X (.Call (.Name x p) [] kws pos) (tCallK sp gV E0 tNil tk) := by
  refine ⟨fun pins s σ H Q I h => ?_⟩
  refine wpAny_Call_Name_kw (ld_glob I hg C.gl ?_ hdb)
  refine PySem.W.callWith_KW0 (h₀ := X.base) I.ok.mod.kin C.kp hall ?_ hpl
  refine thn (hkw.run pos pins s σ H _ I h) fun ws s2 ⟨zs, H2, I2, rz, q2⟩ => ⟨I2.kIn, ?_⟩
  rw [hks]
  exact run_fnk (us := []) (vs := []) C.ok (hr.mono hk) hb pass0 I2 .nil rz q2
end
end Own

namespace Own
open PySem PySem.Spec PyProof.Rows L2 SX
/-! ### try: .. except (A, B) as e: .. -/
/-- a caught exception at a as a clause looks at it, over the def's own state -/
structure Seen (X : Cx) (pins : List (Addr × Obj)) (B : Heap) (a : Addr) (cls : Value) (d : Option Addr) (σ : L2.St) (H : Hp) (s : Shared) : Prop where
  inv : Inv X pins σ H s
  fly : HandSPX.FlyingZ B (X.env :: X.outer) a (Zc cls d) s.heap
  free : H a = none
/-- the exception is none of the frames, so the suite may run with it pinned -/
theorem Seen.go {X : Cx} {pins : List (Addr × Obj)} {B : Heap} {a : Addr} {cls : Value} {d : Option Addr} {σ : L2.St} {H : Hp} {s : Shared}
    (g : Seen X pins B a cls d σ H s) (hf : X.env.frame = some X.env.locals) :
    ∃ oe, s.heap.get? a = some oe ∧ Zc cls d oe ∧ (∃ vs, oe.data = .fields vs) ∧ Inv (X.suite a ((a, oe) :: (X.pn ++ pins))) [] σ H s := by
  obtain ⟨oe, vs, e, hz, hd⟩ := g.fly.there
  have apart : ∀ v ∈ X.env :: X.outer, v.frame ≠ some a := fun v hv q => by
    obtain ⟨_, o', e', n⟩ := g.fly.2.2.1.mem (List.mem_filterMap.mpr ⟨v, hv, q⟩)
    cases e.symm.trans e'
    exact n _ hd
  refine ⟨oe, e, hz, ⟨vs, hd⟩, g.inv.suite e hd g.free (fun q => apart _ List.mem_cons_self (by rw [hf, q])) fun hm => ?_⟩
  obtain ⟨v, hv, q⟩ := List.mem_filterMap.mp hm
  exact apart v (List.mem_cons_of_mem _ hv) q

section
variable {X : Cx} {x1 x2 n : Str} {c1 c2 : Value} {i k : Nat} {body suite : List Stmt} {b0 : Stmt}
variable {p1 p2 pt pos pos' : Pos} {tb : WX → TS} {ts : Addr → Value → Option Addr → TS}
end
end Own

namespace Own
open PySem PySem.Spec PyProof.Rows L2 SX
/-! ### a def called with the caught exception -/
/-! ### the fields of errors -/
end Own

namespace Own
open PySem PySem.Spec PyProof.Rows L2 SX
/-! ### _law_try -/
end Own

namespace Own
open PySem PySem.Spec PyProof.Rows L2 SX
/-! ### tables of code objects, and the drawer -/
theorem tabs_same {T : List (Addr × Str)} {H H' : Hp} (t : LamX.Tabs T H) (s : Same H H') : LamX.Tabs T H' := t.ext s
theorem tabs_go {T : List (Addr × Str)} {r : Addr} {H H' : Hp} (t : LamX.Tabs T H) (g : Go r H H') : LamX.Tabs T H' := by
  intro p hp
  obtain ⟨ps, h1, h2, h3⟩ := t p hp
  obtain ⟨xs, er⟩ := g.rng0.ex
  refine ⟨ps, g.1 _ _ (ne_of h1 er fun e => by cases e) h1, h2, fun pos cv hc => ?_⟩
  obtain ⟨c, e1, e2⟩ := h3 pos cv hc
  exact ⟨c, e1, g.1 _ _ (ne_of e2 er fun e => by unfold LamX.CodeO at e; cases e) e2⟩
theorem rng_extN {r : Addr} {H H' : Hp} (R : Rng H r) (e : LamX.ExtN H H') : Rng H' r := by
  obtain ⟨l, ns, i, b, z, c, R⟩ := R
  exact ⟨l, ns, i, b, z, c, R.1, e _ _ R.2.1 (fun ps h => by cases h), e _ _ R.2.2 (fun ps h => by cases h)⟩
/-- all but the tables and the drawer at r stay; there is a drawer -/
structure Keep (T : List (Addr × Str)) (r : Addr) (H : Hp) : Prop where
  rng : Rng H r
  tab : LamX.Tabs T H
theorem Keep.same {T : List (Addr × Str)} {r : Addr} {H H' : Hp} (k : Keep T r H) (s : Same H H') : Keep T r H' := ⟨k.rng.same s, tabs_same k.tab s⟩
theorem Keep.go {T : List (Addr × Str)} {r : Addr} {H H' : Hp} (k : Keep T r H) (g : Go r H H') : Keep T r H' := ⟨g.rng, tabs_go k.tab g⟩
theorem Keep.ext {T : List (Addr × Str)} {r : Addr} {H H' : Hp} (k : Keep T r H) (e : LamX.ExtN H H') (t : LamX.Tabs T H') : Keep T r H' := ⟨rng_extN k.rng e, t⟩
theorem Keep.new {T : List (Addr × Str)} {r p : Addr} {H : Hp} {o : HO} (k : Keep T r H) (n : H p = none) : Keep T r (upd H p o) := k.same (same_new n)
/-! ### two calls tried -/
section
variable {K : PySem.W.Frag} {mg : Str → Option Value} {T : List (Addr × Str)} {CF CM C : Addr} {H : Hp} {σ : L2.St} {Q : VK} {x : Str} {ta : TA}
/-- the first sign of xs that is none of gs -/
def Bad (gs xs : List Nat) (i : Nat) : Prop := ∃ c : Nat, xs[i]? = some c ∧ c ∉ gs ∧ ∀ (j c' : Nat), j < i → xs[j]? = some c' → c' ∈ gs
theorem Bad.one {gs xs : List Nat} {i j : Nat} (a : Bad gs xs i) (b : Bad gs xs j) : i = j := by
  obtain ⟨c, h1, h2, h3⟩ := a
  obtain ⟨d, k1, k2, k3⟩ := b
  rcases Nat.lt_trichotomy i j with h | h | h
  · exact absurd (k3 i c h h1) h2
  · exact h
  · exact absurd (h3 j d h k1) k2
end
/-! ### signs that stand twice, signs that are none of the letters -/
/-! ### lists of ints compared with nothing -/
/-- two tuples of flat things -/
theorem Eqd.tup {K : PySem.W.Frag} {H : Hp} {n : Nat} {a b : Addr} {xs : List V} (h1 : H a = some (.tup xs)) (h2 : H b = some (.tup xs)) (hl : xs.length ≤ 1000) (hf : ∀ x ∈ xs, Flat x) :
    Eqd K H (n + 2) (.ref a) (.ref b) := by
  refine Or.inr ⟨a, b, xs, xs, rfl, rfl, .inr ⟨.inl (.inl h1), .inl (.inl h2)⟩, hl, rfl, fun i u v hu hv => ?_⟩
  have e := Option.some.inj (hu.symm.trans hv)
  subst e
  exact Eqd.refl (hf _ (List.mem_of_getElem? hu))
/-! ### readings with one end -/
/-- what is due of a text to be checked -/
def Alt (gs xs : List Nat) (code : Str) (v : V) : Prop :=
  (∀ c ∈ xs, c ∈ gs) ∧ code = Str.ofString "value" ∧ v = .non ∨ ∃ i : Nat, Bad gs xs i ∧ code = Str.ofString "UnknownLetter" ∧ v = .int (i : Nat)
theorem Alt.one {gs xs : List Nat} {z z' : Str} {v v' : V} (a : Alt gs xs z v) (b : Alt gs xs z' v') : z = z' ∧ v = v' := by
  rcases a with ⟨h, rfl, rfl⟩ | ⟨i, B, rfl, rfl⟩ <;> rcases b with ⟨h', rfl, rfl⟩ | ⟨j, B', rfl, rfl⟩
  · exact ⟨rfl, rfl⟩
  · obtain ⟨c, h1, h2, _⟩ := B'
    exact absurd (h c (List.mem_of_getElem? h1)) h2
  · obtain ⟨c, h1, h2, _⟩ := B
    exact absurd (h' c (List.mem_of_getElem? h1)) h2
  · rw [B.one B']
    exact ⟨rfl, rfl⟩
theorem Alt.flat {gs xs : List Nat} {z : Str} {v : V} (a : Alt gs xs z v) : Flat v := by
  rcases a with ⟨h, rfl, rfl⟩ | ⟨i, B, rfl, rfl⟩ <;> trivial
end Own

namespace Own
open PySem PySem.Spec PyProof.Rows L2 SX
/-! ### three texts zipped -/
end Own

namespace Own
open PySem PySem.Spec PyProof.Rows L2 SX
/-! ### what turns make -/
inductive InC (gs : List Nat) (ts : List (List Nat)) : List Nat → Prop
  | one : InC gs ts gs
  | step {x t : List Nat} : InC gs ts x → t ∈ ts → InC gs ts (x.map (tau gs t))
theorem map_tau {gs t : List Nat} (nd : gs.Nodup) (hl : t.length = gs.length) : gs.map (tau gs t) = t := by
  refine List.ext_getElem? fun i => ?_
  rw [List.getElem?_map]
  by_cases h : i < gs.length
  · have h2 : i < t.length := by omega
    rw [List.getElem?_eq_getElem h, List.getElem?_eq_getElem h2]
    show some (t.getD (gs.idxOf gs[i]) 0) = some t[i]
    rw [idx_get nd (List.getElem?_eq_getElem h), List.getD_eq_getElem?_getD, List.getElem?_eq_getElem h2]
    rfl
  · rw [List.getElem?_eq_none (by omega), List.getElem?_eq_none (by omega)]
    rfl
theorem mul_perm {gs x t : List Nat} (nd : gs.Nodup) (hx : x.Perm gs) (ht : t.Perm gs) : (x.map (tau gs t)).Perm gs := by
  refine (hx.map _).trans ?_
  rw [map_tau nd ht.length_eq]
  exact ht
theorem InC.perm {gs : List Nat} {ts : List (List Nat)} (nd : gs.Nodup) (hts : ∀ t ∈ ts, t.Perm gs) {x : List Nat} (h : InC gs ts x) : x.Perm gs := by
  induction h with
  | one => exact List.Perm.refl _
  | step _ ht ih => exact mul_perm nd ih (hts _ ht)
theorem InC.mul {gs : List Nat} {ts : List (List Nat)} (nd : gs.Nodup) (hts : ∀ t ∈ ts, t.Perm gs) {x y : List Nat} (hx : InC gs ts x) (hy : InC gs ts y) :
    InC gs ts (x.map (tau gs y)) := by
  have px := hx.perm nd hts
  induction hy with
  | one =>
    have e : x.map (tau gs gs) = x := (List.map_congr_left fun c hc => tau_self (px.mem_iff.mp hc)).trans (List.map_id x)
    rw [e]
    exact hx
  | step hy' ht ih =>
    rename_i y' t
    have py := hy'.perm nd hts
    have e : x.map (tau gs (y'.map (tau gs t))) = (x.map (tau gs y')).map (tau gs t) := by
      rw [List.map_map]
      exact List.map_congr_left fun c hc => tau_map _ (px.mem_iff.mp hc) py.length_eq
    rw [e]
    exact InC.step ih ht
theorem InC.it {gs : List Nat} {ts : List (List Nat)} (nd : gs.Nodup) (hts : ∀ t ∈ ts, t.Perm gs) {x : List Nat} (hx : InC gs ts x) : ∀ j, InC gs ts (it gs x j)
  | 0 => hx
  | j + 1 => (InC.it nd hts hx j).mul nd hts hx
theorem few : ∀ n ∈ List.range 5, ((lists n n).filter fun p => decide p.Nodup).length ≤ 24 := by decide +kernel
def Closed (gs : List Nat) (ts fs : List (List Nat)) : Prop := ∀ x ∈ fs, ∀ t ∈ ts, x.map (tau gs t) ∈ fs
theorem InC.sub {gs : List Nat} {ts fs : List (List Nat)} (h0 : gs ∈ fs) (hc : Closed gs ts fs) {x : List Nat} (h : InC gs ts x) : x ∈ fs := by
  induction h with
  | one => exact h0
  | step _ ht ih => exact hc _ ih _ ht

/-! ### sorted -/
theorem rising_pw : ∀ (l : List (List Nat)) (p : List Nat), risingS (S p) (l.map S) = true → (p :: l).Pairwise (fun a b => ¬ b < a)
  | [], p, _ => List.pairwise_singleton ..
  | x :: r, p, h => by
    have h' : (!ltCps x p && risingS (S x) (r.map S)) = true := h
    rw [Bool.and_eq_true, Bool.not_eq_true', ltCps_eq, decide_eq_false_iff_not] at h'
    have ih := rising_pw r x h'.2
    refine List.pairwise_cons.mpr ⟨fun y hy => ?_, ih⟩
    rcases List.mem_cons.mp hy with e | hy
    · rw [e]; exact h'.1
    · have h2 : ¬ y < x := (List.pairwise_cons.mp ih).1 y hy
      exact fun lt => absurd (List.le_trans (List.not_lt.mp h'.1) (List.not_lt.mp h2)) (List.not_le.mpr lt)
theorem sorted_pw : ∀ (l : List (List Nat)), sortedS (l.map S) = true → l.Pairwise (fun a b => ¬ b < a)
  | [], _ => List.Pairwise.nil
  | x :: r, h => rising_pw r x h
theorem sorted_one : ∀ (l m : List (List Nat)), l.Pairwise (fun a b => ¬ b < a) → m.Pairwise (fun a b => ¬ b < a) → l.Nodup → m.Nodup → (∀ x, x ∈ l ↔ x ∈ m) → l = m
  | [], [], _, _, _, _, _ => rfl
  | [], y :: s, _, _, _, _, h => by have := (h y).mpr (List.mem_cons_self ..); simp at this
  | x :: r, [], _, _, _, _, h => by have := (h x).mp (List.mem_cons_self ..); simp at this
  | x :: r, y :: s, p1, p2, n1, n2, h => by
    have q1 := List.pairwise_cons.mp p1
    have q2 := List.pairwise_cons.mp p2
    have m1 := List.nodup_cons.mp n1
    have m2 := List.nodup_cons.mp n2
    have e : x = y := by
      have hx := (h x).mp (List.mem_cons_self ..)
      have hy := (h y).mpr (List.mem_cons_self ..)
      rcases List.mem_cons.mp hx with e | hx
      · exact e
      · rcases List.mem_cons.mp hy with e | hy
        · exact e.symm
        · exact List.le_antisymm (List.not_lt.mp (q1.1 y hy)) (List.not_lt.mp (q2.1 x hx))
    subst e
    have ih := sorted_one r s q1.2 q2.2 m1.2 m2.2 fun z => by
      constructor
      · intro hz
        rcases List.mem_cons.mp ((h z).mp (List.mem_cons_of_mem _ hz)) with e | e
        · rw [e] at hz; exact absurd hz m1.1
        · exact e
      · intro hz
        rcases List.mem_cons.mp ((h z).mpr (List.mem_cons_of_mem _ hz)) with e | e
        · rw [e] at hz; exact absurd hz m2.1
        · exact e
    rw [ih]
/-- the sorted list of what is made -/
structure Clo (gs : List Nat) (ts cs : List (List Nat)) : Prop where
  nd : cs.Nodup
  mem : ∀ x, x ∈ cs ↔ InC gs ts x
  srt : sortedS (cs.map S) = true
theorem Clo.one {gs : List Nat} {ts cs ds : List (List Nat)} (a : Clo gs ts cs) (b : Clo gs ts ds) : cs = ds :=
  sorted_one cs ds (sorted_pw cs a.srt) (sorted_pw ds b.srt) a.nd b.nd fun x => (a.mem x).trans (b.mem x).symm
/-- a sorted list of texts that is a rearrangement -/
theorem Clo.of {gs : List Nat} {ts fs : List (List Nat)} {ys : List Str} (nd : fs.Nodup) (h0 : gs ∈ fs) (hc : Closed gs ts fs) (hi : ∀ x ∈ fs, InC gs ts x)
    (hp : ys.Perm (fs.map S)) (hs : sortedS ys = true) : ∃ cs, ys = cs.map S ∧ Clo gs ts cs := by
  have e : (ys.map fun y => y.cps.toList).map S = ys := by
    rw [List.map_map]
    exact (List.map_congr_left fun y _ => S_tl y).trans (List.map_id ys)
  have hp2 : (ys.map fun y => y.cps.toList).Perm fs := by
    have h := hp.map fun y => y.cps.toList
    rw [List.map_map] at h
    have e2 : fs.map ((fun y : Str => y.cps.toList) ∘ S) = fs := (List.map_congr_left fun _ _ => rfl).trans (List.map_id fs)
    rw [e2] at h
    exact h
  refine ⟨_, e.symm, hp2.nodup_iff.mpr nd, fun x => ⟨fun h => hi x (hp2.mem_iff.mp h), fun h => hp2.mem_iff.mpr (h.sub h0 hc)⟩, ?_⟩
  rw [e]
  exact hs
end Own

namespace Own
open PySem PySem.Spec PyProof.Rows L2 SX
/-! ### sorted(text) -/
theorem strs_of {xs : List Str} : ∀ {us : List Value}, us.length = xs.length → (∀ (j : Nat) (v : Value), us[j]? = some v → ∃ y t, xs[j]? = some y ∧ v = .str y t) → StrsAre us xs := by
  induction xs with
  | nil =>
    intro us hl _
    cases us with
    | nil => exact .nil
    | cons _ _ => cases hl
  | cons x r ih =>
    intro us hl h
    cases us with
    | nil => cases hl
    | cons u us =>
      obtain ⟨y, t, e1, rfl⟩ := h 0 u rfl
      cases e1
      exact .cons _ _ (ih (Nat.succ.inj hl) fun j v e => h (j + 1) v e)
section
variable {X : Cx}
theorem call_sortedTx (hcalm : X.calm = true) : CallR X (.builtin "sorted") (fun xs H Q => ∃ (z : Str), xs = [.str z] ∧ z.cps.size < 64 ∧
    ∀ ys p, ys.Perm (z.cps.toList.map fun c => (⟨#[c]⟩ : Str)) → sortedS ys = true → H p = none → Q (.ref p) (upd H p (.lst (ys.map V.str)))) := by
  rintro pins s σ H _ us Q I r ⟨z, rfl, few, q⟩
  obtain ⟨_, rfl, t, rfl⟩ := vals1 r
  have line : z.cps.size ≤ sizeLine := Nat.le_trans (Nat.le_of_lt few) (by rw [sizeLine_eq]; decide)
  have body := Calls.call_function_entry (prog := X.prog) (w := X.w) (A := X.A) (E := X.xe) (s := s) (Q := EP X pins σ Q) kind_sorted plain_sorted entry_sorted (args_sorted1 (.str z t))
  refine body ?_
  rw [Builtin.«sorted»]
  refine wpAny_bind (m := checkCount "sorted" 1 1 _) (wpAny_pure (wpAny_bind (wpAny_collect_str (A := X.A.in1) (I.ok.hd hcalm) z t ?_ line)))
  rintro ⟨g, gens, drawn, tk, os⟩ acc keep (rfl : gens = s.gens) (rfl : drawn = s.drawn) (rfl : os = s.os) ⟨size, signs⟩
  -- the signs, one by one, in a list of their own
  have many : acc.toList.length = z.cps.size := by simpa using size
  have tx1 : StrsAre acc.toList (z.cps.toList.map fun c => (⟨#[c]⟩ : Str)) := by
    refine strs_of (by simpa using size) fun j v e => ?_
    obtain ⟨c, u, at_, rfl⟩ := signs j v (by simpa using e)
    exact ⟨_, u, by simp [at_], rfl⟩
  have made : (g.push (seqObj "list" acc.toList.toArray 0)).get? g.objs.size = some (seqObj "list" acc.toList.toArray 0) := Heap.get?_push_size _ rfl
  refine wpAny_bind (wpAny_newList (wpAny_bind (wpAny_holding (wpAny_call_entry slot_list_sort ⟨_, made, rfl⟩ entry_list_sort (list_sort_treeK strKind_oneLt
    (s := { s with heap := g.push (seqObj "list" acc.toList.toArray 0), toks := tk }) made tx1.keysOf (fun _ _ _ e => keyKind_strs (e ▸ tx1)) (many ▸ few) ?_) (args_list_sort _)))) (many ▸ line))
  intro st perm srt
  refine ⟨_, rfl, ?_⟩
  obtain ⟨ys, out, same, inOrder⟩ := sorted_out_str tx1 perm srt
  obtain ⟨n, lies⟩ := sortedHeap_at (vs := acc.toList) (out := (arrOf st).map (·.2)) made
  have I1 : Inv X pins σ H { s with heap := g, toks := tk } := I.kept keep
  refine wpAny_pure ⟨_, rfl, .ref g.objs.size, upd H g.objs.size (.lst (ys.map V.str)), I1.laid (t' := tk) (fun b o e => ?_) (Nat.le_refl _) ?_, rfl, q ys _ same inOrder (I1.hok.fresh (Nat.le_refl _))⟩
  · have lt := Heap.lt_size e
    exact (sortedHeap_old (Nat.ne_of_lt lt) (by rw [size_push']; exact Nat.lt_add_right 1 lt)).trans (Heap.get?_push_of_some _ e)
  · have short : (ys.map V.str).length ≤ sizeLine := by simpa [same.length_eq] using line
    exact (show ObjOk X.prog X.w _ _ _ (.lst (ys.map V.str)) from ⟨short, _, n, vals_of_strs out, lies.trans (by rw [Array.toArray_toList])⟩)
end
/-! ### count of one sign -/
theorem cnt_run (a : List Nat) (c lim : Nat) : ∀ (n lo : Nat) (st : Array Nat × Nat), lo + n = a.length + 1 → st.2 ≤ lo → st.1.size + n ≤ lim →
    (forIn (List.range' lo n) st (StrLaws.occBody (S a) (S [c]) a.length lim)).run.fst.size = st.1.size + (a.drop lo).count c := by
  intro n
  induction n with
  | zero =>
    intro lo st h1 _ _
    rw [List.drop_eq_nil_of_le (by omega)]
    rfl
  | succ n ih =>
    intro lo st h1 h2 h3
    rw [List.range'_succ, List.forIn_cons]
    unfold StrLaws.occBody
    by_cases hc : a[lo]? = some c
    · have hsub := (StrLaws.subAt_one (S a) c lo).mpr hc
      have hlt : lo < a.length := (List.getElem?_eq_some_iff.mp hc).1
      have e : a.drop lo = c :: a.drop (lo + 1) := by
        rw [List.drop_eq_getElem_cons hlt]
        rw [(List.getElem?_eq_some_iff.mp hc).2]
      rw [if_pos ⟨⟨⟨by omega, h2⟩, hsub.1⟩, hsub.2⟩]
      have := ih (lo + 1) (st.1.push lo, lo + 1) (by omega) (Nat.le_refl _) (by simp only [Array.size_push]; omega)
      refine this.trans ?_
      rw [e, List.count_cons_self, Array.size_push]
      omega
    · rw [if_neg fun h => hc ((StrLaws.subAt_one (S a) c lo).mp ⟨h.1.2, h.2⟩)]
      have := ih (lo + 1) (st.1, st.2) (by omega) (by show st.2 ≤ _; omega) (by show st.1.size + _ ≤ _; omega)
      refine this.trans ?_
      by_cases hlt : lo < a.length
      · have e : a.drop lo = a[lo] :: a.drop (lo + 1) := List.drop_eq_getElem_cons hlt
        rw [e, List.count_cons_of_ne (fun e => hc (by rw [List.getElem?_eq_getElem hlt, e]))]
      · rw [List.drop_eq_nil_of_le (by omega), List.drop_eq_nil_of_le (by omega)]
theorem count_S (a : List Nat) (c : Nat) : Txt.count (S a) (S [c]) = ((a.count c : Nat) : Int) := by
  unfold Txt.count
  rw [StrLaws.occ_eq, Array.length_toList]
  have := cnt_run a c (a.length + 1) (a.length + 1) 0 (#[], 0) (by omega) (Nat.le_refl _) (by show 0 + _ ≤ _; omega)
  rw [S_len]
  show (((forIn (List.range' 0 (a.length + 1)) (#[], 0) (StrLaws.occBody (S a) (S [c]) a.length (a.length + 1))).run.fst.size : Nat) : Int) = _
  rw [this]
  show ((0 + (a.drop 0).count c : Nat) : Int) = _
  rw [Nat.zero_add, List.drop_zero]
/-! ### sorted signs -/
theorem signs_of {zs : List Nat} {ys : List Str} (hp : ys.Perm (zs.map fun c => (⟨#[c]⟩ : Str))) : ∃ ls : List (List Nat), ys = ls.map S ∧ ls.Perm (zs.map fun c => [c]) := by
  refine ⟨ys.map fun y => y.cps.toList, ?_, ?_⟩
  · rw [List.map_map]
    refine ((List.map_congr_left fun y hy => ?_).trans (List.map_id ys)).symm
    obtain ⟨c, _, rfl⟩ := List.mem_map.mp (hp.mem_iff.mp hy)
    rfl
  · have := hp.map fun y => y.cps.toList
    rw [List.map_map] at this
    exact this
theorem signs_eq {zs ws : List Nat} {ls ms : List (List Nat)} (h1 : ls.Perm (zs.map fun c => [c])) (h2 : ms.Perm (ws.map fun c => [c])) (s1 : sortedS (ls.map S) = true) (s2 : sortedS (ms.map S) = true) :
    decide (ls = ms) = decide (zs.Perm ws) := by
  rw [decide_eq_decide]
  constructor
  · intro e
    subst e
    have := (h1.symm.trans h2).map fun l => l.headD 0
    simp only [List.map_map] at this
    have e1 : zs.map ((fun l : List Nat => l.headD 0) ∘ fun c => [c]) = zs := (List.map_congr_left fun _ _ => rfl).trans (List.map_id zs)
    have e2 : ws.map ((fun l : List Nat => l.headD 0) ∘ fun c => [c]) = ws := (List.map_congr_left fun _ _ => rfl).trans (List.map_id ws)
    rw [e1, e2] at this
    exact this
  · intro p
    refine List.Perm.eq_of_pairwise (le := fun a b => ¬ b < a) (fun a b _ _ h1 h2 => ?_) (sorted_pw _ s1) (sorted_pw _ s2) ((h1.trans (p.map _)).trans h2.symm)
    exact List.le_antisymm (List.not_lt.mp h1) (List.not_lt.mp h2)
theorem eqvAll_tx : ∀ ls ms : List (List Nat), PyData.eqvAll (ls.map fun c => PyData.str (S c)) (ms.map fun c => PyData.str (S c)) = decide (ls = ms)
  | [], [] => rfl
  | [], _ :: _ => by rw [decide_eq_false (fun e => by cases e)]; rfl
  | _ :: _, [] => by rw [decide_eq_false (fun e => by cases e)]; rfl
  | a :: r, b :: s => by
    show (PyData.eqv (.str (S a)) (.str (S b)) && PyData.eqvAll (r.map fun c => PyData.str (S c)) (s.map fun c => PyData.str (S c))) = _
    rw [eqvAll_tx r s]
    have e : PyData.eqv (.str (S a)) (.str (S b)) = decide (a = b) := by
      show (S a == S b) = _
      rw [Bool.eq_iff_iff, beq_iff_eq, decide_eq_true_iff]
      exact ⟨fun h => S_inj h, fun h => by rw [h]⟩
    rw [e, Bool.eq_iff_iff, Bool.and_eq_true, decide_eq_true_iff, decide_eq_true_iff, decide_eq_true_iff, List.cons.injEq]
/-! ### lists of texts as data -/
theorem lay_tx : ∀ (cs : List (List Nat)), (∀ c ∈ cs, ∀ k ∈ c, k < 128) → PyData.canLayAll0 (cs.map fun c => PyData.str (S c)) = true
  | [], _ => rfl
  | c :: r, h => by
    show (PyData.canLay0 (.str (S c)) && PyData.canLayAll0 (r.map fun c => PyData.str (S c))) = true
    rw [lay_tx r fun x hx => h x (List.mem_cons_of_mem _ hx), Bool.and_true]
    have h1 := h c (List.mem_cons_self ..)
    show ((c.toArray).all (fun k => decide (k < 1114112))) = true
    rw [List.all_toArray, List.all_eq_true]
    intro k hk
    have := h1 k hk
    exact decide_eq_true (by omega)
theorem dep_tx : ∀ (cs : List (List Nat)), PyData.depthAll (cs.map fun c => PyData.str (S c)) = 0
  | [] => rfl
  | c :: r => by
    show max (PyData.depth (.str (S c))) (PyData.depthAll (r.map fun c => PyData.str (S c))) = 0
    rw [dep_tx r]
    rfl
theorem shp_tx {cs : List (List Nat)} (h : ∀ c ∈ cs, ∀ k ∈ c, k < 128) : SeqAt.shaped (.list (cs.map fun c => PyData.str (S c))) = true := by
  unfold SeqAt.shaped
  have e : (PyData.list (cs.map fun c => PyData.str (S c))).depth = 1 := by
    show PyData.depthAll (cs.map fun c => PyData.str (S c)) + 1 = 1
    rw [dep_tx]
  rw [e]
  show (PyData.canLayAll0 (cs.map fun c => PyData.str (S c)) && decide (1 ≤ 64)) = true
  rw [lay_tx cs h]
  rfl
theorem dp_all {K : PySem.W.Frag} {H : Hp} : ∀ cs : List (List Nat), DpAll K H ((cs.map S).map V.str) (cs.map fun c => PyData.str (S c))
  | [] => .nil
  | c :: r => .cons (.str _) (dp_all r)
theorem small_of {zs : List Nat} {ls : List (List Nat)} (hp : ls.Perm (zs.map fun c => [c])) (h : ∀ c ∈ zs, c < 128) : ∀ c ∈ ls, ∀ k ∈ c, k < 128 := by
  intro c hc k hk
  obtain ⟨x, hx, rfl⟩ := List.mem_map.mp (hp.mem_iff.mp hc)
  rw [List.mem_singleton.mp hk]
  exact h x hx
theorem same_put {H H' : Hp} {p : Addr} {o : HO} (s : Same H H') (h : H p = none) : Same H (upd H' p o) := fun b u e => by
  rw [upd_ne (ne_of_none e h)]
  exact s _ _ e
/-! ### the promises -/
def spIs : Sp := fun vs H Q _ => ∃ gs t : List Nat, vs = [.str (S gs), .str (S t)] ∧ gs.length < 64 ∧ t.length < 64 ∧ (∀ c ∈ gs, c < 128) ∧ (∀ c ∈ t, c < 128) ∧
  ∀ H', Same H H' → Q (.bl (decide (t.Perm gs))) H'
section
variable {K : PySem.W.Frag} {mg : Str → Option Value} {T : List (Addr × Str)} {CF CM C : Addr} {H : Hp} {σ : L2.St} {Q : VK} {x : Str} {ta : TA}
end
end Own

namespace Own
open PySem PySem.Spec PyProof.Rows L2 SX
/-! ### a list or a tuple walked -/
def SqA (K : PySem.W.Frag) (H : Hp) (a : Addr) (xs : List V) : Prop := SqL K H a xs ∨ SqT K H a xs
theorem SqA.same {K : PySem.W.Frag} {H H' : Hp} {a : Addr} {xs : List V} (h : SqA K H a xs) (s : Same H H') : SqA K H' a xs := h.imp (fun h => s.seq h) (fun h => same_t s h)
theorem pi_or {X : Cx} {tg l : Expr} {w1 w2 : TI} (h1 : PI X tg l w1) (h2 : PI X tg l w2) : PI X tg l (fun σ H R => w1 σ H R ∨ w2 σ H R) :=
  ⟨fun pins s σ H R I h => h.elim (fun h => h1.run pins s σ H R I h) (fun h => h2.run pins s σ H R I h)⟩
def iAny (K : PySem.W.Frag) (tl : TE) : TI := fun σ H R => iList K tl σ H R ∨ iTup K tl σ H R
theorem pi_any {X : Cx} {tg l : Expr} {tl : TE} (h : PE X l tl) : PI X tg l (iAny X.K tl) := pi_or (pi_list h) (pi_tup h)
theorem it_any {K : PySem.W.Frag} {σ : L2.St} {H H0 : Hp} {R : It → Hp → Prop} {a : Addr} {xs : List V} {tl : TE} (h : ∀ k : VK, k (.ref a) H → tl σ H k) (hs : SqA K H0 a xs) (s0 : Same H0 H)
    (hR : ∀ J : It, Walk J xs.length (fun H' => Same H0 H') (fun i H1 x H2 => H2 = H1 ∧ xs[i]? = some x) → R J H) : iAny K tl σ H R := by
  rcases hs with hs | hs
  · refine .inl (h _ ⟨a, rfl, ⟨xs, s0.seq hs⟩, hR _ ?_⟩)
    exact ⟨fun i H' hi s => (walk_list (K := K) (a := a) (xs := xs)).goes i H' hi (s.seq hs), fun H' s => (walk_list (K := K) (a := a) (xs := xs)).stops H' (s.seq hs), fun i H' x H'' hi s y => (walk_list (K := K) (a := a) (xs := xs)).yields i H' x H'' hi (s.seq hs) y⟩
  · refine .inr (h _ ⟨a, rfl, ⟨xs, same_t s0 hs⟩, hR _ ?_⟩)
    exact ⟨fun i H' hi s => (walk_tup (K := K) (a := a) (xs := xs)).goes i H' hi (same_t s hs), fun H' s => (walk_tup (K := K) (a := a) (xs := xs)).stops H' (same_t s hs), fun i H' x H'' hi s y => (walk_tup (K := K) (a := a) (xs := xs)).yields i H' x H'' hi (same_t s hs) y⟩
/-! ### items of templates -/
abbrev tx (c : List Nat) : V := .str (S c)
/-- letters that may be: 2 to 4 different ones -/
def Row (gs : List Nat) (its : List (List Nat)) : Prop := ∀ x ∈ its, (∃ c, c ∈ gs ∧ x = [c]) ∨ x.Perm gs
def iTx (gs x : List Nat) : List Nat := if 1 < x.length then (if x = gs then [123, 125] else [123] ++ x ++ [125]) else x
def rTx (gs : List Nat) (its : List (List Nat)) : List Nat := if its = [] then [45] else (its.map (iTx gs)).flatten
theorem iTx_len {gs x : List Nat} : (iTx gs x).length ≤ x.length + 2 := by
  unfold iTx
  split
  · split
    · show 2 ≤ _
      omega
    · rw [List.length_append, List.length_append]
      show 1 + _ + 1 ≤ _
      omega
  · omega
theorem flat_len {f : List Nat → List Nat} {m : Nat} : ∀ {its : List (List Nat)}, (∀ x ∈ its, (f x).length ≤ m) → (its.map f).flatten.length ≤ its.length * m
  | [], _ => by simp
  | x :: r, h => by
    have h1 := h x (List.mem_cons_self ..)
    have h2 := flat_len (its := r) fun y hy => h y (List.mem_cons_of_mem _ hy)
    show (f x ++ (r.map f).flatten).length ≤ (r.length + 1) * m
    rw [List.length_append, Nat.add_mul]
    omega
theorem sum_len : ∀ ts : List (List Nat), ((ts.map S).map (·.length)).sum = ts.flatten.length
  | [] => rfl
  | x :: r => by
    show (S x).length + ((r.map S).map (·.length)).sum = (x ++ r.flatten).length
    rw [sum_len r, S_len, List.length_append]
/-! ### promises -/
def spBk : Sp := fun vs H Q _ => ∃ x : List Nat, vs = [tx x] ∧ x.length ≤ 1000 ∧ ∀ H', Same H H' → Q (.bl (decide (1 < x.length))) H'
def spIt : Sp := fun vs H Q _ => ∃ gs x : List Nat, vs = [tx gs, tx x] ∧ gs.length ≤ 1000 ∧ x.length ≤ 1000 ∧ ∀ H', Same H H' → Q (tx (iTx gs x)) H'
def spRt (K : PySem.W.Frag) : Sp := fun vs H Q _ => ∃ (gs : List Nat) (a : Addr) (its : List (List Nat)), vs = [tx gs, .ref a] ∧ gs.length ≤ 1000 ∧ SqA K H a (its.map tx) ∧ its.length ≤ 900 ∧ (∀ x ∈ its, x.length ≤ 900) ∧
  ∀ H', Same H H' → Q (tx (rTx gs its)) H'
theorem get_tx {cs : List (List Nat)} {i : Nat} {y : V} (h : (cs.map tx)[i]? = some y) : ∃ c, cs[i]? = some c ∧ y = tx c := by
  rw [List.getElem?_map] at h
  cases e : cs[i]? with
  | none => rw [e] at h; cases h
  | some c => rw [e] at h; exact ⟨c, rfl, (Option.some.inj h).symm⟩
end Own

namespace Own
open PySem PySem.Spec PyProof.Rows L2 SX
theorem slice_mid {a : List Nat} {i j : Nat} : Txt.slice (S a) (some (i : Int)) (some (j : Int)) = S ((a.take j).drop i) := by
  rw [← C8.cutS_slice]
  unfold cutS
  show (⟨_⟩ : Str) = _
  congr 1
  rw [HT.sIx_nat, HT.sIx_nat, S_len]
  congr 1
  show (a.drop (min i a.length)).take (min j a.length - min i a.length) = (a.take j).drop i
  rw [List.drop_take]
  by_cases hi : i ≤ a.length
  · rw [Nat.min_eq_left hi]
    by_cases hj : j ≤ a.length
    · rw [Nat.min_eq_left hj]
    · rw [Nat.min_eq_right (by omega), List.take_of_length_le (by rw [List.length_drop]; omega), List.take_of_length_le (by rw [List.length_drop]; omega)]
  · have e : min i a.length = a.length := Nat.min_eq_right (by omega)
    rw [e, List.drop_eq_nil_of_le (Nat.le_refl _), List.drop_eq_nil_of_le (show a.length ≤ i by omega), List.take_nil, List.take_nil]
theorem mid_app {p z q : List Nat} {i j : Int} (h1 : i = (p.length : Int)) (h2 : j = ((p.length + z.length : Nat) : Int)) : Txt.slice (S (p ++ z ++ q)) (some i) (some j) = S z := by
  subst h1
  subst h2
  rw [slice_mid, List.take_append_of_le_length (by rw [List.length_append]; exact Nat.le_refl _), List.take_of_length_le (by rw [List.length_append]; exact Nat.le_refl _), List.drop_left]
/-! ### forms of items -/
inductive Form (gs : List Nat) : List Nat → List Nat → Prop
  | one {c : Nat} : c ∈ gs → Form gs [c] [c]
  | turn {x : List Nat} : x.Perm gs → Form gs x ([123] ++ x ++ [125])
  | plain : Form gs gs [123, 125]
inductive Forms (gs : List Nat) : List (List Nat) → List (List Nat) → Prop
  | nil : Forms gs [] []
  | cons {x z : List Nat} {its zs : List (List Nat)} : Form gs x z → Forms gs its zs → Forms gs (x :: its) (z :: zs)
/-- a text of the items -/
def Rd (gs : List Nat) (its : List (List Nat)) (t : List Nat) : Prop := (its = [] ∧ t = [45]) ∨ (its ≠ [] ∧ ∃ zs, Forms gs its zs ∧ t = zs.flatten)
theorem form_i {gs x : List Nat} (hg : 2 ≤ gs.length) (h : (∃ c, c ∈ gs ∧ x = [c]) ∨ x.Perm gs) : Form gs x (iTx gs x) := by
  rcases h with ⟨c, hc, rfl⟩ | p
  · have e : iTx gs [c] = [c] := by unfold iTx; rw [if_neg (by show ¬ 1 < 1; omega)]
    rw [e]
    exact .one hc
  · have hl : 1 < x.length := by rw [p.length_eq]; omega
    unfold iTx
    rw [if_pos hl]
    split
    · rename_i e
      rw [e]
      exact .plain
    · exact .turn p
theorem forms_r {gs : List Nat} (hg : 2 ≤ gs.length) : ∀ {its : List (List Nat)}, Row gs its → Forms gs its (its.map (iTx gs))
  | [], _ => .nil
  | x :: r, h => .cons (form_i hg (h x (List.mem_cons_self ..))) (forms_r hg fun y hy => h y (List.mem_cons_of_mem _ hy))
theorem rd_r {gs : List Nat} (hg : 2 ≤ gs.length) {its : List (List Nat)} (h : Row gs its) : Rd gs its (rTx gs its) := by
  unfold rTx
  by_cases e : its = []
  · rw [if_pos e]
    exact .inl ⟨e, rfl⟩
  · rw [if_neg e]
    exact .inr ⟨e, _, forms_r hg h, rfl⟩
theorem form_ne {gs x z : List Nat} (h : Form gs x z) : z ≠ [] := by
  cases h <;> simp
theorem form_head {gs x z : List Nat} (hg : Good gs) (h : Form gs x z) : ∃ c r, z = c :: r ∧ c ≠ 45 := by
  cases h with
  | one hc => exact ⟨_, _, rfl, by have := hg.az _ hc; omega⟩
  | turn p => exact ⟨123, _, rfl, by decide⟩
  | plain => exact ⟨123, _, rfl, by decide⟩
/-! ### promises -/
def spBw : Sp := fun vs H Q _ => ∃ (gs pre post x z : List Nat), vs = [tx gs, tx (pre ++ z ++ post), .int (pre.length : Int)] ∧ Good gs ∧ (pre ++ z ++ post).length ≤ 1000 ∧
  ((z = [123, 125] ∧ ∀ H', Same H H' → Q (.int 2) H') ∨ (x.Perm gs ∧ z = [123] ++ x ++ [125] ∧ ∀ H', Same H H' → Q (.int ((gs.length : Int) + 2)) H'))
def spRd : Sp := fun vs H Q _ => ∃ (gs t : List Nat) (its : List (List Nat)), vs = [tx gs, tx t] ∧ Good gs ∧ t.length ≤ 1000 ∧ Rd gs its t ∧
  ∀ H' p, Same H H' → H p = none → H' p = some (.lst (its.map tx)) → Q (.ref p) H'
def spCLn : Sp := fun vs H Q _ => ∃ gs : List Nat, vs = [tx gs] ∧ Good gs ∧ ∀ H', Same H H' → Q .non H'
/-! ### templates as they lie -/
/-- the template at a: its letters and its items -/
def Tm (C : Addr) (H : Hp) (a : Addr) (gs : List Nat) (its : List (List Nat)) : Prop :=
  ∃ dx p, H a = some (.ins C dx [(Str.ofString "alphabet", tx gs), (Str.ofString "places", V.ref p)]) ∧ H p = some (.tup (its.map tx))
theorem Tm.same {C : Addr} {H H' : Hp} {a : Addr} {gs : List Nat} {its : List (List Nat)} (t : Tm C H a gs its) (s : Same H H') : Tm C H' a gs its := by
  obtain ⟨dx, p, h1, h4⟩ := t
  exact ⟨dx, p, s _ _ h1, s _ _ h4⟩
theorem Tm.go {C : Addr} {H H' : Hp} {a r : Addr} {gs : List Nat} {its : List (List Nat)} (t : Tm C H a gs its) (g : Go r H H') : Tm C H' a gs its := by
  obtain ⟨dx, p, h1, h4⟩ := t
  obtain ⟨xs, er⟩ := g.rng0.ex
  exact ⟨dx, p, g.1 _ _ (ne_of h1 er fun e => by cases e) h1, g.1 _ _ (ne_of h4 er fun e => by cases e) h4⟩
/-- the class -/
structure TmC (K : PySem.W.Frag) (C : Addr) : Prop where
  cls : Cls K C
  na : NoAttr K C "alphabet"
  np : NoAttr K C "places"
/-- __init__: the new instance x gets its two fields -/
def spTi (C : Addr) : Sp := fun vs H Q _ => ∃ (x dx : Addr) (gs t : List Nat) (its : List (List Nat)), vs = [.ref x, tx gs, tx t] ∧ H x = some (.ins C dx []) ∧ Good gs ∧ t.length ≤ 1000 ∧ Rd gs its t ∧
  ∀ H', (∀ b o, b ≠ x → H b = some o → H' b = some o) → Tm C H' x gs its → Q .non H'
def spText (C : Addr) : Sp := fun vs H Q _ => ∃ (a : Addr) (gs : List Nat) (its : List (List Nat)), vs = [.ref a] ∧ Tm C H a gs its ∧ gs.length ≤ 1000 ∧ its.length ≤ 900 ∧ (∀ x ∈ its, x.length ≤ 900) ∧ ∀ H', Same H H' → Q (tx (rTx gs its)) H'
theorem row_len {gs : List Nat} (hg : Good gs) {its : List (List Nat)} (h : Row gs its) : ∀ x ∈ its, x.length ≤ 4 := by
  intro x hx
  have := hg.hi
  rcases h x hx with ⟨c, _, rfl⟩ | p
  · show 1 ≤ 4; omega
  · rw [p.length_eq]; exact hg.hi
theorem row_mem {gs : List Nat} {its : List (List Nat)} (h : Row gs its) : ∀ x ∈ its, ∀ c ∈ x, c ∈ gs := by
  intro x hx c hc
  rcases h x hx with ⟨d, hd, rfl⟩ | p
  · rw [List.mem_singleton.mp hc]; exact hd
  · exact p.mem_iff.mp hc
theorem rTx_len {gs : List Nat} (hg : Good gs) {its : List (List Nat)} (h : Row gs its) (hl : its.length ≤ 160) : (rTx gs its).length ≤ 1000 := by
  unfold rTx
  split
  · show 1 ≤ 1000; omega
  · have := flat_len (f := iTx gs) (m := 6) (its := its) fun x hx => Nat.le_trans iTx_len (by have := row_len hg h x hx; omega)
    omega
end Own

namespace Own
open PySem PySem.Spec PyProof.Rows L2 SX
/-! ### promises of the laws' own helpers -/
def spItems : Sp := fun vs H Q _ => ∃ (r : Addr) (gs : List Nat) (m : Int), vs = [.ref r, tx gs, .int m] ∧ Good gs ∧ 0 ≤ m ∧ m ≤ 100 ∧ Rng H r ∧
  ∀ H' p its, Go r H H' → H p = none → H' p = some (.lst (its.map tx)) → Row gs its → (its.length : Int) ≤ m → Q (.ref p) H'
def spLx (K : PySem.W.Frag) : Sp := fun vs H Q _ => ∃ (gs : List Nat) (a : Addr) (its : List (List Nat)), vs = [tx gs, .ref a] ∧ Good gs ∧ Row gs its ∧ its.length ≤ 100 ∧ SqL K H a (its.map tx) ∧ ∀ H', Same H H' → Q (tx (rTx gs its)) H'
theorem Tm.ext {C : Addr} {H H' : Hp} {a : Addr} {gs : List Nat} {its : List (List Nat)} (t : Tm C H a gs its) (e : LamX.ExtN H H') : Tm C H' a gs its := by
  obtain ⟨dx, p, h1, h4⟩ := t
  exact ⟨dx, p, e _ _ h1 (fun ps h => by cases h), e _ _ h4 (fun ps h => by cases h)⟩
theorem row_pos {gs : List Nat} (hg : Good gs) {its : List (List Nat)} (h : Row gs its) : ∀ x ∈ its, 0 < x.length := by
  intro x hx
  rcases h x hx with ⟨c, _, rfl⟩ | p
  · show 0 < 1; omega
  · rw [p.length_eq]; have := hg.lo; omega
end Own

namespace Own
open PySem PySem.Spec PyProof.Rows L2 SX
/-! ### x[::-1] of texts and of tuples -/
end Own

namespace Own
open PySem PySem.Spec PyProof.Rows L2 SX
/-! ### a == b, a != b of two instances of one class, by its own __eq__, either answer -/
section
variable {P : Program} {w : World} {A : Around} {E : Value → Shared → Prop} {s : Shared} {K : PySem.W.Frag} {x y C f : Addr} {ox oy : Obj} {dx dy : Option Obj}
end
section
variable {X : Cx} {CX : CXT} {n : Nat} {C f : Addr} {fd : FuncData} {ps : List Str} {sp : Sp} {E : XK}
end
end Own

namespace Own
open PySem PySem.Spec PyProof.Rows L2 SX
/-! ### templates compared, mirrored; promises -/
/-- isinstance facts of the class -/
structure InsC (K : PySem.W.Frag) (C : Addr) : Prop where
  cls : Cls K C
  ha : PySem.W.findIn K (.ref C) "__class__" = some (some (.builtin "object.__class__"))
  hn : PySem.W.specialIn K (.builtin "object.__class__") "__get__" = some (some (.builtin "getset_descriptor.__get__"))
  tk : PySem.W.takesIn K (.builtin "object.__class__") = some true
  ob : PySem.W.mroIn K C (.type "object") = some true
  kit : PySem.W.kitOne K (.ref C) (.ref C) = some true
theorem InsC.ty {K : PySem.W.Frag} {C a dx : Addr} {H : Hp} {fs : List (Str × V)} (i : InsC K C) (e : H a = some (.ins C dx fs)) : TyX K H (.ref a) (.ref C) := .base (.ins e i.cls i.ha i.hn i.tk i.ob)
end Own

namespace Own
open PySem PySem.Spec PyProof.Rows L2 SX
/-! ### templates put into one another -/
theorem none_of {H H' : Hp} (s : Same H H') {p : Addr} (h : H' p = none) : H p = none := by
  cases e : H p with
  | none => rfl
  | some o => rw [s _ _ e] at h; cases h
/-- a template stays where a list is written -/
theorem Tm.put {C : Addr} {H : Hp} {a D : Addr} {gs : List Nat} {its : List (List Nat)} {xs ys : List V} (t : Tm C H a gs its) (hD : H D = some (.lst xs)) : Tm C (upd H D (.lst ys)) a gs its := by
  obtain ⟨dx, p, h1, h4⟩ := t
  exact ⟨dx, p, by rw [upd_ne (ne_of h1 hD fun e => by cases e)]; exact h1, by rw [upd_ne (ne_of h4 hD fun e => by cases e)]; exact h4⟩
/-! ### promises -/
end Own

namespace Own
open PySem PySem.Spec PyProof.Rows L2 SX
/-! ### a == v, a + b by an own class -/
section
variable {X : Cx} {CX : CXT} {n : Nat} {C f : Addr} {fd : FuncData} {ps : List Str} {sp : Sp} {E : XK}
end
/-! ### lists cut -/
/-! ### promises -/
end Own

namespace Own
open PySem PySem.Spec PyProof.Rows L2 SX
/-! ### len(o), str(o), repr(o) by an own class -/
section
variable {X : Cx} {CX : CXT} {n : Nat} {C f : Addr} {fd : FuncData} {ps : List Str} {sp : Sp} {E : XK}
/-- a method of the class that a built-in asks for -/
structure DunOf (K : PySem.W.Frag) (C : Addr) (m : Str) (f : Addr) : Prop where
  at_ : PySem.W.findIn K (.ref C) m = some (some (.ref f))
  fn : PySem.W.isFn K (.ref f) = true
end
/-! ### for i, x in enumerate(t), t a tuple -/
end Own

namespace Own
open PySem PySem.Spec PyProof.Rows L2 SX
/-! ### parts: (true, turn) for a blank, (false, text) for fixed letters side by side -/
abbrev Part := Bool × List Nat
def tp (l : List (List Nat)) : List Part := if l = [] then [] else [(false, l.flatten)]
/-! ### parts as they lie -/
def kd (b : Bool) : V := .str (Str.ofString (if b then "blank" else "text"))
inductive PsA (H : Hp) : List Addr → List Part → Prop
  | nil : PsA H [] []
  | cons {a : Addr} {p : Part} {as : List Addr} {ps : List Part} : H a = some (.tup [kd p.1, tx p.2]) → PsA H as ps → PsA H (a :: as) (p :: ps)
theorem PsA.same {H H' : Hp} (s : Same H H') {as : List Addr} {ps : List Part} (h : PsA H as ps) : PsA H' as ps := by
  induction h with
  | nil => exact .nil
  | cons h _ ih => exact .cons (s _ _ h) ih
theorem PsA.put {H : Hp} {D : Addr} {xs ys : List V} (hD : H D = some (.lst xs)) {as : List Addr} {ps : List Part} (h : PsA H as ps) : PsA (upd H D (.lst ys)) as ps := by
  induction h with
  | nil => exact .nil
  | cons h _ ih => exact .cons (by rw [upd_ne (ne_of h hD fun e => by cases e)]; exact h) ih
theorem PsA.app {H : Hp} {as bs : List Addr} {ps qs : List Part} (h : PsA H as ps) (h' : PsA H bs qs) : PsA H (as ++ bs) (ps ++ qs) := by
  induction h with
  | nil => exact h'
  | cons h _ ih => exact .cons h ih
theorem PsA.len {H : Hp} {as : List Addr} {ps : List Part} (h : PsA H as ps) : as.length = ps.length := by
  induction h with
  | nil => rfl
  | cons _ _ ih => rw [List.length_cons, List.length_cons, ih]
theorem PsA.one {H : Hp} {a : Addr} {p : Part} (h : H a = some (.tup [kd p.1, tx p.2])) : PsA H [a] [p] := .cons h .nil
theorem PsA.get {H : Hp} {as : List Addr} {ps : List Part} (h : PsA H as ps) : ∀ (i : Nat) (a : Addr) (p : Part), as[i]? = some a → ps[i]? = some p → H a = some (.tup [kd p.1, tx p.2]) := by
  induction h with
  | nil => intro i a p h; simp at h
  | cons h _ ih =>
    intro i a p ha hp
    cases i with
    | zero => cases ha; cases hp; exact h
    | succ i => exact ih i a p ha hp
/-- the last one apart -/
theorem PsA.last {H : Hp} {as : List Addr} {F : List Part} {p : Part} (h : PsA H as (F ++ [p])) : ∃ bs a, as = bs ++ [a] ∧ PsA H bs F ∧ H a = some (.tup [kd p.1, tx p.2]) := by
  induction F generalizing as with
  | nil =>
    cases h with
    | cons h r =>
      cases r
      exact ⟨[], _, rfl, .nil, h⟩
  | cons q F ih =>
    cases h with
    | cons h r =>
      obtain ⟨bs, a, rfl, h1, h2⟩ := ih r
      exact ⟨_ :: bs, a, rfl, .cons h h1, h2⟩
/-- a list of parts at l -/
def PsL (H : Hp) (l : Addr) (ps : List Part) : Prop := ∃ as, H l = some (.lst (as.map V.ref)) ∧ PsA H as ps
theorem PsL.same {H H' : Hp} {l : Addr} {ps : List Part} (h : PsL H l ps) (s : Same H H') : PsL H' l ps := let ⟨as, h1, h2⟩ := h; ⟨as, s _ _ h1, h2.same s⟩
/-! ### parts as data -/
theorem lay_str {c : List Nat} (h : ∀ k ∈ c, k < 128) : PyData.canLay0 (.str (S c)) = true := by
  have := lay_tx [c] (fun x hx k hk => by rw [List.mem_singleton.mp hx] at hk; exact h k hk)
  show ((c.toArray).all (fun k => decide (k < 1114112))) = true
  rw [List.all_toArray, List.all_eq_true]
  intro k hk
  have := h k hk
  exact decide_eq_true (show k < 1114112 by omega)
/-! ### promises -/
end Own

namespace Own
open PySem PySem.Spec PyProof.Rows L2 SX
/-! ### texts of templates that cannot be read -/
/-- neither a letter nor a whole blank begins here -/
def Stuck (gs rest : List Nat) : Prop := rest ≠ [] ∧ (∀ c r, rest = c :: r → c ∉ gs) ∧ (∀ post, rest ≠ [123, 125] ++ post) ∧ ∀ x post, rest = [123] ++ x ++ [125] ++ post → ¬ x.Perm gs
/-- what begins at a place -/
theorem begins (gs rest : List Nat) : rest = [] ∨ (∃ c r, rest = c :: r ∧ c ∈ gs) ∨ ((∀ c r, rest = c :: r → c ∉ gs) ∧ ∃ post, rest = [123, 125] ++ post) ∨
    ((∀ c r, rest = c :: r → c ∉ gs) ∧ ∃ x post, rest = [123] ++ x ++ [125] ++ post ∧ x.Perm gs) ∨ Stuck gs rest := by
  by_cases h0 : rest = []
  · exact .inl h0
  by_cases h1 : ∃ c r, rest = c :: r ∧ c ∈ gs
  · exact .inr (.inl h1)
  have n1 : ∀ c r, rest = c :: r → c ∉ gs := fun c r e h => h1 ⟨c, r, e, h⟩
  by_cases h2 : ∃ post, rest = [123, 125] ++ post
  · exact .inr (.inr (.inl ⟨n1, h2⟩))
  by_cases h3 : ∃ x post, rest = [123] ++ x ++ [125] ++ post ∧ x.Perm gs
  · exact .inr (.inr (.inr (.inl ⟨n1, h3⟩)))
  exact .inr (.inr (.inr (.inr ⟨h0, n1, fun post e => h2 ⟨post, e⟩, fun x post e p => h3 ⟨x, post, e, p⟩⟩)))
/-! ### promises -/
theorem both {t1 t3 : TE} {σ : L2.St} {H : Hp} {Q : VK} {b1 b3 : Bool} (h1 : ∀ k : VK, k (.bl b1) H → t1 σ H k)
    (h3 : ∀ k : VK, (∀ H', Same H H' → k (.bl b3) H') → t3 σ H k) (q : ∀ H', Same H H' → Q (.bl (b1 && b3)) H') : tAndV t1 t3 σ H Q := by
  refine h1 _ ⟨b1, rfl, ?_⟩
  cases b1 with
  | false => exact iteF (q _ (Same.refl _))
  | true => exact iteT (h3 _ fun H' s => q _ s)
theorem pe_or {X : Cx} {e : Expr} {t1 t2 : TE} (h1 : PE X e t1) (h2 : PE X e t2) : PE X e (fun σ H Q => t1 σ H Q ∨ t2 σ H Q) :=
  ⟨fun pins s σ H Q I h => h.elim (h1.run pins s σ H Q I) (h2.run pins s σ H Q I)⟩
end Own

namespace Own
open PySem PySem.Spec PyProof.Rows L2 SX PySem.StrLaws
/-! ### t.replace("{" + letters + "}", "{}") of a text that can be read is the text in its shortest form -/
end Own

namespace Own
open PySem PySem.Spec PyProof.Rows L2 SX
end Own

namespace Own
open PySem PySem.Spec PyProof.Rows L2 SX
/-! ### promises with wider limits -/
/-! ### one text, one template -/
/-! ### chains -/
/-- templates in a row, as they lie -/
def Tms (C : Addr) (H : Hp) (gs : List Nat) (ms : List Addr) (l : List (List (List Nat))) : Prop := ms.length = l.length ∧ ∀ (i : Nat) (m : Addr) (its : List (List Nat)), ms[i]? = some m → l[i]? = some its → Tm C H m gs its
theorem Tms.same {C : Addr} {H H' : Hp} {gs : List Nat} {ms : List Addr} {l : List (List (List Nat))} (t : Tms C H gs ms l) (s : Same H H') : Tms C H' gs ms l := ⟨t.1, fun i m its h1 h2 => (t.2 i m its h1 h2).same s⟩
theorem Tms.drop {C : Addr} {H : Hp} {gs : List Nat} {ms : List Addr} {l : List (List (List Nat))} (t : Tms C H gs ms l) (s : Nat) : Tms C H gs (ms.drop s) (l.drop s) := by
  refine ⟨by rw [List.length_drop, List.length_drop, t.1], fun i m its h1 h2 => ?_⟩
  rw [List.getElem?_drop] at h1 h2
  exact t.2 _ m its h1 h2
theorem Tms.at {C : Addr} {H : Hp} {gs : List Nat} {ms : List Addr} {l : List (List (List Nat))} (t : Tms C H gs ms l) {i : Nat} {m : Addr} (h : ms[i]? = some m) : ∃ its, l[i]? = some its ∧ Tm C H m gs its := by
  have hi := (List.getElem?_eq_some_iff.mp h).1
  rw [t.1] at hi
  exact ⟨_, List.getElem?_eq_getElem hi, t.2 i m _ h (List.getElem?_eq_getElem hi)⟩
/-! ### promises of chains -/
/-! ### a class held by a name, made -/
/-! ### a dict comprehension over what is walked -/
theorem dc_it {J : It} {n : Nat} {G : Hp → Prop} {Y : Nat → Hp → V → Hp → Prop} {g : TG} {tt : TT} {tk tv : TE} {vs : List Nat} {σ : L2.St} {H1 : Hp} {D : Addr} {Qd : Hp → Prop} (w : Walk J n G Y) (Pv : Nat → Hp → Prop)
    (h0 : Pv 0 (upd H1 D (.dK []))) (hG : ∀ i H, i ≤ n → Pv i H → G H)
    (turn : ∀ i x H H', i < n → Pv i H → Y i H x H' → g x (wipe σ vs) H' fun σ2 H2 => wipe σ2 vs = wipe σ vs ∧ tt σ2 H2 fun b H3 =>
      if b = true then tk σ2 H3 fun y H4 => tv σ2 H4 fun z H5 => ∃ kvs k, y = kV k ∧ H5 D = some (.dK kvs) ∧ kvs.length < sizeLine ∧ Pv (i + 1) (upd H5 D (.dK (putK kvs k z))) else Pv (i + 1) H3)
    (last : ∀ H, Pv n H → Qd H) :
    ∃ W : Nat → Nat → Hp → Prop, (∃ m, W 0 m (upd H1 D (.dK []))) ∧ ∀ i m H, W i m H →
      (J.stop i H ∧ Qd H) ∨ (J.go i H ∧ ∃ Nx : Hp → Prop, (∀ H', Nx H' → ∃ m', m' < m ∧ W (i + 1) m' H') ∧ ∀ x H', J.yld i H x H' → g x (wipe σ vs) H' fun σ2 H2 => wipe σ2 vs = wipe σ vs ∧ tt σ2 H2 fun b H3 =>
        if b = true then tk σ2 H3 fun y H4 => tv σ2 H4 fun z H5 => ∃ kvs k, y = kV k ∧ H5 D = some (.dK kvs) ∧ kvs.length < sizeLine ∧ Nx (upd H5 D (.dK (putK kvs k z))) else Nx H3) := by
  refine ⟨fun i m H => i + m = n ∧ Pv i H, ⟨n, Nat.zero_add _, h0⟩, ?_⟩
  rintro i m H ⟨em, p⟩
  have le : i ≤ n := by omega
  have stands := hG i H le p
  cases m with
  | zero =>
    have : i = n := em
    subst this
    exact .inl ⟨w.stops H stands, last H p⟩
  | succ m =>
    have lt : i < n := by omega
    refine .inr ⟨w.goes i H lt stands, Pv (i + 1), fun H' p' => ⟨m, Nat.lt_succ_self _, by omega, p'⟩, ?_⟩
    intro x H' y
    exact turn i x H H' lt p (w.yields i H x H' lt stands y)
end Own

namespace Own
open PySem PySem.Spec PyProof.Rows L2 SX
/-! ### fills one after the other -/
/-! ### lists of items, as they lie beside the drawer -/
def Lsts (H : Hp) (r : Addr) (qs : List Addr) (l : List (List (List Nat))) : Prop := qs.length = l.length ∧ ∀ (i : Nat) (q : Addr) (its : List (List Nat)), qs[i]? = some q → l[i]? = some its → q ≠ r ∧ H q = some (.lst (its.map tx))
theorem Lsts.same {H H' : Hp} {r : Addr} {qs : List Addr} {l : List (List (List Nat))} (h : Lsts H r qs l) (s : Same H H') : Lsts H' r qs l := ⟨h.1, fun i q its h1 h2 => ⟨(h.2 i q its h1 h2).1, s _ _ (h.2 i q its h1 h2).2⟩⟩
theorem Lsts.go {H H' : Hp} {r : Addr} {qs : List Addr} {l : List (List (List Nat))} (h : Lsts H r qs l) (g : Go r H H') : Lsts H' r qs l :=
  ⟨h.1, fun i q its h1 h2 => ⟨(h.2 i q its h1 h2).1, g.1 _ _ (h.2 i q its h1 h2).1 (h.2 i q its h1 h2).2⟩⟩
theorem Lsts.at {H : Hp} {r : Addr} {qs : List Addr} {l : List (List (List Nat))} (h : Lsts H r qs l) {i : Nat} {q : Addr} (e : qs[i]? = some q) : ∃ its, l[i]? = some its ∧ q ≠ r ∧ H q = some (.lst (its.map tx)) := by
  have hi := (List.getElem?_eq_some_iff.mp e).1
  rw [h.1] at hi
  exact ⟨_, List.getElem?_eq_getElem hi, h.2 i q _ e (List.getElem?_eq_getElem hi)⟩
theorem Lsts.put {H : Hp} {r D : Addr} {o : HO} {qs : List Addr} {l : List (List (List Nat))} (h : Lsts H r qs l) (n : ∀ q ∈ qs, q ≠ D) : Lsts (upd H D o) r qs l :=
  ⟨h.1, fun i q its h1 h2 => ⟨(h.2 i q its h1 h2).1, by rw [upd_ne (n q (List.mem_of_getElem? h1))]; exact (h.2 i q its h1 h2).2⟩⟩
theorem Lsts.snoc {H : Hp} {r q : Addr} {qs : List Addr} {l : List (List (List Nat))} {its : List (List Nat)} (h : Lsts H r qs l) (n : q ≠ r) (e : H q = some (.lst (its.map tx))) : Lsts H r (qs ++ [q]) (l ++ [its]) := by
  refine ⟨by rw [List.length_append, List.length_append, h.1]; rfl, fun i q' jts h1 h2 => ?_⟩
  by_cases hi : i < qs.length
  · rw [List.getElem?_append_left hi] at h1
    rw [List.getElem?_append_left (by rw [← h.1]; exact hi)] at h2
    exact h.2 i q' jts h1 h2
  · rw [List.getElem?_append_right (by omega)] at h1
    rw [List.getElem?_append_right (by rw [← h.1]; omega), ← h.1] at h2
    have h3 := (List.getElem?_eq_some_iff.mp h1).1
    have h4 : i - qs.length = 0 := by rw [List.length_singleton] at h3; omega
    rw [h4] at h1 h2
    cases h1
    cases h2
    exact ⟨n, e⟩
/-- what is told of drawn rows -/
structure Rows (gs : List Nat) (b n : Nat) (l : List (List (List Nat))) : Prop where
  row : ∀ its ∈ l, Row gs its
  wid : ∀ its ∈ l, its.length ≤ b
  len : l.length ≤ n
theorem Rows.sub {gs : List Nat} {b n : Nat} {l m : List (List (List Nat))} (h : Rows gs b n l) (hm : ∀ x ∈ m, x ∈ l) (hn : m.length ≤ n) : Rows gs b n m := ⟨fun x hx => h.row x (hm x hx), fun x hx => h.wid x (hm x hx), hn⟩
end Own

namespace Own
open PySem PySem.Spec PyProof.Rows L2 SX
/-! ### text * number -/
theorem fold_app : ∀ (n : Nat) (a : List Nat) (acc : Array Nat), ((List.replicate n a.toArray).foldl (· ++ ·) acc) = acc ++ (List.replicate n a).flatten.toArray
  | 0, a, acc => by simp
  | n + 1, a, acc => by
    rw [List.replicate_succ, List.foldl_cons, fold_app n a, List.replicate_succ, List.flatten_cons]
    simp
def rRepS : R2 := fun x y H Q => ∃ (cs : List Nat) (n : Nat), x = tx cs ∧ y = .int (n : Int) ∧ cs.length ≤ 1000 ∧ n ≤ 1000 ∧ Q (tx (List.replicate n cs).flatten) H
theorem op_repS {X : Cx} : OpR X (binaryOp .Mult) rRepS := by
  rintro pins s σ H _ _ v u Q I rx ry ⟨cs, n, rfl, rfl, hc, hn, q⟩
  obtain ⟨t, rfl⟩ := rx
  obtain ⟨t', rfl⟩ := ry
  have len : (S cs).length = cs.length := S_len cs
  have small : cs.length * n ≤ 1000 * 1000 := Nat.mul_le_mul hc hn
  refine PySem.P.mul_str ?_ (fun h1 _ => ?_) (fun _ _ => ?_) ?_
  · rw [decide_eq_false (by omega), decide_eq_false (by omega)]
    rfl
  · rw [len]
    have h2 : (1000 : Int) ≤ (2 ^ 63 - 1) / (n : Int) := by
      rw [Int.le_ediv_iff_mul_le (by omega)]
      omega
    omega
  · rw [len]
    show decide (_ > _) = false
    rw [decide_eq_false]
    show ¬ _ > 16777216
    rw [Int.toNat_natCast]
    omega
  · by_cases h1 : (n : Int) < 1
    · rw [if_pos h1]
      have h0 : n = 0 := by omega
      subst h0
      exact ⟨by decide, tx [], H, I.tok _, ⟨_, rfl⟩, q⟩
    · rw [if_neg h1]
      by_cases h2 : ((n : Int) == 1 || (S cs).length == 0) = true
      · rw [if_pos h2]
        have e : (List.replicate n cs).flatten = cs := by
          rcases (Bool.or_eq_true _ _).mp h2 with h | h
          · have : n = 1 := by have := eq_of_beq h; omega
            subst this
            simp
          · have : cs = [] := by
              have := eq_of_beq h
              rw [len] at this
              exact List.length_eq_zero_iff.mp this
            subst this
            simp
        rw [e] at q
        exact ⟨tx cs, H, I, ⟨_, rfl⟩, q⟩
      · rw [if_neg h2]
        have e : (⟨(List.replicate (n : Int).toNat (S cs).cps).foldl (· ++ ·) #[]⟩ : Str) = S (List.replicate n cs).flatten := by
          show (⟨(List.replicate n cs.toArray).foldl (· ++ ·) #[]⟩ : Str) = _
          rw [fold_app]
          simp
        rw [e]
        refine ⟨?_, tx _, H, I.tok _, ⟨_, rfl⟩, q⟩
        show (S _).length ≤ _
        rw [S_len, List.length_flatten, List.map_replicate, List.sum_replicate_nat, Nat.mul_comm]
        show _ ≤ 16777216
        omega
/-! ### text[::k] -/
end Own

namespace Own
open PySem PySem.Spec PyProof.Rows L2 SX
/-! ### the question -/
def qL (gs : List Nat) (M : Nat) : List Nat := (gs.map fun c => List.replicate M c).flatten
theorem qL_cons (c : Nat) (r : List Nat) (M : Nat) : qL (c :: r) M = List.replicate M c ++ qL r M := rfl
theorem qL_len (M : Nat) : ∀ gs : List Nat, (qL gs M).length = M * gs.length
  | [] => rfl
  | c :: r => by
    rw [qL_cons, List.length_append, List.length_replicate, qL_len M r, List.length_cons, Nat.mul_add, Nat.mul_one, Nat.add_comm]
theorem qL_mem {M : Nat} {c : Nat} : ∀ {gs : List Nat}, c ∈ qL gs M → c ∈ gs := by
  intro gs h
  obtain ⟨l, hl, hc⟩ := List.mem_flatten.mp h
  obtain ⟨d, hd, rfl⟩ := List.mem_map.mp hl
  rw [(List.mem_replicate.mp hc).2]
  exact hd
/-- a text read: blanks first -/
inductive Reads (gs : List Nat) (M : Nat) : List Nat → List (List Nat) → Prop
  | nil : Reads gs M [] []
  | blank {t w : List Nat} {r : List (List Nat)} : t.Perm gs → Reads gs M w r → Reads gs M (qL t M ++ w) (t :: r)
  | letter {c : Nat} {w : List Nat} {r : List (List Nat)} : c ∈ gs → (∀ t : List Nat, t.Perm gs → ¬ (qL t M <+: c :: w)) → Reads gs M w r → Reads gs M (c :: w) ([c] :: r)
theorem Reads.row {gs : List Nat} {M : Nat} {w : List Nat} {r : List (List Nat)} (h : Reads gs M w r) : Row gs r := by
  induction h with
  | nil => exact fun x hx => nomatch hx
  | blank pt _ ih =>
    intro x hx
    rcases List.mem_cons.mp hx with rfl | h
    · exact .inr pt
    · exact ih x h
  | letter hc _ _ ih =>
    intro x hx
    rcases List.mem_cons.mp hx with rfl | h
    · exact .inl ⟨_, hc, rfl⟩
    · exact ih x h
theorem Reads.len {gs : List Nat} {M : Nat} (hg : Good gs) (hM : 0 < M) {w : List Nat} {r : List (List Nat)} (h : Reads gs M w r) : r.length ≤ w.length := by
  induction h with
  | nil => exact Nat.le_refl _
  | blank pt _ ih =>
    rw [List.length_cons, List.length_append, qL_len, pt.length_eq]
    have : 1 * 2 ≤ M * gs.length := Nat.mul_le_mul hM hg.lo
    omega
  | letter _ _ _ ih =>
    rw [List.length_cons, List.length_cons]
    omega
theorem Reads.mem {gs : List Nat} {M : Nat} {w : List Nat} {r : List (List Nat)} (h : Reads gs M w r) : ∀ c ∈ w, c ∈ gs := by
  induction h with
  | nil => exact fun c hc => nomatch hc
  | blank pt _ ih =>
    intro c hc
    rcases List.mem_append.mp hc with h | h
    · exact pt.mem_iff.mp (qL_mem h)
    · exact ih c h
  | letter hc _ _ ih =>
    intro c h
    rcases List.mem_cons.mp h with rfl | h
    · exact hc
    · exact ih c h
/-! ### promises -/
end Own

namespace Own
open PySem PySem.Spec PyProof.Rows L2 SX LamX
/-! ### a lambda that lies somewhere -/
structure LF where
  params : Arguments
  body : Expr
  scope : Scope
  q : Str
  cl : List (Str × Addr)
  c : Addr
  d : Option (Addr × V)
def LF.dV (F : LF) : Value := match F.d with
  | none => .none
  | some (t, _) => .ref t
abbrev LF.fd (F : LF) (pm ctv : Value) : FuncData :=
  { name := "<lambda>", qualname := F.q, params := F.params, body := .expr F.body, scope := F.scope, globals := mainGlobals, closure := F.cl, defaults := F.dV, kwdefaults := .none, doc := .none, pyModule := pm, annotations := none, code := .ref F.c, closureTuple := ctv, builtins := builtinsNs }
def LamO (f : Addr) (F : LF) : HO := .ext fun h => ∃ (od : Option Addr) (sl : Array (Option Value)) (pm ctv : Value), h.get? f = some (⟨.type "function", od, .func (F.fd pm ctv), sl⟩ : Obj)
/-- the lambda F lies at f, its code object and its default beside it -/
structure LamAt (H : Hp) (f : Addr) (F : LF) : Prop where
  fn : H f = some (LamO f F)
  code : H F.c = some (CodeO F.c F.q)
  dflt : ∀ t v, F.d = some (t, v) → H t = some (.tup [v])
theorem LamAt.same {H H' : Hp} {f : Addr} {F : LF} (l : LamAt H f F) (s : Same H H') : LamAt H' f F := ⟨s _ _ l.fn, s _ _ l.code, fun t v e => s _ _ (l.dflt t v e)⟩
theorem LamAt.ext {H H' : Hp} {f : Addr} {F : LF} (l : LamAt H f F) (e : ExtN H H') : LamAt H' f F :=
  ⟨e _ _ l.fn (fun ps z => by unfold LamO at z; cases z), e _ _ l.code codeO_ne, fun t v h => e _ _ (l.dflt t v h) (fun ps z => by cases z)⟩
theorem LamAt.go {H H' : Hp} {f r : Addr} {F : LF} (l : LamAt H f F) (g : Go r H H') : LamAt H' f F := by
  obtain ⟨xs, er⟩ := g.rng0.ex
  exact ⟨g.1 _ _ (ne_of l.fn er fun z => by unfold LamO at z; cases z) l.fn, g.1 _ _ (ne_of l.code er fun z => by unfold CodeO at z; cases z) l.code, fun t v h => g.1 _ _ (ne_of (l.dflt t v h) er fun z => by cases z) (l.dflt t v h)⟩
/-! ### its making -/
section
variable {M : Model} {A : Around} {E : Value → Shared → Prop} {s : Shared}
end
section
variable {X : Cx} {pins : List (Addr × Obj)} {σ : L2.St} {H : Hp} {s : Shared}
end
/-! ### its call -/
section
variable {X : Cx} {pins : List (Addr × Obj)} {σ : L2.St} {H HZ : Hp} {s s1 : Shared}
end
end Own

namespace Own
open PySem PySem.Spec PyProof.Rows L2 SX LamX
section
variable {X : Cx}
end
end Own

namespace Own
open PySem PySem.Spec PyProof.Rows L2 SX LamX
/-! ### templates of a text -/
end Own

namespace Own
open PySem PySem.Spec PyProof.Rows L2 SX
/-! ### the fields of errors, for all codes -/
section
variable {K : PySem.W.Frag} {mg : Str → Option Value} {x : Str} {C d : Addr} {H : Hp}
end
/-! ### a text that stands in another one from a place on -/
theorem sw3 {xs ys : List Nat} {i : Nat} (hi : i ≤ xs.length) : Txt.startswith3 (S xs) (S ys) (i : Int) = decide (ys <+: xs.drop i) := by
  unfold Txt.startswith3
  have e : PySem.fromIndex (S xs).length (i : Int) = i := by
    unfold PySem.fromIndex
    rw [if_neg (by omega)]
    omega
  rw [e, PySem.StrLaws.subAt_eq, S_len, S_len]
  show (decide (i + ys.length ≤ xs.length) && ((xs.drop i).take ys.length == ys)) = _
  by_cases h : ys <+: xs.drop i
  · have hl := h.length_le
    rw [List.length_drop] at hl
    rw [decide_eq_true h, decide_eq_true (by omega), ← List.prefix_iff_eq_take.mp h]
    simp
  · rw [decide_eq_false h]
    have : ((xs.drop i).take ys.length == ys) = false := by
      rw [beq_eq_false_iff_ne]
      exact fun z => h (List.prefix_iff_eq_take.mpr z.symm)
    rw [this, Bool.and_false]
/-! ### every text of the letters is read -/
/-! ### the turns that an exchange of two and the turning round of all make -/
/-! ### promises -/
end Own

namespace Own
open PySem PySem.Spec PyProof.Rows L2 SX
/-! ### wide bounds: lists of up to four million things -/
end Own

namespace Mch
/-! machines as rows: what the walk of a word is, the order of first occurrences, classes -/
def dl (rows : List (List Nat)) (r p : Nat) : Nat := (rows.getD r []).getD p 0
def wk (rows : List (List Nat)) : Nat → List Nat → Nat
  | r, [] => r
  | r, p :: w => wk rows (dl rows r p) w
structure Ok (d : Nat) (rows : List (List Nat)) : Prop where
  pos : 0 < rows.length
  row : ∀ x ∈ rows, x.length = d
  tg : ∀ x ∈ rows, ∀ t ∈ x, t < rows.length
theorem getD_lt {α : Type} {l : List α} {i : Nat} {d : α} (h : i < l.length) : l.getD i d = l[i] := by
  rw [List.getD_eq_getElem?_getD, List.getElem?_eq_getElem h]; rfl
theorem getD_ge {α : Type} {l : List α} {i : Nat} {d : α} (h : l.length ≤ i) : l.getD i d = d := by
  rw [List.getD_eq_getElem?_getD, List.getElem?_eq_none h]; rfl
theorem getD_map {α β : Type} {l : List α} {i : Nat} {d : α} {e : β} {f : α → β} (h : i < l.length) : (l.map f).getD i e = f (l.getD i d) := by
  rw [getD_lt (by simpa using h), getD_lt h, List.getElem_map]
theorem Ok.dl_lt {d : Nat} {rows : List (List Nat)} (o : Ok d rows) {r p : Nat} (h : r < rows.length) : dl rows r p < rows.length := by
  unfold dl
  rw [getD_lt h]
  by_cases hp : p < rows[r].length
  · rw [getD_lt hp]
    exact o.tg _ (List.getElem_mem h) _ (List.getElem_mem hp)
  · rw [getD_ge (by omega)]
    exact o.pos
theorem Ok.wk_lt {d : Nat} {rows : List (List Nat)} (o : Ok d rows) : ∀ {w : List Nat} {r : Nat}, r < rows.length → wk rows r w < rows.length
  | [], _, h => h
  | p :: w, r, h => Ok.wk_lt o (w := w) (o.dl_lt h)
theorem wk_app {rows : List (List Nat)} : ∀ {u v : List Nat} {r : Nat}, wk rows r (u ++ v) = wk rows (wk rows r u) v
  | [], _, _ => rfl
  | p :: u, v, r => wk_app (u := u) (v := v)
/-! ### first occurrences, in order -/
section
variable {α : Type} [DecidableEq α]
def nubA : List α → List α → List α
  | acc, [] => acc
  | acc, x :: l => nubA (if x ∈ acc then acc else acc ++ [x]) l
theorem nubA_pre : ∀ {l acc : List α}, ∃ r, nubA acc l = acc ++ r
  | [], acc => ⟨[], (List.append_nil _).symm⟩
  | x :: l, acc => by
    obtain ⟨r, hr⟩ := nubA_pre (l := l) (acc := if x ∈ acc then acc else acc ++ [x])
    unfold nubA
    rw [hr]
    split
    · exact ⟨r, rfl⟩
    · exact ⟨x :: r, by rw [List.append_assoc]; rfl⟩
theorem nubA_mem : ∀ {l acc : List α} {x : α}, x ∈ nubA acc l ↔ x ∈ acc ∨ x ∈ l
  | [], acc, x => by simp [nubA]
  | y :: l, acc, x => by
    unfold nubA
    rw [nubA_mem (l := l), List.mem_cons]
    split
    · rename_i h
      constructor
      · rintro (a | a)
        · exact .inl a
        · exact .inr (.inr a)
      · rintro (a | a | a)
        · exact .inl a
        · exact .inl (a ▸ h)
        · exact .inr a
    · rw [List.mem_append, List.mem_singleton, or_assoc]
theorem nubA_nodup : ∀ {l acc : List α}, acc.Nodup → (nubA acc l).Nodup
  | [], _, h => h
  | x :: l, acc, h => by
    unfold nubA
    refine nubA_nodup (l := l) ?_
    split
    · exact h
    · rename_i hx
      rw [List.nodup_append]
      exact ⟨h, by simp, fun a ha b hb => by rw [List.mem_singleton.mp hb]; exact fun e => hx (e ▸ ha)⟩
/-- for each the number of its kind, in the order of first occurrences -/
def numb (l : List α) : List Nat := l.map fun x => (nubA [] l).idxOf x
theorem idxOf_lt {l : List α} {x : α} (h : x ∈ l) : l.idxOf x < l.length := List.idxOf_lt_length_iff.mpr h
theorem idxOf_get {l : List α} {x : α} (h : x ∈ l) : l[l.idxOf x]? = some x := by
  rw [List.getElem?_eq_getElem (idxOf_lt h), List.getElem_idxOf]
theorem idxOf_of_get {l : List α} (nd : l.Nodup) {i : Nat} {x : α} (h : l[i]? = some x) : l.idxOf x = i := by
  obtain ⟨hi, e⟩ := List.getElem?_eq_some_iff.mp h
  rw [← e]
  exact List.Nodup.idxOf_getElem nd i hi
end
theorem nodup_len {l : List Nat} {n : Nat} (nd : l.Nodup) (h : ∀ x ∈ l, x < n) : l.length ≤ n := by
  induction n generalizing l with
  | zero => cases l with
    | nil => exact Nat.le_refl _
    | cons x l => exact absurd (h x (List.mem_cons_self ..)) (by omega)
  | succ n ih =>
    have h1 : (l.erase n).length ≤ n := ih (nd.erase n) fun x hx => by
      have h2 := h x (List.mem_of_mem_erase hx)
      have h3 : x ≠ n := fun e => by
        subst e
        exact (List.Nodup.not_mem_erase nd) hx
      omega
    have h4 := List.length_erase (a := n) (l := l)
    split at h4 <;> omega
end Mch

namespace Mch
/-! ### the rooms that texts lead to, the classes of rooms that are alike, the least machine -/
def rowOf (rows : List (List Nat)) (r : Nat) : List Nat := rows.getD r []
structure Reach (rows : List (List Nat)) (order : List Nat) : Prop where
  eq : order = nubA [0] (order.flatMap (rowOf rows))
  run : ∀ i, i < order.length → i < (nubA [0] ((order.take i).flatMap (rowOf rows))).length
def waysOf (rows : List (List Nat)) (order : List Nat) : List (List Nat) := order.map fun r => (rowOf rows r).map order.idxOf
section
variable {A : Type} (dA : A)
def toldOf (ans : List A) (order : List Nat) : List A := order.map fun r => ans.getD r dA
/-- classes of rooms: alike ones, and those that no text tells apart -/
structure Alike (d : Nat) (ways : List (List Nat)) (told : List A) (l : List Nat) : Prop where
  len : l.length = ways.length
  ans : ∀ p q, p < ways.length → q < ways.length → l.getD p 0 = l.getD q 0 → told.getD p dA = told.getD q dA
  tgt : ∀ p q, p < ways.length → q < ways.length → l.getD p 0 = l.getD q 0 → ∀ a, a < d → l.getD (dl ways p a) 0 = l.getD (dl ways q a) 0
  eqv : ∀ p q, p < ways.length → q < ways.length → (∀ w, (∀ a ∈ w, a < d) → told.getD (wk ways p w) dA = told.getD (wk ways q w) dA) → l.getD p 0 = l.getD q 0
def leastW (ways : List (List Nat)) (l : List Nat) : List (List Nat) := (nubA [] l).map fun x => (rowOf ways (l.idxOf x)).map fun t => (numb l).getD t 0
def leastT (told : List A) (l : List Nat) : List A := (nubA [] l).map fun x => told.getD (l.idxOf x) dA
def Least (d : Nat) (rows : List (List Nat)) (ans : List A) (W : List (List Nat)) (T : List A) : Prop :=
  ∃ order l, Reach rows order ∧ Alike dA d (waysOf rows order) (toldOf dA ans order) l ∧ W = leastW (waysOf rows order) l ∧ T = leastT dA (toldOf dA ans order) l
end
/-! ### what is known of the rooms reached -/
section
variable {d : Nat} {rows : List (List Nat)} {order : List Nat}
theorem Reach.nd (h : Reach rows order) : order.Nodup := by
  rw [h.eq]
  exact nubA_nodup (by simp)
theorem Reach.pre (h : Reach rows order) : ∃ r, order = 0 :: r := by
  obtain ⟨r, e⟩ := nubA_pre (l := order.flatMap (rowOf rows)) (acc := [0])
  exact ⟨r, h.eq.trans e⟩
theorem Reach.zero (h : Reach rows order) : order.idxOf 0 = 0 := by
  obtain ⟨r, e⟩ := h.pre
  rw [e]
  rfl
theorem Reach.closed (h : Reach rows order) {x t : Nat} (hx : x ∈ order) (ht : t ∈ rowOf rows x) : t ∈ order := by
  rw [h.eq, nubA_mem]
  exact .inr (List.mem_flatMap.mpr ⟨x, hx, ht⟩)
theorem rowOf_mem {rows : List (List Nat)} {r t : Nat} (h : t ∈ rowOf rows r) : r < rows.length ∧ rowOf rows r ∈ rows := by
  unfold rowOf at h ⊢
  by_cases hr : r < rows.length
  · rw [getD_lt hr]
    exact ⟨hr, List.getElem_mem hr⟩
  · rw [getD_ge (by omega)] at h
    cases h
theorem Reach.lt (o : Ok d rows) (h : Reach rows order) : ∀ x ∈ order, x < rows.length := by
  intro x hx
  rw [h.eq, nubA_mem] at hx
  rcases hx with e | e
  · rw [List.mem_singleton.mp e]; exact o.pos
  · obtain ⟨y, _, hy⟩ := List.mem_flatMap.mp e
    exact o.tg _ (rowOf_mem hy).2 _ hy
theorem Reach.len (o : Ok d rows) (h : Reach rows order) : order.length ≤ rows.length := nodup_len h.nd (h.lt o)
theorem rowOf_len (o : Ok d rows) {r : Nat} (h : r < rows.length) : (rowOf rows r).length = d := by
  unfold rowOf
  rw [getD_lt h]
  exact o.row _ (List.getElem_mem h)
theorem waysOf_len : (waysOf rows order).length = order.length := List.length_map ..
theorem waysOf_row {i : Nat} (h : i < order.length) : rowOf (waysOf rows order) i = (rowOf rows order[i]).map order.idxOf := by
  unfold waysOf
  show (List.map _ _).getD i [] = _
  rw [getD_map (d := 0) h, getD_lt h]
theorem waysOf_ok (o : Ok d rows) (h : Reach rows order) : Ok d (waysOf rows order) := by
  refine ⟨?_, ?_, ?_⟩
  · obtain ⟨r, e⟩ := h.pre
    rw [waysOf_len, e]
    exact Nat.succ_pos _
  · intro x hx
    obtain ⟨r, hr, e⟩ := List.mem_map.mp hx
    rw [← e, List.length_map]
    exact rowOf_len o (h.lt o r hr)
  · intro x hx t ht
    obtain ⟨r, hr, e⟩ := List.mem_map.mp hx
    rw [← e] at ht
    obtain ⟨u, hu, e2⟩ := List.mem_map.mp ht
    rw [waysOf_len, ← e2]
    exact idxOf_lt (h.closed hr hu)
theorem dl_eq {rows : List (List Nat)} {r p : Nat} : dl rows r p = (rowOf rows r).getD p 0 := rfl
/-- a step among the reached rooms -/
theorem reach_dl (o : Ok d rows) (h : Reach rows order) {i a : Nat} (hi : i < order.length) (ha : a < d) :
    dl (waysOf rows order) i a < order.length ∧ order.getD (dl (waysOf rows order) i a) 0 = dl rows (order.getD i 0) a := by
  have hx : order[i] ∈ order := List.getElem_mem hi
  have hl := rowOf_len o (h.lt o _ hx)
  have e : dl (waysOf rows order) i a = order.idxOf ((rowOf rows order[i]).getD a 0) := by
    rw [dl_eq, waysOf_row hi, getD_map (d := 0) (by omega)]
  have hm : (rowOf rows order[i]).getD a 0 ∈ order := by
    rw [getD_lt (by omega)]
    exact h.closed hx (List.getElem_mem _)
  rw [e]
  refine ⟨idxOf_lt hm, ?_⟩
  rw [getD_lt hi, getD_lt (idxOf_lt hm), List.getElem_idxOf]
  rfl
theorem reach_wk (o : Ok d rows) (h : Reach rows order) : ∀ {w : List Nat} {i : Nat}, i < order.length → (∀ a ∈ w, a < d) →
    wk (waysOf rows order) i w < order.length ∧ order.getD (wk (waysOf rows order) i w) 0 = wk rows (order.getD i 0) w
  | [], i, hi, _ => ⟨hi, rfl⟩
  | a :: w, i, hi, hw => by
    obtain ⟨h1, h2⟩ := reach_dl o h hi (hw a (List.mem_cons_self ..))
    have q := reach_wk o h (w := w) h1 fun b hb => hw b (List.mem_cons_of_mem _ hb)
    rw [h2] at q
    exact q
theorem reach_wk0 (o : Ok d rows) (h : Reach rows order) {w : List Nat} (hw : ∀ a ∈ w, a < d) :
    wk (waysOf rows order) 0 w < order.length ∧ order.getD (wk (waysOf rows order) 0 w) 0 = wk rows 0 w := by
  obtain ⟨r, e⟩ := h.pre
  have h0 : 0 < order.length := by rw [e]; exact Nat.succ_pos _
  have q := reach_wk o h (w := w) h0 hw
  have e0 : order.getD 0 0 = 0 := by rw [e]; rfl
  rw [e0] at q
  exact q
end
/-! ### the least machine's rows -/
section
variable {d : Nat} {ways : List (List Nat)} {l : List Nat}
theorem nub_mem {l : List Nat} {x : Nat} : x ∈ nubA [] l ↔ x ∈ l := by
  rw [nubA_mem]
  simp
theorem numb_at {l : List Nat} {i : Nat} (h : i < l.length) : (numb l).getD i 0 = (nubA [] l).idxOf (l.getD i 0) := by
  unfold numb
  rw [getD_map (d := 0) h]
theorem numb_lt {l : List Nat} {i : Nat} (h : i < l.length) : (numb l).getD i 0 < (nubA [] l).length := by
  rw [numb_at h]
  exact idxOf_lt (nub_mem.mpr (by rw [getD_lt h]; exact List.getElem_mem h))
theorem leastW_len : (leastW ways l).length = (nubA [] l).length := List.length_map ..
theorem leastW_row {c : Nat} (h : c < (nubA [] l).length) : rowOf (leastW ways l) c = (rowOf ways (l.idxOf (nubA [] l)[c])).map fun t => (numb l).getD t 0 := by
  unfold leastW
  show (List.map _ _).getD c [] = _
  rw [getD_map (d := 0) h, getD_lt h]
/-- the first room of a class -/
theorem first_lt {x : Nat} (h : x ∈ nubA [] l) : l.idxOf x < l.length ∧ l.getD (l.idxOf x) 0 = x := by
  have h' := nub_mem.mp h
  exact ⟨idxOf_lt h', by rw [getD_lt (idxOf_lt h'), List.getElem_idxOf]⟩
theorem nub_le_len : (nubA [] l).length ≤ l.length := by
  have aux : ∀ (m acc : List Nat), (nubA acc m).length ≤ acc.length + m.length := by
    intro m
    induction m with
    | nil => intro acc; exact Nat.le_refl _
    | cons x m ih =>
      intro acc
      unfold nubA
      refine Nat.le_trans (ih _) ?_
      rw [List.length_cons]
      split
      · omega
      · rw [List.length_append]
        show acc.length + 1 + _ ≤ _
        omega
  have := aux l []
  simpa using this
section
variable {A : Type} {dA : A} {told : List A}
theorem least_ok (o : Ok d ways) (a : Alike dA d ways told l) : Ok d (leastW ways l) := by
  have hl := a.len
  refine ⟨?_, ?_, ?_⟩
  · rw [leastW_len]
    have : l.getD 0 0 ∈ nubA [] l := nub_mem.mpr (by rw [getD_lt (by rw [hl]; exact o.pos)]; exact List.getElem_mem _)
    exact List.length_pos_of_mem this
  · intro x hx
    obtain ⟨y, hy, e⟩ := List.mem_map.mp hx
    rw [← e, List.length_map]
    exact rowOf_len o (by rw [← hl]; exact (first_lt hy).1)
  · intro x hx t ht
    obtain ⟨y, hy, e⟩ := List.mem_map.mp hx
    rw [← e] at ht
    obtain ⟨u, hu, e2⟩ := List.mem_map.mp ht
    rw [leastW_len, ← e2]
    refine numb_lt ?_
    rw [hl]
    exact o.tg _ (rowOf_mem hu).2 _ hu
/-- a step between classes -/
theorem least_dl (o : Ok d ways) (a : Alike dA d ways told l) {r p : Nat} (hr : r < ways.length) (hp : p < d) :
    dl (leastW ways l) ((numb l).getD r 0) p = (numb l).getD (dl ways r p) 0 := by
  have hl := a.len
  have hc : (numb l).getD r 0 < (nubA [] l).length := numb_lt (by omega)
  have hx : (nubA [] l)[(numb l).getD r 0] = l.getD r 0 := by
    have e := numb_at (l := l) (i := r) (by omega)
    have hm : l.getD r 0 ∈ nubA [] l := nub_mem.mpr (by rw [getD_lt (by omega)]; exact List.getElem_mem _)
    have q := idxOf_get hm
    rw [← e] at q
    exact (List.getElem?_eq_some_iff.mp q).2
  rw [dl_eq, leastW_row hc, hx]
  have hm : l.getD r 0 ∈ nubA [] l := nub_mem.mpr (by rw [getD_lt (by omega)]; exact List.getElem_mem _)
  obtain ⟨f1, f2⟩ := first_lt hm
  have hw : (rowOf ways (l.idxOf (l.getD r 0))).length = d := rowOf_len o (by omega)
  rw [getD_map (d := 0) (by omega)]
  show (numb l).getD (dl ways (l.idxOf (l.getD r 0)) p) 0 = _
  have ht := a.tgt _ r (by omega) hr f2 p hp
  have h1 := o.dl_lt (r := l.idxOf (l.getD r 0)) (p := p) (by omega)
  have h2 := o.dl_lt (p := p) hr
  rw [numb_at (by omega), numb_at (by omega), ht]
theorem least_wk (o : Ok d ways) (a : Alike dA d ways told l) : ∀ {w : List Nat} {r : Nat}, r < ways.length → (∀ b ∈ w, b < d) →
    wk (leastW ways l) ((numb l).getD r 0) w = (numb l).getD (wk ways r w) 0
  | [], _, _, _ => rfl
  | p :: w, r, hr, hw => by
    show wk _ (dl (leastW ways l) ((numb l).getD r 0) p) w = _
    rw [least_dl o a hr (hw p (List.mem_cons_self ..))]
    exact least_wk o a (w := w) (o.dl_lt hr) fun b hb => hw b (List.mem_cons_of_mem _ hb)
theorem least_told (o : Ok d ways) (a : Alike dA d ways told l) {r : Nat} (hr : r < ways.length) : (leastT dA told l).getD ((numb l).getD r 0) dA = told.getD r dA := by
  have hl := a.len
  have hc : (numb l).getD r 0 < (nubA [] l).length := numb_lt (by omega)
  have hm : l.getD r 0 ∈ nubA [] l := nub_mem.mpr (by rw [getD_lt (by omega)]; exact List.getElem_mem _)
  have hx : (nubA [] l).getD ((numb l).getD r 0) 0 = l.getD r 0 := by
    have e := numb_at (l := l) (i := r) (by omega)
    have q := idxOf_get hm
    rw [← e] at q
    obtain ⟨h1, h2⟩ := List.getElem?_eq_some_iff.mp q
    rw [getD_lt h1, h2]
  unfold leastT
  rw [getD_map (d := 0) hc, hx]
  obtain ⟨f1, f2⟩ := first_lt hm
  exact a.ans _ r (by omega) hr f2
theorem numb_zero (h : 0 < l.length) : (numb l).getD 0 0 = 0 := by
  rw [numb_at h]
  cases l with
  | nil => exact absurd h (by simp)
  | cons x l =>
    obtain ⟨r, hr⟩ := nubA_pre (l := l) (acc := [x])
    have e : nubA [] (x :: l) = nubA [x] l := by simp [nubA]
    rw [e, hr]
    simp
/-- the least machine answers every text as the rooms do -/
theorem Least.same {rows : List (List Nat)} {ans : List A} {W : List (List Nat)} {T : List A} (o : Ok d rows) (h : Least dA d rows ans W T) {w : List Nat} (hw : ∀ a ∈ w, a < d) :
    T.getD (wk W 0 w) dA = ans.getD (wk rows 0 w) dA := by
  obtain ⟨order, l, hr, ha, rfl, rfl⟩ := h
  have o2 := waysOf_ok o hr
  have e0 := numb_zero (l := l) (by rw [ha.len]; exact o2.pos)
  have q := least_wk o2 ha (w := w) o2.pos hw
  rw [e0] at q
  obtain ⟨h1, h2⟩ := reach_wk0 o hr hw
  rw [q, least_told o2 ha (by rw [waysOf_len]; exact h1)]
  unfold toldOf
  rw [getD_map (d := 0) h1, h2]
theorem Least.ok {rows : List (List Nat)} {ans : List A} {W : List (List Nat)} {T : List A} (o : Ok d rows) (h : Least dA d rows ans W T) : Ok d W ∧ T.length = W.length ∧ W.length ≤ rows.length := by
  obtain ⟨order, l, hr, ha, rfl, rfl⟩ := h
  have o2 := waysOf_ok o hr
  refine ⟨least_ok o2 ha, ?_, ?_⟩
  · rw [leastW_len]
    exact List.length_map ..
  · rw [leastW_len]
    refine Nat.le_trans nub_le_len ?_
    rw [ha.len, waysOf_len]
    exact hr.len o
theorem Least.mem {rows : List (List Nat)} {ans : List A} {W : List (List Nat)} {T : List A} (o : Ok d rows) (hn : ans.length = rows.length) (h : Least dA d rows ans W T) : ∀ x ∈ T, x ∈ ans := by
  obtain ⟨order, l, hr, ha, rfl, rfl⟩ := h
  intro x hx
  obtain ⟨y, hy, e⟩ := List.mem_map.mp hx
  have h1 := (first_lt hy).1
  rw [ha.len, waysOf_len] at h1
  rw [← e]
  unfold toldOf
  rw [getD_map (d := 0) h1, getD_lt h1, getD_lt (by rw [hn]; exact hr.lt o _ (List.getElem_mem h1))]
  exact List.getElem_mem _
end
end
end Mch

namespace Mch
/-! ### pairs in runs -/
/-- pairs in order by their keys, none twice -/
structure Pairs (ps : List (Nat × Nat)) : Prop where
  ord : ps.Pairwise fun x y => x.1 ≤ y.1
  nd : ps.Nodup
theorem Pairs.tail {x : Nat × Nat} {ps : List (Nat × Nat)} (h : Pairs (x :: ps)) : Pairs ps := ⟨(List.pairwise_cons.mp h.ord).2, (List.nodup_cons.mp h.nd).2⟩
/-! ### the same members, the same size -/
theorem len_of_mem {a b : List Nat} (ha : a.Nodup) (h : ∀ x ∈ a, x ∈ b) : a.length ≤ b.length := by
  induction a generalizing b with
  | nil => exact Nat.zero_le _
  | cons x a ih =>
    have h1 := List.nodup_cons.mp ha
    have h2 : a.length ≤ (b.erase x).length := ih h1.2 fun y hy => by
      refine (List.mem_erase_of_ne ?_).mpr (h y (List.mem_cons_of_mem _ hy))
      exact fun e => h1.1 (e ▸ hy)
    have h3 := List.length_erase (a := x) (l := b)
    rw [if_pos (h x (List.mem_cons_self ..))] at h3
    have h4 := List.length_pos_of_mem (h x (List.mem_cons_self ..))
    rw [List.length_cons]
    omega
theorem all_of_len {a b : List Nat} (ha : a.Nodup) (h : ∀ x ∈ a, x ∈ b) (hl : b.length ≤ a.length) : ∀ x ∈ b, x ∈ a := by
  intro x hx
  by_cases q : x ∈ a
  · exact q
  · have h1 := len_of_mem (a := x :: a) (List.nodup_cons.mpr ⟨q, ha⟩) (b := b) fun y hy => by
      rcases List.mem_cons.mp hy with e | e
      · rw [e]; exact hx
      · exact h y e
    rw [List.length_cons] at h1
    omega
/-! ### stores -/
def setAll (cl : List Nat) : List Nat → Nat → List Nat
  | [], _ => cl
  | r :: rs, c => setAll (cl.set r c) rs c
theorem setAll_len {cl : List Nat} {c : Nat} : ∀ {rs : List Nat}, (setAll cl rs c).length = cl.length := by
  intro rs
  induction rs generalizing cl with
  | nil => rfl
  | cons r rs ih =>
    unfold setAll
    rw [ih, List.length_set]
theorem setAll_get {c r : Nat} : ∀ {rs cl : List Nat}, r < cl.length → (setAll cl rs c).getD r 0 = if r ∈ rs then c else cl.getD r 0 := by
  intro rs
  induction rs with
  | nil => intro cl h; simp [setAll]
  | cons x rs ih =>
    intro cl h
    unfold setAll
    rw [ih (by simpa using h)]
    by_cases q : r ∈ rs
    · rw [if_pos q, if_pos (List.mem_cons_of_mem _ q)]
    · rw [if_neg q]
      by_cases e : x = r
      · subst e
        rw [if_pos (List.mem_cons_self ..), getD_lt (by simpa using h), List.getElem_set_self]
      · rw [if_neg (by rw [List.mem_cons]; exact fun z => z.elim (fun z => e z.symm) q), getD_lt (by simpa using h), getD_lt h, List.getElem_set_ne e]
end Mch

namespace Mch
/-! ### classes that are split until no letter tells rooms of one class apart -/
def cnt (R : Nat) (cl : List Nat) (c : Nat) : Nat := ((List.range R).filter fun r => decide (cl.getD r 0 = c)).length
section
variable {A : Type} (dA : A) (d R : Nat) (ways : List (List Nat)) (told : List A)
def Eqv (p q : Nat) : Prop := ∀ w, (∀ a ∈ w, a < d) → told.getD (wk ways p w) dA = told.getD (wk ways q w) dA
structure HInv (cl : List Nat) (ms : List (List Nat)) (sz : List Nat) : Prop where
  clen : cl.length = R
  slen : sz.length = ms.length
  clt : ∀ r, r < R → cl.getD r 0 < ms.length
  mnd : ∀ c, c < ms.length → (ms.getD c []).Nodup
  mlt : ∀ c, c < ms.length → ∀ r ∈ ms.getD c [], r < R
  mem : ∀ r, r < R → r ∈ ms.getD (cl.getD r 0) []
  siz : ∀ c, c < ms.length → sz.getD c 0 = cnt R cl c
  pos : ∀ c, c < ms.length → 0 < sz.getD c 0
  ans : ∀ p q, p < R → q < R → cl.getD p 0 = cl.getD q 0 → told.getD p dA = told.getD q dA
  eqv : ∀ p q, p < R → q < R → Eqv dA d ways told p q → cl.getD p 0 = cl.getD q 0
/-- rooms of a class that a letter parts: some waiting class tells them, or it is still to come -/
def Sep (cl wt : List Nat) (rem : Nat → Nat → Prop) (Y : Nat → Prop) : Prop := ∀ p q a, p < R → q < R → a < d → cl.getD p 0 = cl.getD q 0 → cl.getD (dl ways p a) 0 ≠ cl.getD (dl ways q a) 0 →
  (∃ c ∈ wt, ¬ (cl.getD (dl ways p a) 0 = c ↔ cl.getD (dl ways q a) 0 = c)) ∨ (rem a (cl.getD p 0) ∧ ¬ (Y (dl ways p a) ↔ Y (dl ways q a)))
end
section
variable {A : Type} {dA : A} {d R : Nat} {ways : List (List Nat)} {told : List A} {cl : List Nat} {ms : List (List Nat)} {sz wt : List Nat}
theorem cnt_mem {c r : Nat} : r ∈ (List.range R).filter (fun r => decide (cl.getD r 0 = c)) ↔ r < R ∧ cl.getD r 0 = c := by
  rw [List.mem_filter, decide_eq_true_iff, List.mem_range]
theorem cnt_nd {c : Nat} : ((List.range R).filter (fun r => decide (cl.getD r 0 = c))).Nodup := List.nodup_range.filter _
theorem HInv.all (I : HInv dA d R ways told cl ms sz) {c : Nat} (hc : c < ms.length) {hit : List Nat} (hnd : hit.Nodup) (hin : ∀ r ∈ hit, r < R ∧ cl.getD r 0 = c) (hl : hit.length = sz.getD c 0) :
    ∀ r, r < R → cl.getD r 0 = c → r ∈ hit := by
  intro r h1 h2
  refine all_of_len hnd (b := (List.range R).filter fun r => decide (cl.getD r 0 = c)) (fun x hx => cnt_mem.mpr (hin x hx)) ?_ r (cnt_mem.mpr ⟨h1, h2⟩)
  rw [hl, I.siz c hc]
  exact Nat.le_refl _
/-- how a class is parted: the rooms that go, the lists behind it -/
structure Part (c : Nat) (hit small : List Nat) (ms1 : List (List Nat)) : Prop where
  nd : small.Nodup
  inn : ∀ r ∈ small, r < R ∧ cl.getD r 0 = c
  ne : small ≠ []
  lt : small.length < sz.getD c 0
  iff : ∀ p q, p < R → q < R → cl.getD p 0 = c → cl.getD q 0 = c → ((p ∈ small ↔ q ∈ small) ↔ (p ∈ hit ↔ q ∈ hit))
  len : ms1.length = ms.length
  els : ∀ x, x ≠ c → ms1.getD x [] = ms.getD x []
  mnd : (ms1.getD c []).Nodup
  mlt : ∀ r ∈ ms1.getD c [], r < R
  mem : ∀ r, r < R → cl.getD r 0 = c → r ∉ small → r ∈ ms1.getD c []
theorem getD_snoc_lt {α : Type} {l : List α} {x dx : α} {i : Nat} (h : i < l.length) : (l ++ [x]).getD i dx = l.getD i dx := by
  rw [getD_lt (by rw [List.length_append]; omega), getD_lt h, List.getElem_append_left h]
theorem getD_snoc_eq {α : Type} {l : List α} {x dx : α} : (l ++ [x]).getD l.length dx = x := by
  rw [getD_lt (by rw [List.length_append]; show _ < _ + 1; omega), List.getElem_append_right (Nat.le_refl _)]
  simp
/-- the classes behind the split -/
theorem Part.cls {c : Nat} {hit small : List Nat} {ms1 : List (List Nat)} (I : HInv dA d R ways told cl ms sz) (P : Part (R := R) (cl := cl) (ms := ms) (sz := sz) c hit small ms1) {r : Nat} (h : r < R) :
    (setAll cl small ms.length).getD r 0 = if r ∈ small then ms.length else cl.getD r 0 := setAll_get (by rw [I.clen]; exact h)
theorem Part.same {c : Nat} {hit small : List Nat} {ms1 : List (List Nat)} (I : HInv dA d R ways told cl ms sz) (P : Part (R := R) (cl := cl) (ms := ms) (sz := sz) c hit small ms1) {p q : Nat} (hp : p < R) (hq : q < R) :
    (setAll cl small ms.length).getD p 0 = (setAll cl small ms.length).getD q 0 ↔ cl.getD p 0 = cl.getD q 0 ∧ (cl.getD p 0 = c → (p ∈ hit ↔ q ∈ hit)) := by
  rw [P.cls I hp, P.cls I hq]
  have a1 := I.clt p hp
  have a2 := I.clt q hq
  by_cases h1 : p ∈ small <;> by_cases h2 : q ∈ small
  · rw [if_pos h1, if_pos h2]
    have e1 := (P.inn p h1).2
    have e2 := (P.inn q h2).2
    refine ⟨fun _ => ⟨by rw [e1, e2], fun _ => (P.iff p q hp hq e1 e2).mp ⟨fun _ => h2, fun _ => h1⟩⟩, fun _ => rfl⟩
  · rw [if_pos h1, if_neg h2]
    have e1 := (P.inn p h1).2
    refine ⟨fun z => by omega, fun z => ?_⟩
    have e2 : cl.getD q 0 = c := by rw [← z.1]; exact e1
    exact absurd (((P.iff p q hp hq e1 e2).mpr (z.2 e1)).mp h1) h2
  · rw [if_neg h1, if_pos h2]
    have e2 := (P.inn q h2).2
    refine ⟨fun z => by omega, fun z => ?_⟩
    have e1 : cl.getD p 0 = c := by rw [z.1]; exact e2
    exact absurd (((P.iff p q hp hq e1 e2).mpr (z.2 e1)).mpr h2) h1
  · rw [if_neg h1, if_neg h2]
    refine ⟨fun z => ⟨z, fun e1 => (P.iff p q hp hq e1 (by rw [← z]; exact e1)).mp ⟨fun y => absurd y h1, fun y => absurd y h2⟩⟩, fun z => z.1⟩
theorem HInv.split (I : HInv dA d R ways told cl ms sz) {c : Nat} (hc : c < ms.length) {hit small : List Nat} {ms1 : List (List Nat)} (P : Part (R := R) (cl := cl) (ms := ms) (sz := sz) c hit small ms1)
    (sat : ∀ p q, p < R → q < R → cl.getD p 0 = c → cl.getD q 0 = c → Eqv dA d ways told p q → (p ∈ hit ↔ q ∈ hit)) :
    HInv dA d R ways told (setAll cl small ms.length) (ms1 ++ [small]) (sz.set c (sz.getD c 0 - small.length) ++ [small.length]) := by
  have hl : (ms1 ++ [small]).length = ms.length + 1 := by rw [List.length_append, P.len]; rfl
  have hcs : c < sz.length := by rw [I.slen]; exact hc
  have cnts : ∀ x, x < ms.length + 1 → cnt R (setAll cl small ms.length) x = if x = ms.length then small.length else if x = c then sz.getD c 0 - small.length else cnt R cl x := by
    intro x hx
    have ec := I.siz c hc
    by_cases e1 : x = ms.length
    · rw [if_pos e1]
      refine Nat.le_antisymm ?_ ?_
      · refine len_of_mem cnt_nd fun r hr => ?_
        obtain ⟨q1, q2⟩ := cnt_mem.mp hr
        rw [P.cls I q1] at q2
        by_cases q : r ∈ small
        · exact q
        · rw [if_neg q] at q2
          have := I.clt r q1
          omega
      · refine len_of_mem P.nd fun r hr => cnt_mem.mpr ⟨(P.inn r hr).1, ?_⟩
        rw [P.cls I (P.inn r hr).1, if_pos hr, e1]
    · rw [if_neg e1]
      by_cases e2 : x = c
      · rw [if_pos e2, ec]
        have hs : small.length + cnt R (setAll cl small ms.length) x = cnt R cl c := by
          refine Nat.le_antisymm ?_ ?_
          · unfold cnt
            rw [← List.length_append]
            refine len_of_mem (List.nodup_append.mpr ⟨P.nd, cnt_nd, fun a ha b hb => ?_⟩) fun r hr => ?_
            · intro eab
              obtain ⟨q1, q2⟩ := cnt_mem.mp hb
              rw [P.cls I q1, ← eab, if_pos ha] at q2
              omega
            · rcases List.mem_append.mp hr with z | z
              · exact cnt_mem.mpr (P.inn r z)
              · obtain ⟨q1, q2⟩ := cnt_mem.mp z
                rw [P.cls I q1] at q2
                by_cases q : r ∈ small
                · rw [if_pos q] at q2; omega
                · rw [if_neg q] at q2
                  exact cnt_mem.mpr ⟨q1, by rw [q2, e2]⟩
          · unfold cnt
            rw [← List.length_append]
            refine len_of_mem cnt_nd fun r hr => ?_
            obtain ⟨q1, q2⟩ := cnt_mem.mp hr
            by_cases q : r ∈ small
            · exact List.mem_append_left _ q
            · refine List.mem_append_right _ (cnt_mem.mpr ⟨q1, ?_⟩)
              rw [P.cls I q1, if_neg q, q2, e2]
        omega
      · rw [if_neg e2]
        unfold cnt
        congr 1
        refine List.filter_congr fun r hr => ?_
        have q1 := List.mem_range.mp hr
        rw [P.cls I q1]
        by_cases q : r ∈ small
        · rw [if_pos q, (P.inn r q).2]
          rw [decide_eq_false (fun z => e1 z.symm), decide_eq_false (fun z => e2 z.symm)]
        · rw [if_neg q]
  have ge : ∀ x, x < ms.length → (ms1 ++ [small]).getD x [] = ms1.getD x [] := fun x hx => getD_snoc_lt (by rw [P.len]; exact hx)
  have gn : (ms1 ++ [small]).getD ms.length [] = small := by rw [← P.len]; exact getD_snoc_eq
  have zn : (sz.set c (sz.getD c 0 - small.length) ++ [small.length]).getD ms.length 0 = small.length := by
    have e : (sz.set c (sz.getD c 0 - small.length)).length = ms.length := by rw [List.length_set, I.slen]
    rw [← e]
    exact getD_snoc_eq
  have zc : (sz.set c (sz.getD c 0 - small.length) ++ [small.length]).getD c 0 = sz.getD c 0 - small.length := by
    rw [getD_snoc_lt (by rw [List.length_set]; exact hcs), getD_lt (by rw [List.length_set]; exact hcs), List.getElem_set_self]
  have ze : ∀ x, x < ms.length → x ≠ c → (sz.set c (sz.getD c 0 - small.length) ++ [small.length]).getD x 0 = sz.getD x 0 := fun x hx hn => by
    rw [getD_snoc_lt (by rw [List.length_set, I.slen]; exact hx), getD_lt (by rw [List.length_set, I.slen]; exact hx), List.getElem_set_ne (fun z => hn z.symm), getD_lt (l := sz) (i := x) (by rw [I.slen]; exact hx)]
  have cases3 : ∀ x, x < (ms1 ++ [small]).length → x = ms.length ∨ (x < ms.length ∧ x = c) ∨ (x < ms.length ∧ x ≠ c) := fun x hx => by
    rw [hl] at hx
    by_cases q : x = ms.length
    · exact .inl q
    · by_cases q2 : x = c
      · exact .inr (.inl ⟨by omega, q2⟩)
      · exact .inr (.inr ⟨by omega, q2⟩)
  refine ⟨by rw [setAll_len, I.clen], ?_, ?_, ?_, ?_, ?_, ?_, ?_, ?_, ?_⟩
  · rw [hl, List.length_append, List.length_set, I.slen]; rfl
  · intro r hr
    rw [P.cls I hr, hl]
    have := I.clt r hr
    split <;> omega
  · intro x hx
    rcases cases3 x hx with e | ⟨h1, e⟩ | ⟨h1, e⟩
    · rw [e, gn]; exact P.nd
    · rw [ge x h1, e]; exact P.mnd
    · rw [ge x h1, P.els x e]; exact I.mnd x h1
  · intro x hx
    rcases cases3 x hx with e | ⟨h1, e⟩ | ⟨h1, e⟩
    · rw [e, gn]; exact fun r hr => (P.inn r hr).1
    · rw [ge x h1, e]; exact P.mlt
    · rw [ge x h1, P.els x e]; exact I.mlt x h1
  · intro r hr
    rw [P.cls I hr]
    by_cases q : r ∈ small
    · rw [if_pos q, gn]; exact q
    · rw [if_neg q, ge _ (I.clt r hr)]
      by_cases e : cl.getD r 0 = c
      · rw [e]; exact P.mem r hr e q
      · rw [P.els _ e]; exact I.mem r hr
  · intro x hx
    rw [cnts x (by rw [hl] at hx; exact hx)]
    rcases cases3 x hx with e | ⟨h1, e⟩ | ⟨h1, e⟩
    · rw [if_pos e, e]; exact zn
    · rw [if_neg (by omega), if_pos e, e]; exact zc
    · rw [if_neg (by omega), if_neg e, ze x h1 e]; exact I.siz x h1
  · intro x hx
    rcases cases3 x hx with e | ⟨h1, e⟩ | ⟨h1, e⟩
    · rw [e, zn]; exact List.length_pos_iff.mpr P.ne
    · rw [e, zc]; have := P.lt; omega
    · rw [ze x h1 e]; exact I.pos x h1
  · intro p q hp hq e
    exact I.ans p q hp hq ((P.same I hp hq).mp e).1
  · intro p q hp hq e
    have e1 := I.eqv p q hp hq e
    exact (P.same I hp hq).mpr ⟨e1, fun h => sat p q hp hq h (by rw [← e1]; exact h) e⟩
/-- what waits tells all that is parted, also behind a split -/
theorem Sep.split {rem rem' : Nat → Nat → Prop} {Y : Nat → Prop} (o : Ok d ways) (hR : R = ways.length) (I : HInv dA d R ways told cl ms sz) (S : Sep d R ways cl wt rem Y) (hw : ∀ x ∈ wt, x < ms.length) {c k : Nat} (hc : c < ms.length) {hit small : List Nat} {ms1 : List (List Nat)}
    (P : Part (R := R) (cl := cl) (ms := ms) (sz := sz) c hit small ms1) (hY : ∀ r, r < R → cl.getD r 0 = c → (r ∈ hit ↔ Y (dl ways r k)))
    (hrem : ∀ a x, rem a x → (a = k ∧ x = c) ∨ (rem' a x ∧ (x = c → rem' a ms.length))) : Sep d R ways (setAll cl small ms.length) (wt ++ [ms.length]) rem' Y := by
  intro p q a hp hq ha e hne
  obtain ⟨e1, e2⟩ := (P.same I hp hq).mp e
  have hdp : dl ways p a < R := by rw [hR]; exact o.dl_lt (by omega)
  have hdq : dl ways q a < R := by rw [hR]; exact o.dl_lt (by omega)
  have new : ms.length ∈ wt ++ [ms.length] := List.mem_append_right _ (List.mem_cons_self ..)
  by_cases h : cl.getD (dl ways p a) 0 = cl.getD (dl ways q a) 0
  · -- the targets' class was split
    have hn : ¬ (cl.getD (dl ways p a) 0 = c → (dl ways p a ∈ hit ↔ dl ways q a ∈ hit)) := fun z => hne ((P.same I hdp hdq).mpr ⟨h, z⟩)
    refine .inl ⟨ms.length, new, fun z => hne ?_⟩
    rw [P.cls I hdp, P.cls I hdq] at z ⊢
    have l1 := I.clt _ hdp
    have l2 := I.clt _ hdq
    by_cases s1 : dl ways p a ∈ small <;> by_cases s2 : dl ways q a ∈ small
    · rw [if_pos s1, if_pos s2]
    · rw [if_pos s1, if_neg s2] at z; have := z.mp rfl; omega
    · rw [if_neg s1, if_pos s2] at z; have := z.mpr rfl; omega
    · rw [if_neg s1, if_neg s2]; exact h
  · rcases S p q a hp hq ha e1 h with ⟨x, hx, hs⟩ | ⟨hr, hs⟩
    · left
      have hxl := hw x hx
      by_cases ex : x = c
      · subst ex
        -- one of the two lies in the class that was split
        have key : ∀ u v, u < R → v < R → cl.getD u 0 = x → cl.getD v 0 ≠ x → ∃ y ∈ wt ++ [ms.length], ((setAll cl small ms.length).getD u 0 = y) ∧ (setAll cl small ms.length).getD v 0 ≠ y := by
          intro u v hu hv q1 q2
          have nv : v ∉ small := fun z => q2 (P.inn v z).2
          by_cases s1 : u ∈ small
          · refine ⟨ms.length, new, ?_, ?_⟩
            · rw [P.cls I hu, if_pos s1]
            · rw [P.cls I hv, if_neg nv]; have := I.clt v hv; omega
          · refine ⟨x, List.mem_append_left _ hx, ?_, ?_⟩
            · rw [P.cls I hu, if_neg s1]; exact q1
            · rw [P.cls I hv, if_neg nv]; exact q2
        by_cases q1 : cl.getD (dl ways p a) 0 = x
        · have q2 : cl.getD (dl ways q a) 0 ≠ x := fun z => h (q1.trans z.symm)
          obtain ⟨y, hy, y1, y2⟩ := key _ _ hdp hdq q1 q2
          exact ⟨y, hy, fun z => y2 (z.mp y1)⟩
        · have q2 : cl.getD (dl ways q a) 0 = x := by
            by_cases q2 : cl.getD (dl ways q a) 0 = x
            · exact q2
            · exact absurd ⟨fun z => absurd z q1, fun z => absurd z q2⟩ hs
          obtain ⟨y, hy, y1, y2⟩ := key _ _ hdq hdp q2 q1
          exact ⟨y, hy, fun z => y2 (z.mpr y1)⟩
      · have tr : ∀ u, u < R → ((setAll cl small ms.length).getD u 0 = x ↔ cl.getD u 0 = x) := fun u hu => by
          rw [P.cls I hu]
          by_cases s1 : u ∈ small
          · rw [if_pos s1, (P.inn u s1).2]
            exact ⟨fun z => by omega, fun z => absurd z.symm ex⟩
          · rw [if_neg s1]
        refine ⟨x, List.mem_append_left _ hx, fun z => hs ?_⟩
        rw [tr _ hdp, tr _ hdq] at z
        exact z
    · rcases hrem a _ hr with ⟨ea, ec⟩ | ⟨hr', hr''⟩
      · exfalso
        subst ea
        refine hs ?_
        rw [← hY p hp ec, ← hY q hq (by rw [← e1]; exact ec)]
        exact e2 ec
      · refine .inr ⟨?_, hs⟩
        rw [P.cls I hp]
        split
        · rename_i s1
          exact hr'' (P.inn p s1).2
        · exact hr'
/-- what is still to come may shrink where it parts nothing -/
theorem Sep.mono {rem rem' : Nat → Nat → Prop} {Y : Nat → Prop} (S : Sep d R ways cl wt rem Y)
    (h : ∀ p q a, p < R → q < R → cl.getD p 0 = cl.getD q 0 → rem a (cl.getD p 0) → ¬ (Y (dl ways p a) ↔ Y (dl ways q a)) → rem' a (cl.getD p 0)) : Sep d R ways cl wt rem' Y := by
  intro p q a hp hq ha e hne
  rcases S p q a hp hq ha e hne with z | ⟨z1, z2⟩
  · exact .inl z
  · exact .inr ⟨h p q a hp hq e z1 z2, z2⟩
/-- nothing waits: the classes are alike -/
theorem HInv.alike {Y : Nat → Prop} (hR : R = ways.length) (o : Ok d ways) (I : HInv dA d R ways told cl ms sz) (S : Sep d R ways cl [] (fun _ _ => False) Y) : Alike dA d ways told cl := by
  subst hR
  refine ⟨I.clen, I.ans, fun p q hp hq e a ha => ?_, I.eqv⟩
  by_cases h : cl.getD (dl ways p a) 0 = cl.getD (dl ways q a) 0
  · exact h
  · rcases S p q a hp hq ha e h with ⟨x, hx, _⟩ | ⟨z, _⟩
    · cases hx
    · exact z.elim
/-- rooms that no text parts have such targets -/
theorem Eqv.step {p q a : Nat} (e : Eqv dA d ways told p q) (ha : a < d) : Eqv dA d ways told (dl ways p a) (dl ways q a) := fun w hw => e (a :: w) fun b hb => by
  rcases List.mem_cons.mp hb with h | h
  · rw [h]; exact ha
  · exact hw b h
/-- not more classes than rooms -/
theorem HInv.few (I : HInv dA d R ways told cl ms sz) : ms.length ≤ R := by
  have h : ∀ c, c < ms.length → ∃ r, r < R ∧ cl.getD r 0 = c := fun c hc => by
    have h1 := I.pos c hc
    rw [I.siz c hc] at h1
    obtain ⟨r, hr⟩ := List.exists_mem_of_length_pos h1
    exact ⟨r, cnt_mem.mp hr⟩
  have h2 := len_of_mem (a := List.range ms.length) (b := (List.range R).map fun r => cl.getD r 0) List.nodup_range fun c hc => by
    obtain ⟨r, h3, h4⟩ := h c (List.mem_range.mp hc)
    exact List.mem_map.mpr ⟨r, List.mem_range.mpr h3, h4⟩
  rw [List.length_range, List.length_map, List.length_range] at h2
  exact h2
end
end Mch

namespace Own
open PySem PySem.Spec PyProof.Rows L2 SX RZ
/-! ### whole numbers as values -/
abbrev iv (n : Nat) : V := .int (n : Int)
abbrev ivs (l : List Nat) : List V := l.map iv
/-! ### subscripts of lists and tuples, the written part named -/
section
variable {X : Cx} {K : PySem.W.Frag}
theorem ixL (h : X.K = K) : IxR X (rIxL K) := by subst h; exact ix_list
theorem ixT (h : X.K = K) : IxR X (rIxT K) := by subst h; exact ix_tup
end
section
variable {K : PySem.W.Frag} {H : Hp} {a : Addr} {xs : List V} {i : Nat} {v : V} {Q : VK}
theorem sqL (h : H a = some (.lst xs)) : SqL K H a xs := .inl (.inl h)
theorem sqT (h : H a = some (.tup xs)) : SqT K H a xs := .inl (.inl h)
end
/-! ### comprehensions that only make -/
section
variable {J : It} {n : Nat} {G : Hp → Prop} {Y : Nat → Hp → V → Hp → Prop} {g : TG} {tt : TT} {te : TE} {vs : List Nat} {σ : L2.St} {H1 : Hp} {D : Addr} {Qd : Hp → Prop}
end
/-! ### a test that changes nothing -/
/-! ### set(list of whole numbers); k not in it -/
section
variable {X : Cx} {K : PySem.W.Frag}
end
/-! ### dicts by any kind of key -/
section
variable {P : Program} {w : World} {κ : Type} [DecidableEq κ]
end
section
variable {X : Cx} {κ : Type} [DecidableEq κ] {P : Program} {w : World} {knd : PySem.KeyKind P w κ} {enc : κ → V} {pins : List (Addr × Obj)} {σ : L2.St} {H : Hp} {s : Shared} {a : Addr} {kvs : List (κ × V)}
end
end Own

namespace Mch
/-! ### the classes at the beginning -/
section
variable {κ : Type} [DecidableEq κ] {dA : κ} {d : Nat} {ways : List (List Nat)} {ks : List κ}
end
end Mch

namespace Mch
section
variable {α β : Type} [DecidableEq α] [DecidableEq β] {f : α → β} (hf : ∀ a b, f a = f b → a = b)
include hf
end
end Mch

namespace Mch
/-! ### counts of texts -/
end Mch

namespace Mch
/-! ### rooms numbered by the texts that lead to them; machines that are least are equal if their answers are -/
/-- behind a room named for the first time all lesser ones are known; each room is named by an earlier one -/
structure Canon (d : Nat) (W : List (List Nat)) : Prop where
  low : ∀ c p y, c < W.length → p < d → y < dl W c p → y = 0 ∨ ∃ c' p', (c' < c ∨ (c' = c ∧ p' < p)) ∧ p' < d ∧ dl W c' p' = y
  src : ∀ j, 0 < j → j < W.length → ∃ i p, i < j ∧ p < d ∧ dl W i p = j
def Redu {A : Type} (dA : A) (d : Nat) (W : List (List Nat)) (T : List A) : Prop := ∀ r q, r < W.length → q < W.length → (∀ w, (∀ a ∈ w, a < d) → T.getD (wk W r w) dA = T.getD (wk W q w) dA) → r = q
section
variable {A : Type} {dA : A} {d : Nat} {W W' : List (List Nat)} {T T' : List A}
/-- rooms that one text leads to -/
def Rl (d : Nat) (W W' : List (List Nat)) (r s : Nat) : Prop := ∃ w, (∀ a ∈ w, a < d) ∧ wk W 0 w = r ∧ wk W' 0 w = s
theorem app_lt {d : Nat} {u v : List Nat} (h1 : ∀ a ∈ u, a < d) (h2 : ∀ a ∈ v, a < d) : ∀ a ∈ u ++ v, a < d := fun a ha => by
  rcases List.mem_append.mp ha with z | z
  · exact h1 a z
  · exact h2 a z
theorem Rl.fut {r s : Nat} (same : ∀ w, (∀ a ∈ w, a < d) → T.getD (wk W 0 w) dA = T'.getD (wk W' 0 w) dA) (h : Rl d W W' r s) : ∀ v, (∀ a ∈ v, a < d) → T.getD (wk W r v) dA = T'.getD (wk W' s v) dA := fun v hv => by
  obtain ⟨w, w1, w2, w3⟩ := h
  have := same (w ++ v) (app_lt w1 hv)
  rw [wk_app, wk_app, w2, w3] at this
  exact this
theorem Rl.fn {r s s' : Nat} (o' : Ok d W') (red' : Redu dA d W' T') (same : ∀ w, (∀ a ∈ w, a < d) → T.getD (wk W 0 w) dA = T'.getD (wk W' 0 w) dA) (h : Rl d W W' r s) (h' : Rl d W W' r s') : s = s' := by
  have f1 := h.fut same
  have f2 := h'.fut same
  obtain ⟨w, _, _, w3⟩ := h
  obtain ⟨w', _, _, w3'⟩ := h'
  exact red' s s' (by rw [← w3]; exact o'.wk_lt o'.pos) (by rw [← w3']; exact o'.wk_lt o'.pos) fun v hv => (f1 v hv).symm.trans (f2 v hv)
theorem Rl.inj {r r' s : Nat} (o : Ok d W) (red : Redu dA d W T) (same : ∀ w, (∀ a ∈ w, a < d) → T.getD (wk W 0 w) dA = T'.getD (wk W' 0 w) dA) (h : Rl d W W' r s) (h' : Rl d W W' r' s) : r = r' := by
  have f1 := h.fut same
  have f2 := h'.fut same
  obtain ⟨w, _, w2, _⟩ := h
  obtain ⟨w', _, w2', _⟩ := h'
  exact red r r' (by rw [← w2]; exact o.wk_lt o.pos) (by rw [← w2']; exact o.wk_lt o.pos) fun v hv => (f1 v hv).trans (f2 v hv).symm
theorem Rl.step {r s p : Nat} (h : Rl d W W' r s) (hp : p < d) : Rl d W W' (dl W r p) (dl W' s p) := by
  obtain ⟨w, w1, w2, w3⟩ := h
  refine ⟨w ++ [p], app_lt w1 (fun a ha => by rw [List.mem_singleton.mp ha]; exact hp), ?_, ?_⟩
  · rw [wk_app, w2]; rfl
  · rw [wk_app, w3]; rfl
/-- each room goes with the room of the same number -/
theorem Rl.self (o : Ok d W) (o' : Ok d W') (c : Canon d W) (c' : Canon d W') (red : Redu dA d W T) (red' : Redu dA d W' T') (same : ∀ w, (∀ a ∈ w, a < d) → T.getD (wk W 0 w) dA = T'.getD (wk W' 0 w) dA) :
    ∀ k, k < W.length → Rl d W W' k k := by
  intro k
  induction k using Nat.strongRecOn with
  | ind k ih =>
    intro hk
    by_cases h0 : k = 0
    · subst h0
      exact ⟨[], fun _ h => (List.not_mem_nil h).elim, rfl, rfl⟩
    · have aux : ∀ N i p, i * d + p = N → i < k → p < d → dl W i p = k → Rl d W W' k k := by
        intro N
        induction N using Nat.strongRecOn with
        | ind N ihN =>
          intro i p hN hi hp e
          have hs := (ih i hi (by omega)).step hp
          rw [e] at hs
          -- the room that goes with k
          by_cases hm : dl W' i p = k
          · rw [hm] at hs; exact hs
          · have il' : i < W'.length := by
              obtain ⟨w, _, _, w3⟩ := ih i hi (by omega)
              rw [← w3]
              exact o'.wk_lt o'.pos
            have ge : k < dl W' i p := by
              by_cases z : dl W' i p < k
              · have h2 := ih (dl W' i p) z (by omega)
                exact absurd (Rl.inj o red same h2 hs) (by omega)
              · omega
            rcases c'.low i p k il' hp ge with z | ⟨i', p', z1, z2, z3⟩
            · exact absurd z h0
            · have hi' : i' < k := by rcases z1 with z | z <;> omega
              have hs' := (ih i' hi' (by omega)).step z2
              rw [z3] at hs'
              have lt1 : i' * d + p' < i * d + p := by
                rcases z1 with z | ⟨z, z'⟩
                · have : (i' + 1) * d ≤ i * d := Nat.mul_le_mul_right d z
                  rw [Nat.add_mul, Nat.one_mul] at this
                  omega
                · rw [z]; omega
              by_cases u1 : dl W i' p' < k
              · have h2 := ih _ u1 (by omega)
                have := Rl.fn o' red' same h2 hs'
                omega
              · by_cases u2 : dl W i' p' = k
                · rw [u2] at hs'; exact hs'
                · rcases c.low i' p' k (by omega) z2 (by omega) with y | ⟨i2, p2, y1, y2, y3⟩
                  · exact absurd y h0
                  · have hi2 : i2 < k := by rcases y1 with z | z <;> omega
                    have lt2 : i2 * d + p2 < i' * d + p' := by
                      rcases y1 with z | ⟨z, z'⟩
                      · have : (i2 + 1) * d ≤ i' * d := Nat.mul_le_mul_right d z
                        rw [Nat.add_mul, Nat.one_mul] at this
                        omega
                      · rw [z]; omega
                    exact ihN (i2 * d + p2) (by omega) i2 p2 rfl hi2 y2 y3
      obtain ⟨i, p, h1, h2, h3⟩ := c.src k (by omega) hk
      exact aux _ i p rfl h1 h2 h3
end
/-! ### the least machine is so -/
section
variable {A : Type} {dA : A} {d : Nat} {ways : List (List Nat)} {told : List A} {l : List Nat}
end
section
variable {d : Nat} {rows : List (List Nat)} {order : List Nat}
end
end Mch

namespace Mch
/-! ### short texts tell machines apart (Moore) -/
section
variable {A : Type}
theorem countP_eq {α : Type} {p q : α → Bool} : ∀ {l : List α}, (∀ x ∈ l, p x = true → q x = true) → l.countP p ≤ l.countP q ∧ (l.countP q ≤ l.countP p → ∀ x ∈ l, q x = true → p x = true)
  | [], _ => ⟨Nat.le_refl _, fun _ x h => (List.not_mem_nil h).elim⟩
  | y :: l, h => by
    obtain ⟨i1, i2⟩ := countP_eq (l := l) fun x hx => h x (List.mem_cons_of_mem _ hx)
    have hy := h y (List.mem_cons_self ..)
    rw [List.countP_cons, List.countP_cons]
    cases hp : p y <;> cases hq : q y
    · refine ⟨by simpa using i1, fun e x hx qx => ?_⟩
      rcases List.mem_cons.mp hx with z | z
      · rw [z, hq] at qx; cases qx
      · exact i2 (by simpa using e) x z qx
    · refine ⟨by simp; omega, fun e => ?_⟩
      simp at e
      omega
    · rw [hp, hq] at hy
      exact absurd (hy rfl) (by decide)
    · refine ⟨by simpa using i1, fun e x hx qx => ?_⟩
      rcases List.mem_cons.mp hx with z | z
      · rw [z]; exact hp
      · exact i2 (by simpa using e) x z qx
def go (f : Nat → Nat → Nat) : Nat → List Nat → Nat
  | r, [] => r
  | r, p :: w => go f (f r p) w
/-- alike for texts of at most k letters -/
def Ek (d : Nat) (f : Nat → Nat → Nat) (out : Nat → A) (k r q : Nat) : Prop := ∀ w, w.length ≤ k → (∀ a ∈ w, a < d) → out (go f r w) = out (go f q w)
variable {d N : Nat} {f : Nat → Nat → Nat} {out : Nat → A}
theorem Ek.symm {k r q : Nat} (h : Ek d f out k r q) : Ek d f out k q r := fun w a b => (h w a b).symm
theorem Ek.trans {k r q s : Nat} (h : Ek d f out k r q) (h' : Ek d f out k q s) : Ek d f out k r s := fun w a b => (h w a b).trans (h' w a b)
theorem Ek.refl {k r : Nat} : Ek d f out k r r := fun _ _ _ => rfl
theorem Ek.down {k j r q : Nat} (h : Ek d f out k r q) (hj : j ≤ k) : Ek d f out j r q := fun w a b => h w (by omega) b
theorem Ek.step {k r q p : Nat} (h : Ek d f out (k + 1) r q) (hp : p < d) : Ek d f out k (f r p) (f q p) := fun w a b =>
  h (p :: w) (by rw [List.length_cons]; omega) fun x hx => by
    rcases List.mem_cons.mp hx with z | z
    · rw [z]; exact hp
    · exact b x z
/-- what does not grow finer once never does -/
theorem Ek.stable {k : Nat} (hf : ∀ r p, r < N → f r p < N) (st : ∀ r q, r < N → q < N → Ek d f out k r q → Ek d f out (k + 1) r q) :
    ∀ w r q, r < N → q < N → (∀ a ∈ w, a < d) → Ek d f out k r q → out (go f r w) = out (go f q w)
  | [], r, q, _, _, _, h => h [] (Nat.zero_le _) (fun _ h => (List.not_mem_nil h).elim)
  | p :: w, r, q, hr, hq, hw, h => Ek.stable hf st w (f r p) (f q p) (hf r p hr) (hf q p hq) (fun a ha => hw a (List.mem_cons_of_mem _ ha)) ((st r q hr hq h).step (hw p (List.mem_cons_self ..)))
open Classical in
noncomputable def isF (d : Nat) (f : Nat → Nat → Nat) (out : Nat → A) (k r : Nat) : Bool := decide (∀ q, q < r → ¬ Ek d f out k r q)
open Classical in
theorem isF_iff {k r : Nat} : isF d f out k r = true ↔ ∀ q, q < r → ¬ Ek d f out k r q := by
  unfold isF
  exact decide_eq_true_iff
theorem isF_up {k r : Nat} (h : isF d f out k r = true) : isF d f out (k + 1) r = true := isF_iff.mpr fun q hq e => isF_iff.mp h q hq (e.down (by omega))
theorem to_first {k : Nat} : ∀ r, ∃ r', r' ≤ r ∧ Ek d f out k r r' ∧ isF d f out k r' = true := by
  intro r
  induction r using Nat.strongRecOn with
  | ind r ih =>
    by_cases h : isF d f out k r = true
    · exact ⟨r, Nat.le_refl _, Ek.refl, h⟩
    · have : ∃ q, q < r ∧ Ek d f out k r q := by
        apply Classical.byContradiction
        intro z
        exact h (isF_iff.mpr fun q hq e => z ⟨q, hq, e⟩)
      obtain ⟨q, q1, q2⟩ := this
      obtain ⟨r', a, b, c⟩ := ih q q1
      exact ⟨r', by omega, q2.trans b, c⟩
theorem isF_eq {k r q : Nat} (hr : isF d f out k r = true) (hq : isF d f out k q = true) (h : Ek d f out k r q) : r = q := by
  by_cases z : q < r
  · exact absurd h (isF_iff.mp hr q z)
  · by_cases z' : r < q
    · exact absurd h.symm (isF_iff.mp hq r z')
    · omega
noncomputable def cls (N d : Nat) (f : Nat → Nat → Nat) (out : Nat → A) (k : Nat) : Nat := (List.range N).countP (isF d f out k)
theorem cls_step (k : Nat) : cls N d f out k < cls N d f out (k + 1) ∨ ∀ r q, r < N → q < N → Ek d f out k r q → Ek d f out (k + 1) r q := by
  by_cases h : cls N d f out k < cls N d f out (k + 1)
  · exact .inl h
  · right
    have hh := (countP_eq (l := List.range N) (p := isF d f out k) (q := isF d f out (k + 1)) fun x _ hx => isF_up hx).2 (by unfold cls at h; omega)
    intro r q hr hq e
    obtain ⟨r', r1, r2, r3⟩ := to_first (d := d) (f := f) (out := out) (k := k + 1) r
    obtain ⟨q', q1, q2, q3⟩ := to_first (d := d) (f := f) (out := out) (k := k + 1) q
    have fr := hh r' (List.mem_range.mpr (by omega)) r3
    have fq := hh q' (List.mem_range.mpr (by omega)) q3
    have := isF_eq fr fq (((r2.down (Nat.le_succ k)).symm.trans e).trans (q2.down (Nat.le_succ k)))
    rw [this] at r2
    exact r2.trans q2.symm
theorem cls_all {k : Nat} (h : N ≤ cls N d f out k) {r q : Nat} (hr : r < N) (hq : q < N) (e : Ek d f out k r q) : r = q := by
  have hh := (countP_eq (l := List.range N) (p := isF d f out k) (q := fun _ => true) fun _ _ _ => rfl).2 (by
    rw [List.countP_true, List.length_range]
    exact h)
  exact isF_eq (hh r (List.mem_range.mpr hr) rfl) (hh q (List.mem_range.mpr hq) rfl) e
theorem moore_aux (hf : ∀ r p, r < N → f r p < N) : ∀ k, (∀ w r q, r < N → q < N → (∀ a ∈ w, a < d) → Ek d f out k r q → out (go f r w) = out (go f q w)) ∨ k + 1 ≤ cls N d f out k ∨ N = 0
  | 0 => by
    by_cases z : N = 0
    · exact .inr (.inr z)
    · refine .inr (.inl ?_)
      unfold cls
      refine List.countP_pos_iff.mpr ⟨0, List.mem_range.mpr (by omega), isF_iff.mpr fun q hq => absurd hq (Nat.not_lt_zero _)⟩
  | k + 1 => by
    rcases moore_aux hf k with h | h | h
    · exact .inl fun w r q hr hq hw e => h w r q hr hq hw (e.down (Nat.le_succ k))
    · rcases cls_step (N := N) (d := d) (f := f) (out := out) k with s | s
      · exact .inr (.inl (by omega))
      · refine .inl fun w r q hr hq hw e => Ek.stable hf s w r q hr hq hw (e.down (Nat.le_succ k))
    · exact .inr (.inr h)
/-- rooms that texts of fewer letters than there are rooms do not tell apart, no text does -/
theorem moore (hf : ∀ r p, r < N → f r p < N) {k : Nat} (hk : N ≤ k + 1) : ∀ w r q, r < N → q < N → (∀ a ∈ w, a < d) → Ek d f out k r q → out (go f r w) = out (go f q w) := by
  intro w r q hr hq hw e
  rcases moore_aux (out := out) (d := d) hf k with h | h | h
  · exact h w r q hr hq hw e
  · rw [cls_all (by omega) hr hq e]
  · omega
end
section
variable {A : Type} {dA : A} {d : Nat} {R R' : List (List Nat)} {S S' : List A}
def two (R R' : List (List Nat)) (r p : Nat) : Nat := if r < R.length then dl R r p else R.length + dl R' (r - R.length) p
def twoT (dA : A) (n : Nat) (S S' : List A) (r : Nat) : A := if r < n then S.getD r dA else S'.getD (r - n) dA
theorem two_fst (o : Ok d R) : ∀ (w : List Nat) (r : Nat), r < R.length → go (two R R') r w = wk R r w
  | [], _, _ => rfl
  | p :: w, r, h => by
    show go (two R R') (two R R' r p) w = wk R (dl R r p) w
    rw [show two R R' r p = dl R r p from if_pos h]
    exact two_fst o w _ (o.dl_lt h)
theorem two_snd : ∀ (w : List Nat) (r : Nat), go (two R R') (R.length + r) w = R.length + wk R' r w
  | [], _ => rfl
  | p :: w, r => by
    show go (two R R') (two R R' (R.length + r) p) w = R.length + wk R' (dl R' r p) w
    rw [show two R R' (R.length + r) p = R.length + dl R' r p by
      unfold two
      rw [if_neg (by omega), Nat.add_sub_cancel_left]]
    exact two_snd w _
/-- two machines that texts of at most k letters do not tell apart answer every text alike -/
theorem short (o : Ok d R) (o' : Ok d R') {k : Nat} (hk : R.length + R'.length ≤ k + 1)
    (h : ∀ w, w.length ≤ k → (∀ a ∈ w, a < d) → S.getD (wk R 0 w) dA = S'.getD (wk R' 0 w) dA) :
    ∀ w, (∀ a ∈ w, a < d) → S.getD (wk R 0 w) dA = S'.getD (wk R' 0 w) dA := by
  have e1 : ∀ w, twoT dA R.length S S' (go (two R R') 0 w) = S.getD (wk R 0 w) dA := fun w => by
    rw [two_fst o w 0 o.pos]
    exact if_pos (o.wk_lt o.pos)
  have e2 : ∀ w, twoT dA R.length S S' (go (two R R') (R.length + 0) w) = S'.getD (wk R' 0 w) dA := fun w => by
    rw [two_snd w 0]
    unfold twoT
    rw [if_neg (by omega), Nat.add_sub_cancel_left]
  have hp := o.pos
  have hp' := o'.pos
  intro w hw
  rw [← e1 w, ← e2 w]
  refine moore (N := R.length + R'.length) (d := d) (fun r p hr => ?_) hk w 0 (R.length + 0) (by omega) (by omega) hw fun v hv hv' => ?_
  · unfold two
    split
    · rename_i hl
      have := o.dl_lt (p := p) hl
      omega
    · have := o'.dl_lt (r := r - R.length) (p := p) (by omega)
      omega
  · rw [e1 v, e2 v]
    exact h v hv hv'
end
end Mch

namespace Mch
/-! ### a machine looked at from outside: its rooms in order, its rooms apart -/
/-- the numbers 0, 1, .. as far as they go -/
structure Dense (m : List Nat) (N : Nat) : Prop where
  lt : ∀ x ∈ m, x < N
  on : ∀ y, y < N → y ∈ m
section
variable {κ : Type} [DecidableEq κ]
theorem nubG_mem {l : List κ} {x : κ} : x ∈ nubA [] l ↔ x ∈ l := by
  rw [nubA_mem]
  simp
theorem numbG_at {l : List κ} {i : Nat} {x : κ} (h : l[i]? = some x) : (numb l)[i]? = some ((nubA [] l).idxOf x) := by
  unfold numb
  rw [List.getElem?_map, h]
  rfl
theorem numb_dense {l : List κ} : Dense (numb l) (nubA [] l).length := by
  refine ⟨fun x hx => ?_, fun y hy => ?_⟩
  · obtain ⟨z, hz, e⟩ := List.mem_map.mp hx
    rw [← e]
    exact idxOf_lt (nubG_mem.mpr hz)
  · have hm : (nubA [] l)[y] ∈ l := nubG_mem.mp (List.getElem_mem hy)
    refine List.mem_map.mpr ⟨_, hm, ?_⟩
    exact idxOf_of_get (nubA_nodup List.nodup_nil) (List.getElem?_eq_getElem hy)
theorem numb_eq {l : List κ} {i j : Nat} {x y : κ} (hi : l[i]? = some x) (hj : l[j]? = some y) : (numb l)[i]? = (numb l)[j]? ↔ x = y := by
  rw [numbG_at hi, numbG_at hj]
  constructor
  · intro e
    have mx := nubG_mem.mpr (List.mem_of_getElem? hi)
    have my := nubG_mem.mpr (List.mem_of_getElem? hj)
    have e' := Option.some.inj e
    have gx := idxOf_get mx
    rw [e', idxOf_get my] at gx
    exact (Option.some.inj gx).symm
  · rintro rfl
    rfl
end
theorem Dense.le {m : List Nat} {N : Nat} (h : Dense m N) : N ≤ m.length := by
  have nd : ((List.range N).map m.idxOf).Nodup := by
    rw [List.nodup_iff_pairwise_ne, List.pairwise_map]
    refine List.Pairwise.imp_of_mem (fun {a b} ha hb ne e => ne ?_) (List.nodup_iff_pairwise_ne.mp List.nodup_range)
    have ga := idxOf_get (h.on a (List.mem_range.mp ha))
    have gb := idxOf_get (h.on b (List.mem_range.mp hb))
    rw [e] at ga
    exact Option.some.inj (ga.symm.trans gb)
  have := nodup_len nd fun x hx => by
    obtain ⟨y, hy, e⟩ := List.mem_map.mp hx
    rw [← e]
    exact idxOf_lt (h.on y (List.mem_range.mp hy))
  simpa using this
/-- a finer numbering has no fewer numbers; with as many it is the same -/
theorem Dense.finer {m m' : List Nat} {N N' : Nat} (h : Dense m N) (h' : Dense m' N') (hl : m'.length = m.length)
    (f : ∀ r q, r < m.length → q < m.length → m'.getD r 0 = m'.getD q 0 → m.getD r 0 = m.getD q 0) :
    N ≤ N' ∧ (N' ≤ N → ∀ r q, r < m.length → q < m.length → m.getD r 0 = m.getD q 0 → m'.getD r 0 = m'.getD q 0) := by
  have hi : ∀ y, y < N → m.idxOf y < m.length ∧ m.getD (m.idxOf y) 0 = y := fun y hy => by
    have l1 := idxOf_lt (h.on y hy)
    exact ⟨l1, by rw [getD_lt l1, List.getElem_idxOf]⟩
  have lt' : ∀ r, r < m.length → m'.getD r 0 < N' := fun r hr => by
    rw [getD_lt (by omega)]
    exact h'.lt _ (List.getElem_mem _)
  have nd : ((List.range N).map fun y => m'.getD (m.idxOf y) 0).Nodup := by
    rw [List.nodup_iff_pairwise_ne, List.pairwise_map]
    refine List.Pairwise.imp_of_mem (fun {a b} ha hb ne e => ne ?_) (List.nodup_iff_pairwise_ne.mp List.nodup_range)
    obtain ⟨a1, a2⟩ := hi a (List.mem_range.mp ha)
    obtain ⟨b1, b2⟩ := hi b (List.mem_range.mp hb)
    have := f _ _ a1 b1 e
    rw [a2, b2] at this
    exact this
  have sub : ∀ x ∈ (List.range N).map fun y => m'.getD (m.idxOf y) 0, x < N' := fun x hx => by
    obtain ⟨y, hy, e⟩ := List.mem_map.mp hx
    rw [← e]
    exact lt' _ (hi y (List.mem_range.mp hy)).1
  have len1 : N ≤ N' := by simpa using nodup_len nd sub
  refine ⟨len1, fun hle => ?_⟩
  have one : ∀ r, r < m.length → m'.getD r 0 = m'.getD (m.idxOf (m.getD r 0)) 0 := fun r hr => by
    by_cases z : m'.getD r 0 ∈ (List.range N).map fun y => m'.getD (m.idxOf y) 0
    · obtain ⟨y, hy, e⟩ := List.mem_map.mp z
      obtain ⟨y1, y2⟩ := hi y (List.mem_range.mp hy)
      have := f r _ hr y1 e.symm
      rw [y2] at this
      rw [this]
      exact e.symm
    · have nd2 : (((List.range N).map fun y => m'.getD (m.idxOf y) 0) ++ [m'.getD r 0]).Nodup := by
        rw [List.nodup_append]
        refine ⟨nd, by simp, fun a ha b hb => ?_⟩
        rw [List.mem_singleton.mp hb]
        exact fun e => z (e ▸ ha)
      have := nodup_len nd2 fun x hx => by
        rcases List.mem_append.mp hx with y | y
        · exact sub x y
        · rw [List.mem_singleton.mp y]
          exact lt' r hr
      simp at this
      omega
  intro r q hr hq e
  rw [one r hr, one q hq, e]
theorem dense_inj {m : List Nat} {N : Nat} (h : Dense m N) (inj : ∀ r q, r < m.length → q < m.length → m.getD r 0 = m.getD q 0 → r = q) : m.length ≤ N := by
  have nd : m.Nodup := by
    rw [List.nodup_iff_pairwise_ne, List.pairwise_iff_getElem]
    intro i j hi hj hij e
    have := inj i j hi hj (by rw [getD_lt hi, getD_lt hj, e])
    omega
  exact nodup_len nd h.lt
/-! ### finer and finer -/
def finerL (W : List (List Nat)) (m : List Nat) : List (List Nat) := W.map fun row => row.map fun t => m.getD t 0
/-- the numbers of a turn, the count before -/
structure Ref {A : Type} (dA : A) (W : List (List Nat)) (T : List A) (i : Nat) (m : List Nat) (c N : Nat) : Prop where
  len : m.length = W.length
  den : Dense m N
  ans : ∀ r q, r < W.length → q < W.length → m.getD r 0 = m.getD q 0 → T.getD r dA = T.getD q dA
  at_ : (c < N ∧ i < N) ∨ (c = N ∧ N = W.length)
section
variable {A : Type} {dA : A} {d : Nat} {W : List (List Nat)} {T : List A}
theorem numb_length {κ : Type} [DecidableEq κ] {l : List κ} : (numb l).length = l.length := List.length_map ..
theorem getD_of_some {α : Type} {l : List α} {i : Nat} {x d : α} (h : l[i]? = some x) : l.getD i d = x := by
  rw [List.getD_eq_getElem?_getD, h]; rfl
theorem some_getD {α : Type} {l : List α} {i : Nat} {d : α} (h : i < l.length) : l[i]? = some (l.getD i d) := by
  rw [getD_lt h, List.getElem?_eq_getElem h]
theorem numb_iff {κ : Type} [DecidableEq κ] {l : List κ} {i j : Nat} {x y : κ} (hi : l[i]? = some x) (hj : l[j]? = some y) : (numb l).getD i 0 = (numb l).getD j 0 ↔ x = y := by
  rw [← numb_eq hi hj, getD_of_some (numbG_at hi), getD_of_some (numbG_at hj), numbG_at hi, numbG_at hj, Option.some.injEq]
theorem Ref.start [DecidableEq A] (hT : T.length = W.length) (hp : 0 < W.length) : Ref dA W T 0 (numb T) 0 (nubA [] T).length := by
  have h0 : 0 < (nubA [] T).length := by
    have : T.getD 0 dA ∈ nubA [] T := nubG_mem.mpr (by rw [getD_lt (by omega)]; exact List.getElem_mem _)
    exact List.length_pos_of_mem this
  refine ⟨by rw [numb_length, hT], numb_dense, fun r q hr hq e => ?_, .inl ⟨h0, h0⟩⟩
  exact (numb_iff (some_getD (by omega)) (some_getD (by omega))).mp e
theorem Ref.step (o : Ok d W) (red : Redu dA d W T) {i c N : Nat} {m : List Nat} (R : Ref dA W T i m c N) (h : c < N) :
    Ref dA W T (i + 1) (numb (m.zip (finerL W m))) N (nubA [] (m.zip (finerL W m))).length := by
  have hl := R.len
  have lf : (finerL W m).length = W.length := List.length_map ..
  have lz : (m.zip (finerL W m)).length = W.length := by
    rw [List.length_zip, lf, hl, Nat.min_self]
  have gz : ∀ r, r < W.length → (m.zip (finerL W m))[r]? = some (m.getD r 0, (rowOf W r).map fun t => m.getD t 0) := fun r hr => by
    rw [List.getElem?_zip_eq_some]
    refine ⟨some_getD (by omega), ?_⟩
    unfold finerL rowOf
    rw [List.getElem?_map, some_getD (d := []) hr]
    rfl
  have iff : ∀ r q, r < W.length → q < W.length → ((numb (m.zip (finerL W m))).getD r 0 = (numb (m.zip (finerL W m))).getD q 0 ↔
      m.getD r 0 = m.getD q 0 ∧ ((rowOf W r).map fun t => m.getD t 0) = (rowOf W q).map fun t => m.getD t 0) := fun r q hr hq => by
    rw [numb_iff (gz r hr) (gz q hq), Prod.mk.injEq]
  have iN : i < N := by
    rcases R.at_ with z | z
    · exact z.2
    · omega
  have dn := numb_dense (l := m.zip (finerL W m))
  obtain ⟨f1, f2⟩ := R.den.finer dn (by rw [numb_length, lz, hl]) fun r q hr hq e => ((iff r q (by omega) (by omega)).mp e).1
  refine ⟨by rw [numb_length, lz], dn, fun r q hr hq e => R.ans r q hr hq ((iff r q hr hq).mp e).1, ?_⟩
  by_cases z : (nubA [] (m.zip (finerL W m))).length ≤ N
  · right
    have st := f2 z
    -- nothing grew finer
    have go : ∀ (w : List Nat) (r q : Nat), r < W.length → q < W.length → (∀ a ∈ w, a < d) → m.getD r 0 = m.getD q 0 → T.getD (wk W r w) dA = T.getD (wk W q w) dA := by
      intro w
      induction w with
      | nil => intro r q hr hq _ e; exact R.ans r q hr hq e
      | cons p w ih =>
        intro r q hr hq hw e
        have hp := hw p (List.mem_cons_self ..)
        have e2 := ((iff r q hr hq).mp (st r q (by omega) (by omega) e)).2
        refine ih (dl W r p) (dl W q p) (o.dl_lt hr) (o.dl_lt hq) (fun a ha => hw a (List.mem_cons_of_mem _ ha)) ?_
        have g : ∀ x, x < W.length → ((rowOf W x).map fun t => m.getD t 0)[p]? = some (m.getD (dl W x p) 0) := fun x hx => by
          have lx := rowOf_len o hx
          rw [List.getElem?_map, some_getD (d := 0) (by omega)]
          rfl
        have := g r hr
        rw [e2, g q hq] at this
        exact (Option.some.inj this).symm
    have inj : ∀ r q, r < m.length → q < m.length → m.getD r 0 = m.getD q 0 → r = q := fun r q hr hq e => red r q (by omega) (by omega) fun w hw => go w r q (by omega) (by omega) hw e
    have n1 := dense_inj R.den inj
    have n2 := R.den.le
    have : N = (nubA [] (m.zip (finerL W m))).length := by omega
    exact ⟨this, by omega⟩
  · left
    omega
theorem Ref.done {c N : Nat} {m : List Nat} (R : Ref dA W T W.length m c N) : N = W.length := by
  have h1 := R.den.le
  have h2 := R.len
  rcases R.at_ with z | z <;> omega
/-! ### rooms in the order of their texts -/
end
end Mch

namespace Own
open PySem PySem.Spec PyProof.Rows L2 SX RZ
/-! ### dicts by keys that are tuples of any depth: what lies at the dict's own place; the keys' tuples are told apart -/
section
variable {P : Program} {w : World} {κ : Type} [DecidableEq κ]
end
section
variable {X : Cx} {κ : Type} [DecidableEq κ] {P : Program} {w : World} {knd : PySem.HeapKind P w κ} {kin : Hp → κ → Addr → Prop} {pins : List (Addr × Obj)} {σ : L2.St} {H : Hp} {s : Shared} {a : Addr} {kvs : List (κ × Addr × V)}
end
/-! ### a number and a tuple of numbers, as a key -/
def nkOf (k : Nat × List Nat) : NestedKey := .tup [.num k.1, .tup (k.2.map fun (n : Nat) => .num n)]
def kinN (H : Hp) (k : NestedKey) (b : Addr) : Prop := ∃ (m : Nat) (l : List Nat) (c : Addr), k = nkOf (m, l) ∧ H b = some (.tup [iv m, .ref c]) ∧ H c = some (.tup (ivs l))
theorem kinN.same {H H' : Hp} {k : NestedKey} {b : Addr} (h : kinN H k b) (s : Same H H') : kinN H' k b := by
  obtain ⟨m, l, c, e, h1, h2⟩ := h
  exact ⟨m, l, c, e, s _ _ h1, s _ _ h2⟩
end Own

namespace Own
open PySem PySem.Spec PyProof.Rows L2 SX RZ
/-! ### answers that are truths or texts, as keys -/
end Own

namespace Own
open PySem PySem.Spec PyProof.Rows L2 SX RZ
/-! ### dicts by any kind of key: displays, get with a default, compared -/
section
variable {X : Cx} {κ : Type} [DecidableEq κ] {P : Program} {w : World} {knd : PySem.KeyKind P w κ} {enc : κ → V} {pins : List (Addr × Obj)} {σ : L2.St} {H : Hp} {s : Shared} {a : Addr} {kvs : List (κ × V)}
end
end Own

namespace Own
open PySem PySem.Spec PyProof.Rows L2 SX RZ
/-! ### calls with keywords alone: of a def, of a classmethod -/
section
variable {X : Cx} {CX : CXT} {k n : Nat} {f C p g : Addr} {mc : Value} {fd : FuncData} {ps ks : List Str} {sp : Sp} {E : XK} {x m : Str} {np pos apos : Pos} {o : Expr} {kws : List Keyword} {ta : TE} {tk : TA} {gg : List Value → List Value → List Value} {gV : List V → List V → List V} {pl : Sem Bool}
end
end Own

namespace Own
open PySem PySem.Spec PyProof.Rows L2 SX
/-! ### a place in a filled row -/
/-! ### lengths and letters along fills -/
/-! ### turns done one after the other -/
/-! ### promises -/
/-- rows of items as they lie; the sizes beside them -/
def LstsN (H : Hp) (qs : List Addr) (l : List (List (List Nat))) : Prop := qs.length = l.length ∧ ∀ (i : Nat) (q : Addr) (its : List (List Nat)), qs[i]? = some q → l[i]? = some its → H q = some (.lst (its.map tx))
theorem LstsN.same {H H' : Hp} {qs : List Addr} {l : List (List (List Nat))} (h : LstsN H qs l) (s : Same H H') : LstsN H' qs l := ⟨h.1, fun i q its h1 h2 => s _ _ (h.2 i q its h1 h2)⟩
theorem Lsts.n {H : Hp} {r : Addr} {qs : List Addr} {l : List (List (List Nat))} (h : Lsts H r qs l) : LstsN H qs l := ⟨h.1, fun i q its h1 h2 => (h.2 i q its h1 h2).2⟩
end Own

/-! Cnd1: conditions, their texts; patterns as they are checked -/
namespace Cnd
inductive Cd where
  | named (n : List Nat)
  | mat (p : List Nat)
  | len (r m : Nat)
  | tpl (k : Nat) (a b x y : List Nat)
  | no (c : Cd)
  | two (w : Bool) (a b : Cd)
  deriving DecidableEq
/-! ### the scan of a pattern -/
def can (gs : List Nat) (b s d : Nat) : Bool :=
  if s = 42 then decide (b ∈ gs) || (decide (b = 46) || decide (b = 41)) else if s = 41 then decide (0 < d) else decide (s ∈ gs) || (decide (s = 46) || (decide (s = 124) || decide (s = 40)))
/-- depth behind a sign -/
def dep (d s : Nat) : Nat := if s = 40 then d + 1 else if s = 41 then d - 1 else d
def scan (gs : List Nat) : Nat → Nat → List Nat → Option (Nat × Nat)
  | b, d, [] => some (b, d)
  | b, d, s :: p => if can gs b s d then scan gs s (dep d s) p else none
theorem scan_app {gs : List Nat} : ∀ {p q : List Nat} {b d : Nat}, scan gs b d (p ++ q) = (scan gs b d p).bind fun z => scan gs z.1 z.2 q
  | [], q, b, d => rfl
  | s :: p, q, b, d => by
    show (if can gs b s d then scan gs s (dep d s) (p ++ q) else none) = (if can gs b s d then scan gs s (dep d s) p else none).bind _
    by_cases h : can gs b s d = true
    · rw [if_pos h, if_pos h, scan_app]
    · rw [if_neg h, if_neg h]; rfl
/-- the place of the parenthesis that closes, counted from i -/
def clo : Nat → List Nat → Nat → Option Nat
  | _, [], _ => none
  | d, s :: p, i => if dep d s = 0 then some i else clo (dep d s) p (i + 1)
/-- a pattern in itself -/
structure Pat (gs p : List Nat) : Prop where
  scn : ∀ b d, ∃ b', scan gs b d p = some (b', d)
  bal : ∀ d q i, clo (d + 1) (p ++ q) i = clo (d + 1) q (i + p.length)
  low : ∀ c ∈ p, c < 128
/-- signs that are no parentheses -/
theorem bal_plain : ∀ {p : List Nat}, (∀ c ∈ p, c ≠ 40 ∧ c ≠ 41) → ∀ d q i, clo (d + 1) (p ++ q) i = clo (d + 1) q (i + p.length)
  | [], _, d, q, i => rfl
  | s :: p, h, d, q, i => by
    obtain ⟨h1, h2⟩ := h s (List.mem_cons_self ..)
    have e : dep (d + 1) s = d + 1 := by unfold dep; rw [if_neg h1, if_neg h2]
    show (if dep (d + 1) s = 0 then some i else clo (dep (d + 1) s) (p ++ q) (i + 1)) = _
    rw [e, if_neg (Nat.succ_ne_zero _), bal_plain fun c hc => h c (List.mem_cons_of_mem _ hc)]
    congr 1
    rw [List.length_cons]
    omega
theorem clo_at {p q : List Nat} (hb : ∀ d q i, clo (d + 1) (p ++ q) i = clo (d + 1) q (i + p.length)) {i : Nat} : clo 1 (p ++ 41 :: q) i = some (i + p.length) := by
  rw [hb 0 (41 :: q) i]
  rfl
theorem Pat.nil {gs : List Nat} : Pat gs [] := ⟨fun b d => ⟨b, rfl⟩, fun d q i => rfl, fun _ h => nomatch h⟩
theorem Pat.app {gs p q : List Nat} (h : Pat gs p) (k : Pat gs q) : Pat gs (p ++ q) := by
  refine ⟨fun b d => ?_, fun d r i => ?_, fun c hc => (List.mem_append.mp hc).elim (h.low c) (k.low c)⟩
  · obtain ⟨b1, e1⟩ := h.scn b d
    obtain ⟨b2, e2⟩ := k.scn b1 d
    exact ⟨b2, by rw [scan_app, e1]; exact e2⟩
  · rw [List.append_assoc, h.bal, k.bal, List.length_append, Nat.add_assoc]
/-- letters, points and bars stand anywhere -/
def free (gs : List Nat) (s : Nat) : Prop := s ∈ gs ∨ s = 46 ∨ s = 124
theorem one_scan {gs : List Nat} (az : ∀ c ∈ gs, 97 ≤ c ∧ c ≤ 122) {s : Nat} (h : free gs s) (b d : Nat) : scan gs b d [s] = some (s, d) := by
  have hs : s ≠ 42 ∧ s ≠ 41 ∧ s ≠ 40 ∧ s < 128 := by
    rcases h with h | rfl | rfl
    · have := az s h; omega
    · decide
    · decide
  have e1 : can gs b s d = true := by
    unfold can
    rw [if_neg hs.1, if_neg hs.2.1]
    rcases h with h | rfl | rfl
    · rw [decide_eq_true h]; rfl
    · simp
    · simp
  have e2 : dep d s = d := by unfold dep; rw [if_neg hs.2.2.1, if_neg hs.2.1]
  show (if can gs b s d then scan gs s (dep d s) [] else none) = _
  rw [e1, if_pos rfl, e2]
  rfl
theorem Pat.one {gs : List Nat} (az : ∀ c ∈ gs, 97 ≤ c ∧ c ≤ 122) {s : Nat} (h : free gs s) : Pat gs [s] := by
  have hs : s ≠ 42 ∧ s ≠ 41 ∧ s ≠ 40 ∧ s < 128 := by
    rcases h with h | rfl | rfl
    · have := az s h; omega
    · decide
    · decide
  exact ⟨fun b d => ⟨s, one_scan az h b d⟩, bal_plain fun c hc => by rw [List.mem_singleton.mp hc]; exact ⟨hs.2.2.1, hs.2.1⟩, fun c hc => by rw [List.mem_singleton.mp hc]; exact hs.2.2.2⟩
theorem bal_par {p : List Nat} (hb : ∀ d q i, clo (d + 1) (p ++ q) i = clo (d + 1) q (i + p.length)) : ∀ d q i, clo (d + 1) ((40 :: (p ++ [41])) ++ q) i = clo (d + 1) q (i + (40 :: (p ++ [41])).length) := fun d q i => by
  show (if dep (d + 1) 40 = 0 then some i else clo (dep (d + 1) 40) ((p ++ [41]) ++ q) (i + 1)) = _
  have e : dep (d + 1) 40 = d + 1 + 1 := rfl
  rw [e, if_neg (Nat.succ_ne_zero _), List.append_assoc, hb]
  show (if dep (d + 1 + 1) 41 = 0 then some _ else clo (dep (d + 1 + 1) 41) q _) = _
  have e2 : dep (d + 1 + 1) 41 = d + 1 := rfl
  rw [e2, if_neg (Nat.succ_ne_zero _)]
  congr 1
  rw [List.length_cons, List.length_append]
  show _ = i + (p.length + 1 + 1)
  omega
theorem Pat.par {gs p : List Nat} (h : Pat gs p) : Pat gs (40 :: (p ++ [41])) := by
  refine ⟨fun b d => ⟨41, ?_⟩, bal_par h.bal, fun c hc => ?_⟩
  · obtain ⟨b1, e1⟩ := h.scn 40 (d + 1)
    show (if can gs b 40 d then scan gs 40 (d + 1) (p ++ [41]) else none) = _
    have e0 : can gs b 40 d = true := by unfold can; simp
    rw [e0, if_pos rfl, scan_app, e1]
    show (if can gs b1 41 (d + 1) then scan gs 41 (dep (d + 1) 41) [] else none) = _
    have e2 : can gs b1 41 (d + 1) = true := by unfold can; simp
    rw [e2, if_pos rfl]
    rfl
  · rcases List.mem_cons.mp hc with rfl | hc
    · decide
    · rcases List.mem_append.mp hc with hc | hc
      · exact h.low c hc
      · rw [List.mem_singleton.mp hc]; decide
/-- ( .. )* -/
theorem Pat.star {gs p : List Nat} (h : Pat gs p) : Pat gs ((40 :: (p ++ [41])) ++ [42]) := by
  refine ⟨fun b d => ⟨42, ?_⟩, fun d q i => ?_, fun c hc => ?_⟩
  · have h1 : scan gs b d (40 :: (p ++ [41])) = some (41, d) := by
      obtain ⟨b1, e1⟩ := h.scn 40 (d + 1)
      show (if can gs b 40 d then scan gs 40 (d + 1) (p ++ [41]) else none) = _
      have e0 : can gs b 40 d = true := by unfold can; simp
      rw [e0, if_pos rfl, scan_app, e1]
      show (if can gs b1 41 (d + 1) then scan gs 41 (dep (d + 1) 41) [] else none) = _
      have e2 : can gs b1 41 (d + 1) = true := by unfold can; simp
      rw [e2, if_pos rfl]
      rfl
    rw [scan_app, h1]
    show (if can gs 41 42 d then scan gs 42 (dep d 42) [] else none) = _
    have e2 : can gs 41 42 d = true := by unfold can; simp
    rw [e2, if_pos rfl]
    rfl
  · rw [List.append_assoc, h.par.bal, bal_plain (p := [42]) (fun c hc => by rw [List.mem_singleton.mp hc]; decide), List.length_append, Nat.add_assoc]
  · rcases List.mem_append.mp hc with hc | hc
    · exact h.par.low c hc
    · rw [List.mem_singleton.mp hc]; decide
/-- a letter or the point, and a star -/
theorem Pat.lstar {gs : List Nat} (az : ∀ c ∈ gs, 97 ≤ c ∧ c ≤ 122) {s : Nat} (h : s ∈ gs ∨ s = 46) : Pat gs [s, 42] := by
  have f : free gs s := h.elim .inl fun z => .inr (.inl z)
  have h1 := Pat.one az f
  refine ⟨fun b d => ⟨42, ?_⟩, fun d q i => ?_, fun c hc => ?_⟩
  · have e := one_scan az f b d
    rw [show [s, 42] = [s] ++ [42] from rfl, scan_app, e]
    show (if can gs s 42 d then scan gs 42 (dep d 42) [] else none) = _
    have e2 : can gs s 42 d = true := by
      unfold can
      rw [if_pos rfl]
      rcases h with h | rfl
      · rw [decide_eq_true h]; rfl
      · simp
    rw [e2, if_pos rfl]
    rfl
  · rw [show [s, 42] ++ q = [s] ++ ([42] ++ q) from rfl, h1.bal, bal_plain (p := [42]) (fun c hc => by rw [List.mem_singleton.mp hc]; decide)]
    rfl
  · rcases List.mem_cons.mp hc with rfl | hc
    · exact h1.low _ (List.mem_singleton.mpr rfl)
    · rw [List.mem_singleton.mp hc]; decide
end Cnd
namespace Cnd
theorem scan_at {gs : List Nat} {b d : Nat} {z : Nat × Nat} : ∀ {p : List Nat} (_ : scan gs b d p = some z) (i : Nat), ∃ b' d', scan gs b d (p.take i) = some (b', d')
  | [], h, i => ⟨b, d, by rw [List.take_nil]; rfl⟩
  | s :: p, h, i => by
    have e := List.take_append_drop i (s :: p)
    rw [← e, scan_app] at h
    cases q : scan gs b d ((s :: p).take i) with
    | none => rw [q] at h; cases h
    | some y => exact ⟨y.1, y.2, rfl⟩
theorem scan_step {gs : List Nat} {b0 d0 b d s i : Nat} {z : Nat × Nat} {p : List Nat} (h : scan gs b0 d0 p = some z) (hi : scan gs b0 d0 (p.take i) = some (b, d)) (hs : p[i]? = some s) :
    can gs b s d = true ∧ scan gs b0 d0 (p.take (i + 1)) = some (s, dep d s) := by
  have et : p.take (i + 1) = p.take i ++ [s] := by rw [List.take_add_one, hs]; rfl
  obtain ⟨b2, d2, h2⟩ := scan_at h (i + 1)
  rw [et, scan_app, hi] at h2
  have h3 : (if can gs b s d then scan gs s (dep d s) [] else none) = some (b2, d2) := h2
  by_cases c : can gs b s d = true
  · refine ⟨c, ?_⟩
    rw [et, scan_app, hi]
    show (if can gs b s d then scan gs s (dep d s) [] else none) = _
    rw [if_pos c]
    rfl
  · rw [if_neg c] at h3; cases h3
end Cnd

/-! Cnd2: the texts of conditions; how they are read: what has begun, what is left -/
namespace Cnd
def dec (n : Nat) : List Nat := if n < 10 then [48 + n] else [48 + n / 10, 48 + n % 10]
abbrev wdT (w : Bool) : List Nat := if w then [97, 110, 100] else [111, 114]
abbrev notT : List Nat := [110, 111, 116, 32]
abbrev namT : List Nat := [110, 97, 109, 101, 100, 32]
abbrev matT : List Nat := [109, 97, 116, 99, 104]
abbrev lenT : List Nat := [108, 101, 110, 103, 116, 104]
def kwT : Nat → List Nat
  | 0 => [115, 97, 109, 101]
  | 1 => [98, 101, 103, 105, 110, 115]
  | 2 => [101, 110, 100, 115]
  | _ => [108, 101, 115, 115]
/-- the text -/
def cTx : Cd → List Nat
  | .named n => namT ++ n
  | .mat p => matT ++ (40 :: (p ++ [41]))
  | .len r m => lenT ++ (40 :: ((dec r ++ 44 :: dec m) ++ [41]))
  | .tpl k a b _ _ => kwT k ++ (40 :: ((a ++ 44 :: b) ++ [41]))
  | .no c => notT ++ cTx c
  | .two w a b => 40 :: (cTx a ++ (32 :: (wdT w ++ (32 :: (cTx b ++ [41])))))
def leaf : Cd → Bool
  | .no _ => false
  | .two _ _ _ => false
  | _ => true
inductive Fr where
  | no
  | lft (w : Bool) (r : Cd)
  | rgt (w : Bool) (l : Cd)
/-- what still comes behind a condition; the innermost first -/
def rest (z : List Nat) : List Fr → List Nat
  | [] => z
  | .no :: fs => rest z fs
  | .lft w r :: fs => 32 :: (wdT w ++ (32 :: (cTx r ++ (41 :: rest z fs))))
  | .rgt _ _ :: fs => 41 :: rest z fs
def plug : List Fr → Cd → Cd
  | [], c => c
  | .no :: fs, c => plug fs (.no c)
  | .lft w r :: fs, c => plug fs (.two w c r)
  | .rgt w l :: fs, c => plug fs (.two w l c)
/-- what begins at the beginning of a condition; the outermost first -/
def newF : Cd → List Fr
  | .no c => .no :: newF c
  | .two w a b => .lft w b :: newF a
  | _ => []
def leafOf : Cd → Cd
  | .no c => leafOf c
  | .two _ a _ => leafOf a
  | c => c
/-- the signs of what begins: true for not, false for a parenthesis -/
def marks : Cd → List Bool
  | .no c => true :: marks c
  | .two _ a _ => false :: marks a
  | _ => []
abbrev mkT (b : Bool) : List Nat := if b then notT else [40]
def preT (l : List Bool) : List Nat := l.flatMap mkT
def markF : Fr → Bool
  | .no => true
  | _ => false
theorem marks_new : ∀ c : Cd, marks c = (newF c).map markF
  | .no c => by show true :: marks c = true :: (newF c).map markF; rw [marks_new c]
  | .two w a b => by show false :: marks a = false :: (newF a).map markF; rw [marks_new a]
  | .named _ | .mat _ | .len _ _ | .tpl _ _ _ _ _ => rfl
theorem leaf_of : ∀ c : Cd, leaf (leafOf c) = true
  | .no c => leaf_of c
  | .two _ a _ => leaf_of a
  | .named _ | .mat _ | .len _ _ | .tpl _ _ _ _ _ => rfl
theorem text_of {z : List Nat} : ∀ (c : Cd) (fs : List Fr), cTx c ++ rest z fs = preT (marks c) ++ (cTx (leafOf c) ++ rest z ((newF c).reverse ++ fs))
  | .no c, fs => by
    show notT ++ cTx c ++ rest z fs = (mkT true ++ preT (marks c)) ++ (cTx (leafOf c) ++ rest z ((Fr.no :: newF c).reverse ++ fs))
    rw [List.reverse_cons, List.append_assoc, List.append_assoc, List.append_assoc]
    show notT ++ (cTx c ++ rest z (.no :: fs)) = notT ++ _
    rw [text_of c (.no :: fs)]
    rfl
  | .two w a b, fs => by
    show (40 :: (cTx a ++ (32 :: (wdT w ++ (32 :: (cTx b ++ [41])))))) ++ rest z fs = (mkT false ++ preT (marks a)) ++ (cTx (leafOf a) ++ rest z ((Fr.lft w b :: newF a).reverse ++ fs))
    rw [List.reverse_cons, List.append_assoc (newF a).reverse]
    have e := text_of (z := z) a (.lft w b :: fs)
    show _ = (mkT false ++ preT (marks a)) ++ (cTx (leafOf a) ++ rest z ((newF a).reverse ++ (.lft w b :: fs)))
    rw [List.append_assoc, ← e]
    have e2 : (40 :: (cTx a ++ (32 :: (wdT w ++ (32 :: (cTx b ++ [41])))))) ++ rest z fs = 40 :: (cTx a ++ (32 :: (wdT w ++ (32 :: (cTx b ++ (41 :: rest z fs)))))) := by
      rw [List.cons_append, List.append_assoc, List.cons_append, List.append_assoc, List.cons_append, List.append_assoc]
      rfl
    exact e2
  | .named _, _ | .mat _, _ | .len _ _, _ | .tpl _ _ _ _ _, _ => rfl
theorem plug_of : ∀ (c : Cd) (fs : List Fr), plug ((newF c).reverse ++ fs) (leafOf c) = plug fs c
  | .no c, fs => by
    show plug ((Fr.no :: newF c).reverse ++ fs) (leafOf c) = _
    rw [List.reverse_cons, List.append_assoc]
    exact plug_of c (.no :: fs)
  | .two w a b, fs => by
    show plug ((Fr.lft w b :: newF a).reverse ++ fs) (leafOf a) = _
    rw [List.reverse_cons, List.append_assoc]
    exact plug_of a (.lft w b :: fs)
  | .named _, _ | .mat _, _ | .len _ _, _ | .tpl _ _ _ _ _, _ => rfl
/-- how much is left to read -/
def size : Cd → Nat
  | .no c => size c + 1
  | .two _ a b => size a + size b + 1
  | _ => 1
theorem size_pos : ∀ c : Cd, 0 < size c
  | .no c => Nat.succ_pos _
  | .two _ a b => Nat.succ_pos _
  | .named _ | .mat _ | .len _ _ | .tpl _ _ _ _ _ => Nat.one_pos
def left : List Fr → Nat
  | [] => 0
  | .lft _ r :: fs => size r + left fs
  | _ :: fs => left fs
theorem left_app : ∀ (a b : List Fr), left (a ++ b) = left a + left b
  | [], b => (Nat.zero_add _).symm
  | .no :: a, b => left_app a b
  | .rgt _ _ :: a, b => left_app a b
  | .lft _ r :: a, b => by show size r + left (a ++ b) = size r + left a + left b; rw [left_app a b]; omega
theorem left_new : ∀ c : Cd, left (newF c).reverse < size c
  | .no c => by
    show left (Fr.no :: newF c).reverse < size c + 1
    rw [List.reverse_cons, left_app]
    have := left_new c
    show _ + 0 < _
    omega
  | .two w a b => by
    show left (Fr.lft w b :: newF a).reverse < size a + size b + 1
    rw [List.reverse_cons, left_app]
    have := left_new a
    show _ + (size b + 0) < _
    omega
  | .named _ | .mat _ | .len _ _ | .tpl _ _ _ _ _ => Nat.one_pos
/-- a leaf begins neither with not nor with a parenthesis -/
theorem lead : ∀ {c : Cd} (_ : leaf c = true) (z : List Nat), ¬ notT <+: (cTx c ++ z) ∧ ¬ [40] <+: (cTx c ++ z)
  | .named n, _, z => ⟨fun ⟨t, e⟩ => by simp [cTx] at e, fun ⟨t, e⟩ => by simp [cTx] at e⟩
  | .mat p, _, z => ⟨fun ⟨t, e⟩ => by simp [cTx] at e, fun ⟨t, e⟩ => by simp [cTx] at e⟩
  | .len r m, _, z => ⟨fun ⟨t, e⟩ => by simp [cTx] at e, fun ⟨t, e⟩ => by simp [cTx] at e⟩
  | .tpl k a b _ _, _, z => by
    match k with
    | 0 | 1 | 2 | _ + 3 => exact ⟨fun ⟨t, e⟩ => by simp [cTx, kwT] at e, fun ⟨t, e⟩ => by simp [cTx, kwT] at e⟩
  | .no _, h, _ => by cases h
  | .two _ _ _, h, _ => by cases h
end Cnd
namespace Cnd
/-- the word of a leaf that is no name, and what stands between its parentheses -/
def kd : Cd → List Nat
  | .mat _ => matT
  | .len _ _ => lenT
  | .tpl k _ _ _ _ => kwT k
  | _ => []
def inn : Cd → List Nat
  | .mat p => p
  | .len r m => dec r ++ 44 :: dec m
  | .tpl _ a b _ _ => a ++ 44 :: b
  | _ => []
def isNamed : Cd → Bool
  | .named _ => true
  | _ => false
theorem leaf_text : ∀ {c : Cd} (_ : leaf c = true) (_ : isNamed c = false), cTx c = kd c ++ (40 :: (inn c ++ [41]))
  | .mat _, _, _ | .len _ _, _, _ | .tpl _ _ _ _ _, _, _ => rfl
  | .named _, _, h => by cases h
  | .no _, h, _ => by cases h
  | .two _ _ _, h, _ => by cases h
theorem kd_no : ∀ (c : Cd), 40 ∉ kd c
  | .mat _ => by show 40 ∉ matT; decide
  | .len _ _ => by show 40 ∉ lenT; decide
  | .tpl 0 _ _ _ _ => by show 40 ∉ kwT 0; decide
  | .tpl 1 _ _ _ _ => by show 40 ∉ kwT 1; decide
  | .tpl 2 _ _ _ _ => by show 40 ∉ kwT 2; decide
  | .tpl (_ + 3) _ _ _ _ => by show 40 ∉ kwT 3; decide
  | .named _ => fun h => nomatch h
  | .no _ => fun h => nomatch h
  | .two _ _ _ => fun h => nomatch h
theorem not_named : ∀ {c : Cd} (_ : leaf c = true) (_ : isNamed c = false) (z : List Nat), ¬ namT <+: (cTx c ++ z)
  | .mat p, _, _, z => fun ⟨t, e⟩ => by simp [cTx] at e
  | .len r m, _, _, z => fun ⟨t, e⟩ => by simp [cTx] at e
  | .tpl k a b _ _, _, _, z => by
    match k with
    | 0 | 1 | 2 | _ + 3 => exact fun ⟨t, e⟩ => by simp [cTx, kwT] at e
  | .named _, _, h, _ => by cases h
  | .no _, h, _, _ => by cases h
  | .two _ _ _, h, _, _ => by cases h
theorem dec_plain {n : Nat} : ∀ c ∈ dec n, c ≠ 40 ∧ c ≠ 41 := by
  intro c hc
  unfold dec at hc
  split at hc
  · rw [List.mem_singleton.mp hc]; omega
  · simp only [List.mem_cons, List.not_mem_nil, or_false] at hc
    rcases hc with rfl | rfl <;> omega
end Cnd
namespace Cnd
theorem rest_head {z : List Nat} (hz : ∀ d r, z = d :: r → ¬ (97 ≤ d ∧ d ≤ 122)) : ∀ (fs : List Fr) (d : Nat) (r : List Nat), rest z fs = d :: r → ¬ (97 ≤ d ∧ d ≤ 122)
  | [], d, r, h => hz d r h
  | .no :: fs, d, r, h => rest_head hz fs d r h
  | .lft w c :: fs, d, r, h => by
    have h : 32 :: (wdT w ++ (32 :: (cTx c ++ (41 :: rest z fs)))) = d :: r := h
    injection h with h1 _
    omega
  | .rgt w c :: fs, d, r, h => by
    have h : 41 :: rest z fs = d :: r := h
    injection h with h1 _
    omega
def dpt : Cd → Nat
  | .no c => dpt c + 1
  | .two _ a b => max (dpt a) (dpt b) + 1
  | _ => 1
theorem dpt_plug : ∀ (fs : List Fr) (c : Cd), dpt c ≤ dpt (plug fs c)
  | [], c => Nat.le_refl _
  | .no :: fs, c => Nat.le_trans (Nat.le_succ _) (dpt_plug fs (.no c))
  | .lft w r :: fs, c => Nat.le_trans (Nat.le_trans (Nat.le_max_left _ _) (Nat.le_succ _)) (dpt_plug fs (.two w c r))
  | .rgt w l :: fs, c => Nat.le_trans (Nat.le_trans (Nat.le_max_right _ _) (Nat.le_succ _)) (dpt_plug fs (.two w l c))
theorem dpt_rgt : ∀ {fs : List Fr} {c : Cd} {w : Bool} {l : Cd}, Fr.rgt w l ∈ fs → dpt l ≤ dpt (plug fs c)
  | f :: fs, c, w, l, h => by
    rcases List.mem_cons.mp h with e | h2
    · subst e
      exact Nat.le_trans (Nat.le_trans (Nat.le_max_left _ _) (Nat.le_succ _)) (dpt_plug fs (.two w l c))
    · cases f with
      | no => exact dpt_rgt (c := .no c) h2
      | lft w2 r => exact dpt_rgt (c := .two w2 c r) h2
      | rgt w2 l2 => exact dpt_rgt (c := .two w2 l2 c) h2
end Cnd

namespace Own
open PySem PySem.Spec PyProof.Rows L2 SX
/-! ### conditions as they lie; texts cut at a sign -/
theorem sub_S {xs : List Nat} {i j : Nat} : Builtin.Str.strSub (S xs) i j = S ((xs.drop i).take (j - i)) := by
  have h := StrLaws.strSub_toList (S xs) i j
  show _ = (⟨_⟩ : Str)
  have : (Builtin.Str.strSub (S xs) i j) = ⟨((xs.drop i).take (j - i)).toArray⟩ := by
    cases e : Builtin.Str.strSub (S xs) i j with
    | mk a =>
      rw [e] at h
      congr 1
      exact Array.toList_inj.mp h
  exact this
theorem idx_app {a b : List Nat} {c : Nat} (h : c ∉ a) : (a ++ c :: b).idxOf c = a.length := by
  induction a with
  | nil => simp [List.idxOf_cons]
  | cons x a ih =>
    have hx : x ≠ c := fun e => h (by rw [e]; exact List.mem_cons_self ..)
    rw [List.cons_append, List.idxOf_cons, ih fun z => h (List.mem_cons_of_mem _ z), beq_eq_false_iff_ne.mpr hx]
    rfl
theorem part_at {a b : List Nat} {c : Nat} (h : c ∉ a) : (Txt.partition (S (a ++ c :: b)) (S [c])).1 = S a := by
  obtain ⟨r, e⟩ := occ1 (a := a ++ c :: b) (c := c) (List.mem_append_right _ (List.mem_cons_self ..))
  have e2 := idx_app (b := b) h
  unfold Txt.partition
  rw [e, e2]
  show Builtin.Str.strSub _ 0 a.length = S a
  rw [sub_S, List.drop_zero, Nat.sub_zero, List.take_left]
theorem split_two {a b : List Nat} {c : Nat} (ha : c ∉ a) (hb : c ∉ b) (h256 : c < 256) : Txt.split (S (a ++ c :: b)) (S [c]) = [S a, S b] := by
  have hn : (a ++ c :: b).count c = 1 := by
    rw [List.count_append, List.count_cons_self, List.count_eq_zero_of_not_mem ha, List.count_eq_zero_of_not_mem hb]
  have hc := count_S (a ++ c :: b) c
  rw [hn] at hc
  have e2 := idx_app (b := b) ha
  have hl : (S (a ++ c :: b)).length = a.length + (b.length + 1) := by rw [S_len, List.length_append, List.length_cons]
  rcases StrLaws.occ_head (S (a ++ c :: b)) (S [c]) ((S (a ++ c :: b)).length + 1) (Nat.succ_pos _) with ⟨e0, _⟩ | ⟨i, r, e, hi, hk2⟩
  · unfold Txt.count at hc
    rw [e0] at hc
    cases hc
  · unfold Txt.count at hc
    rw [e] at hc
    have hr : r = [] := by
      cases r with
      | nil => rfl
      | cons x r =>
        have : ((i :: x :: r).length : Int) = 1 := hc
        rw [List.length_cons, List.length_cons] at this
        omega
    subst hr
    have h1 : (a ++ c :: b)[i]? = some c := (StrLaws.subAt_one (S (a ++ c :: b)) c i).mp hi
    have ei := idx_of (a ++ c :: b) i h1 fun k lt q => hk2 k lt ((StrLaws.subAt_one (S (a ++ c :: b)) c k).mpr q)
    have ei : i = a.length := by rw [← e2]; exact ei.symm
    subst ei
    unfold Txt.split
    rw [if_neg (by
      rw [Bool.or_eq_true, decide_eq_true_iff, decide_eq_true_iff]
      rintro (h | h)
      · rw [hl] at h
        have : (S [c]).length = 1 := rfl
        omega
      · have k1 : Builtin.Str.strKind (S [c]) = 1 := by
          unfold Builtin.Str.strKind
          rw [if_pos (by simp [S, h256])]
        rw [k1] at h
        unfold Builtin.Str.strKind at h
        split at h
        · omega
        · split at h <;> omega), e, if_neg (fun z => by cases z), StrLaws.partsBetween_eq]
    show [Builtin.Str.strSub _ 0 a.length, Builtin.Str.strSub _ (a.length + 1) _] = _
    rw [sub_S, sub_S, List.drop_zero, Nat.sub_zero, List.take_left]
    congr 2
    rw [show (a ++ c :: b).drop (a.length + 1) = b by
      rw [← List.drop_drop, List.drop_left]; rfl, hl]
    congr 1
    exact List.take_of_length_le (by omega)
theorem dec_to : ∀ n, n ≤ 60 → (toString ((n : Nat) : Int) : Str) = S (Cnd.dec n) := by decide +kernel
theorem dec_no : ∀ n, n ≤ 60 → ∀ c ∈ Cnd.dec n, 48 ≤ c ∧ c ≤ 57 := by decide +kernel
abbrev rLenQ (K : PySem.W.Frag) : List V → Hp → VK → Prop := fun xs H Q => ∃ p ys, xs = [.ref p] ∧ (SqL K H p ys ∨ SqT K H p ys) ∧ Q (.int ys.length) H
theorem callLenC {X : Cx} {K : PySem.W.Frag} (h : X.K = K) : CallR X (.builtin "len") (rLenQ K) := by subst h; exact call_len_seq
theorem dec_str {a b : List Nat} : decide (V.str (S a) = V.str (S b)) = decide (a = b) := by
  by_cases e : a = b
  · rw [e, decide_eq_true rfl, decide_eq_true rfl]
  · rw [decide_eq_false e]
    exact decide_eq_false fun h => e (S_inj (V.str.inj h))
theorem inV_tx {m : List Nat} : ∀ {l : List (List Nat)}, inV (tx m) (l.map tx) = decide (m ∈ l)
  | [] => rfl
  | n :: l => by
    have ih := inV_tx (m := m) (l := l)
    have h1 : inV (tx m) ((n :: l).map tx) = (eqV (tx n) (tx m) || inV (tx m) (l.map tx)) := rfl
    have h2 : eqV (tx n) (tx m) = decide (n = m) := by
      show (S n == S m) = _
      by_cases e : n = m
      · rw [e, decide_eq_true rfl, beq_self_eq_true]
      · rw [decide_eq_false e]
        exact beq_eq_false_iff_ne.mpr fun h => e (S_inj h)
    rw [h1, ih, h2]
    by_cases e : n = m
    · subst e; simp
    · simp [e, Ne.symm e]
theorem cutN_mid {xs : List Nat} {a b : Nat} (h : a ≤ b) (hb : b ≤ xs.length) : cutS (S xs) (some ((a : Nat) : Int)) (some ((b : Nat) : Int)) = S ((xs.drop a).take (b - a)) := by
  unfold cutS
  rw [S_len, HT.sIx_nat, HT.sIx_nat, Nat.min_eq_left (show a ≤ xs.length by omega), Nat.min_eq_left hb]
theorem cutN_from {xs : List Nat} {a : Nat} (h : a ≤ xs.length) : cutS (S xs) (some ((a : Nat) : Int)) none = S (xs.drop a) := by
  unfold cutS
  rw [S_len, HT.sIx_nat, HT.sIx_none, Nat.min_eq_left h]
  show (⟨((xs.drop a).take (xs.length - a)).toArray⟩ : Str) = ⟨(xs.drop a).toArray⟩
  rw [List.take_of_length_le (by rw [List.length_drop]; omega)]
theorem dec_lt {a b : Nat} : decide (((a : Nat) : Int) < ((b : Nat) : Int)) = decide (a < b) := by
  by_cases h : a < b
  · rw [decide_eq_true h]; exact decide_eq_true (by omega)
  · rw [decide_eq_false h]; exact decide_eq_false (by omega)
/-! ### conditions as they lie -/
def kwS : Nat → Str
  | 0 => Str.ofString "same"
  | 1 => Str.ofString "begins"
  | 2 => Str.ofString "ends"
  | _ => Str.ofString "less"
theorem kwS_T (k : Nat) : kwS k = S (Cnd.kwT k) := by
  match k with
  | 0 | 1 | 2 | _ + 3 => rfl
abbrev wdS (w : Bool) : Str := if w then Str.ofString "and" else Str.ofString "or"
theorem wdS_T (w : Bool) : wdS w = S (Cnd.wdT w) := by cases w <;> rfl
open Cnd in
/-- a condition as it lies -/
def CdH (H : Hp) : Cd → V → Prop
  | .named n, v => ∃ a, v = .ref a ∧ H a = some (.tup [.str (Str.ofString "named"), tx n])
  | .mat p, v => ∃ a, v = .ref a ∧ H a = some (.tup [.str (Str.ofString "match"), tx p])
  | .len r m, v => ∃ a, v = .ref a ∧ H a = some (.tup [.str (Str.ofString "length"), iv r, iv m])
  | .tpl k _ _ x y, v => ∃ a, v = .ref a ∧ H a = some (.tup [.str (kwS k), tx x, tx y])
  | .no c, v => ∃ a x, v = .ref a ∧ H a = some (.tup [.str (Str.ofString "not"), x]) ∧ CdH H c x
  | .two w c d, v => ∃ a x y, v = .ref a ∧ H a = some (.tup [.str (wdS w), x, y]) ∧ CdH H c x ∧ CdH H d y
theorem CdH.keep {H H' : Hp} (k : ∀ a xs, H a = some (.tup xs) → H' a = some (.tup xs)) : ∀ {c : Cnd.Cd} {v : V}, CdH H c v → CdH H' c v
  | .named _, _, ⟨a, e, h⟩ => ⟨a, e, k _ _ h⟩
  | .mat _, _, ⟨a, e, h⟩ => ⟨a, e, k _ _ h⟩
  | .len _ _, _, ⟨a, e, h⟩ => ⟨a, e, k _ _ h⟩
  | .tpl _ _ _ _ _, _, ⟨a, e, h⟩ => ⟨a, e, k _ _ h⟩
  | .no _, _, ⟨a, x, e, h, i⟩ => ⟨a, x, e, k _ _ h, CdH.keep k i⟩
  | .two _ _ _, _, ⟨a, x, y, e, h, i, j⟩ => ⟨a, x, y, e, k _ _ h, CdH.keep k i, CdH.keep k j⟩
theorem CdH.same {H H' : Hp} {c : Cnd.Cd} {v : V} (h : CdH H c v) (s : Same H H') : CdH H' c v := h.keep fun _ _ e => s _ _ e
theorem CdH.go {H H' : Hp} {r : Addr} {c : Cnd.Cd} {v : V} (h : CdH H c v) (R : Rng H r) (g : Go r H H') : CdH H' c v := h.keep fun a xs e => g.1 _ _ (fun z => by
  obtain ⟨ys, er⟩ := R.ex
  rw [z, er] at e
  cases e) e
theorem CdH.ref {H : Hp} : ∀ {c : Cnd.Cd} {v : V}, CdH H c v → ∃ a k xs, v = .ref a ∧ H a = some (.tup (.str k :: xs))
  | .named _, _, ⟨a, e, h⟩ => ⟨a, _, _, e, h⟩
  | .mat _, _, ⟨a, e, h⟩ => ⟨a, _, _, e, h⟩
  | .len _ _, _, ⟨a, e, h⟩ => ⟨a, _, _, e, h⟩
  | .tpl _ _ _ _ _, _, ⟨a, e, h⟩ => ⟨a, _, _, e, h⟩
  | .no _, _, ⟨a, x, e, h, _⟩ => ⟨a, _, _, e, h⟩
  | .two _ _ _, _, ⟨a, x, y, e, h, _⟩ => ⟨a, _, _, e, h⟩
/-- signs that stand in the text of a template -/
theorem row_signs {gs : List Nat} (hg : Good gs) {its : List (List Nat)} (h : Row gs its) : ∀ c ∈ rTx gs its, c ≠ 40 ∧ c ≠ 41 ∧ c ≠ 44 ∧ c < 128 := by
  intro c hc
  have az : ∀ c ∈ gs, c ≠ 40 ∧ c ≠ 41 ∧ c ≠ 44 ∧ c < 128 := fun c hc => by have := hg.az c hc; omega
  unfold rTx at hc
  split at hc
  · rw [List.mem_singleton.mp hc]; decide
  · obtain ⟨l, hl, hcl⟩ := List.mem_flatten.mp hc
    obtain ⟨x, hx, rfl⟩ := List.mem_map.mp hl
    have hxm : ∀ c ∈ x, c ∈ gs := fun c hc => row_mem h x hx c hc
    unfold iTx at hcl
    split at hcl
    · split at hcl
      · simp only [List.mem_cons, List.not_mem_nil, or_false] at hcl
        rcases hcl with rfl | rfl <;> decide
      · simp only [List.mem_append, List.mem_cons, List.not_mem_nil, or_false] at hcl
        rcases hcl with (rfl | h2) | rfl
        · decide
        · exact az c (hxm c h2)
        · decide
    · exact az c (hxm c hcl)
/-- what is asked of the text of a condition: names of one to eight letters, patterns, numbers, texts of templates (a, b; x, y as templates themselves write them) -/
inductive OkS (gs : List Nat) : Cnd.Cd → Prop
  | named {n : List Nat} : 0 < n.length → n.length ≤ 8 → (∀ c ∈ n, 97 ≤ c ∧ c ≤ 122) → OkS gs (.named n)
  | mat {p : List Nat} : Cnd.Pat gs p → p.length ≤ 1000 → OkS gs (.mat p)
  | len {r m : Nat} : r < m → m ≤ 60 → OkS gs (.len r m)
  | tpl {k : Nat} {a b : List Nat} {i j : List (List Nat)} : k ≤ 3 → Row gs i → Row gs j → i.length ≤ 100 → j.length ≤ 100 → Rd gs i a → Rd gs j b → a.length ≤ 1000 → b.length ≤ 1000 → (∀ c ∈ a, c ≠ 40 ∧ c ≠ 41 ∧ c ≠ 44) → (∀ c ∈ b, c ≠ 40 ∧ c ≠ 41 ∧ c ≠ 44) → OkS gs (.tpl k a b (rTx gs i) (rTx gs j))
  | no {c : Cnd.Cd} : OkS gs c → OkS gs (.no c)
  | two {w : Bool} {c d : Cnd.Cd} : OkS gs c → OkS gs d → OkS gs (.two w c d)
/-- the same, as the law writes it -/
inductive OkC (gs : List Nat) : Cnd.Cd → Prop
  | named {n : List Nat} : 0 < n.length → n.length ≤ 8 → (∀ c ∈ n, 97 ≤ c ∧ c ≤ 122) → OkC gs (.named n)
  | mat {p : List Nat} : Cnd.Pat gs p → p.length ≤ 1000 → OkC gs (.mat p)
  | len {r m : Nat} : r < m → m ≤ 60 → OkC gs (.len r m)
  | tpl {k : Nat} {i j : List (List Nat)} : k ≤ 3 → Row gs i → Row gs j → i.length ≤ 100 → j.length ≤ 100 → OkC gs (.tpl k (rTx gs i) (rTx gs j) (rTx gs i) (rTx gs j))
  | no {c : Cnd.Cd} : OkC gs c → OkC gs (.no c)
  | two {w : Bool} {c d : Cnd.Cd} : OkC gs c → OkC gs d → OkC gs (.two w c d)
theorem OkC.src {gs : List Nat} (hg : Good gs) {c : Cnd.Cd} (h : OkC gs c) : OkS gs c := by
  induction h with
  | named a b c => exact .named a b c
  | mat a b => exact .mat a b
  | len a b => exact .len a b
  | tpl hk hi hj li lj => exact .tpl hk hi hj li lj (rd_r hg.lo hi) (rd_r hg.lo hj) (rTx_len hg hi (by omega)) (rTx_len hg hj (by omega)) (fun c hc => ⟨(row_signs hg hi c hc).1, (row_signs hg hi c hc).2.1, (row_signs hg hi c hc).2.2.1⟩) (fun c hc => ⟨(row_signs hg hj c hc).1, (row_signs hg hj c hc).2.1, (row_signs hg hj c hc).2.2.1⟩)
  | no _ ih => exact .no ih
  | two _ _ i j => exact .two i j
/-! ### conditions as data -/
open Cnd in
def cdD : Cd → PyData
  | .named n => .tuple [.str (Str.ofString "named"), .str (S n)]
  | .mat p => .tuple [.str (Str.ofString "match"), .str (S p)]
  | .len r m => .tuple [.str (Str.ofString "length"), .int (r : Nat), .int (m : Nat)]
  | .tpl k _ _ x y => .tuple [.str (kwS k), .str (S x), .str (S y)]
  | .no c => .tuple [.str (Str.ofString "not"), cdD c]
  | .two w a b => .tuple [.str (wdS w), cdD a, cdD b]
theorem dp_cd {K : PySem.W.Frag} {H : Hp} : ∀ {c : Cnd.Cd} {v : V}, CdH H c v → Dp K H v (cdD c)
  | .named n, _, ⟨a, e, h⟩ => by subst e; exact .tup (sqT h) (.cons (.str _) (.cons (.str _) .nil))
  | .mat p, _, ⟨a, e, h⟩ => by subst e; exact .tup (sqT h) (.cons (.str _) (.cons (.str _) .nil))
  | .len r m, _, ⟨a, e, h⟩ => by subst e; exact .tup (sqT h) (.cons (.str _) (.cons (.int _) (.cons (.int _) .nil)))
  | .tpl k _ _ x y, _, ⟨a, e, h⟩ => by subst e; exact .tup (sqT h) (.cons (.str _) (.cons (.str _) (.cons (.str _) .nil)))
  | .no c, _, ⟨a, x, e, h, i⟩ => by subst e; exact .tup (sqT h) (.cons (.str _) (.cons (dp_cd i) .nil))
  | .two w c d, _, ⟨a, x, y, e, h, i, j⟩ => by subst e; exact .tup (sqT h) (.cons (.str _) (.cons (dp_cd i) (.cons (dp_cd j) .nil)))
open Cnd in
/-- all signs are plain -/
def Low : Cd → Prop
  | .named n => ∀ c ∈ n, c < 128
  | .mat p => ∀ c ∈ p, c < 128
  | .len _ _ => True
  | .tpl _ _ _ x y => (∀ c ∈ x, c < 128) ∧ ∀ c ∈ y, c < 128
  | .no c => Low c
  | .two _ a b => Low a ∧ Low b
theorem OkS.low {gs : List Nat} (hg : Good gs) {c : Cnd.Cd} (h : OkS gs c) : Low c := by
  induction h with
  | named _ _ h => exact fun c hc => by have := h c hc; omega
  | mat h _ => exact h.low
  | len _ _ => trivial
  | tpl _ hi hj _ _ _ _ _ _ _ _ => exact ⟨fun c hc => (row_signs hg hi c hc).2.2.2, fun c hc => (row_signs hg hj c hc).2.2.2⟩
  | no _ ih => exact ih
  | two _ _ i j => exact ⟨i, j⟩
theorem lay_kw (k : Nat) : PyData.canLay0 (.str (kwS k)) = true := by
  match k with
  | 0 | 1 | 2 => decide +kernel
  | _ + 3 => exact (by decide +kernel : PyData.canLay0 (.str (Str.ofString "less")) = true)
theorem lay_wd (w : Bool) : PyData.canLay0 (.str (wdS w)) = true := by cases w <;> decide +kernel
theorem lay_cd : ∀ {c : Cnd.Cd}, Low c → PyData.canLay0 (cdD c) = true
  | .named n, h => by show (PyData.canLay0 (.str (Str.ofString "named")) && (PyData.canLay0 (.str (S n)) && true)) = true; rw [lay_str h]; decide +kernel
  | .mat p, h => by show (PyData.canLay0 (.str (Str.ofString "match")) && (PyData.canLay0 (.str (S p)) && true)) = true; rw [lay_str h]; decide +kernel
  | .len r m, _ => by show (PyData.canLay0 (.str (Str.ofString "length")) && (true && (true && true))) = true; decide +kernel
  | .tpl k _ _ x y, ⟨h, i⟩ => by show (PyData.canLay0 (.str (kwS k)) && (PyData.canLay0 (.str (S x)) && (PyData.canLay0 (.str (S y)) && true))) = true; rw [lay_kw, lay_str h, lay_str i]; rfl
  | .no c, h => by
    have h : Low c := h
    show (PyData.canLay0 (.str (Str.ofString "not")) && (PyData.canLay0 (cdD c) && true)) = true; rw [lay_cd h]; decide +kernel
  | .two w a b, h => by
    have h : Low a ∧ Low b := h
    show (PyData.canLay0 (.str (wdS w)) && (PyData.canLay0 (cdD a) && (PyData.canLay0 (cdD b) && true))) = true; rw [lay_wd, lay_cd h.1, lay_cd h.2]; rfl
theorem dep_cd : ∀ (c : Cnd.Cd), PyData.depth (cdD c) ≤ Cnd.dpt c
  | .named _ | .mat _ | .len _ _ | .tpl _ _ _ _ _ => Nat.le_refl _
  | .no c => by
    have := dep_cd c
    show max 0 (max (PyData.depth (cdD c)) 0) + 1 ≤ Cnd.dpt c + 1
    omega
  | .two w a b => by
    have h1 := dep_cd a
    have h2 := dep_cd b
    show max 0 (max (PyData.depth (cdD a)) (max (PyData.depth (cdD b)) 0)) + 1 ≤ max (Cnd.dpt a) (Cnd.dpt b) + 1
    omega
/-! ### what has begun, as it lies -/
def FrV (H : Hp) : Cnd.Fr → V → Prop
  | .no, v => v = .str (Str.ofString "not")
  | .lft _ _, v => v = .str (Str.ofString "(")
  | .rgt w l, v => ∃ a x, v = .ref a ∧ H a = some (.tup [.str (wdS w), x]) ∧ CdH H l x
theorem FrV.keep {H H' : Hp} (k : ∀ a xs, H a = some (.tup xs) → H' a = some (.tup xs)) : ∀ {f : Cnd.Fr} {v : V}, FrV H f v → FrV H' f v
  | .no, _, h => h
  | .lft _ _, _, h => h
  | .rgt _ _, _, ⟨a, x, e, h, i⟩ => ⟨a, x, e, k _ _ h, i.keep k⟩
def FsOk (gs : List Nat) (fs : List Cnd.Fr) : Prop := ∀ f ∈ fs, match f with
  | .no => True
  | .lft _ r => OkS gs r
  | .rgt _ l => OkS gs l
theorem new_ok {gs : List Nat} {c : Cnd.Cd} (h : OkS gs c) : FsOk gs (Cnd.newF c) ∧ OkS gs (Cnd.leafOf c) := by
  induction h with
  | named a b c => exact ⟨fun _ h => (nomatch h), .named a b c⟩
  | mat a b => exact ⟨fun _ h => (nomatch h), .mat a b⟩
  | len a b => exact ⟨fun _ h => (nomatch h), .len a b⟩
  | tpl a b c d e f g h i j k => exact ⟨fun _ h => (nomatch h), .tpl a b c d e f g h i j k⟩
  | no _ ih => exact ⟨fun f hf => (List.mem_cons.mp hf).elim (fun e => by subst e; trivial) (ih.1 f), ih.2⟩
  | two _ hb i _ => exact ⟨fun f hf => (List.mem_cons.mp hf).elim (fun e => by subst e; exact hb) (i.1 f), i.2⟩
end Own

namespace Own
open PySem PySem.Spec PyProof.Rows L2 SX RZ
/-! ### a plain name that takes what a comprehension has made -/
/-- what holds in each frame that a comprehension may run in -/
abbrev InBlk (X : Cx) (scope : Scope) (p : Cx → Prop) : Prop := ∀ (s : Shared) (H : Hp) (C : Addr) (cl : List (Str × Addr)) (fp : List Addr), p (X.blk s H scope (compEnvC scope cl C X.env) fp)
section
variable {X : Cx}
/-- the name takes the new object while the comprehension's frame is still there -/
theorem takes_made {pins : List (Addr × Obj)} {σ : L2.St} {H : Hp} {s : Shared} {i : Nat} {m : Str → Option Value} {y : Str} {py : Pos} {L C : Addr} {D : Ends} (I : Inv X pins σ H s) (hN : X.N.Nodup) (hy : X.N[i]? = some y) (hyl : X.env.scope.names.lookup y = some .local) (hn : s.heap.Ns C m) (hf : FpOk X pins H C)
    (hq : gName i (.ref L) σ H D.nx) : compPost (model X.prog X.w) X.A X.xe (some (assign (.Name y py) X.env)) (fun _ s' => SP X pins D .next s') (.ref L) C (.ok .next) s := by
  show wpAny _ _ (assign (.Name y py) X.env (.ref L)) _ _ _
  have loc : X.env.scope.names.lookup y = some .local ∨ X.env.scope.names.lookup y = some .cell := .inl hyl
  refine wpAny_assign_Name (store_ok2 (v := V.ref L) I hN hy loc rfl (fun s2 I2 ⟨a, sb, ha⟩ => ⟨m, hn.sameBut sb ?_, fun h3 sb3 => ⟨_, H, ?_, hq⟩⟩) (.inr hyl))
  · rcases ha with z | z
    · exact fun e => hf.2.1 (e.trans z)
    · exact fun e => hf.2.2.2.2.1 y a z e.symm
  · exact I2.turned (t' := s2.toks) (fun b o hb e => (sb3.2 b hb).trans e) hf.1 hf.2.1 hf.2.2.2.1 hf.2.2.2.2.1 hf.2.2.2.2.2
theorem sw_trueD {kx vx : Expr} {gs : List Comprehension} {scope : Scope} {pos py : Pos} {y : Str} {l : Nat} {env : Env} (hk : env.scope.kind = .function) (hy : env.scope.names.lookup y = some .local) (hl : (py.line == pos.line) = true)
    (ha : (scope.names.any fun z => z.1 == y && (z.2 == .local || z.2 == .cell)) = false) : swapsWith (.DictComp kx vx gs scope pos) (some (.Name y py)) l env = pure true := by
  have e1 : env.kindOf y = some .local := hy
  have e2 : env.blockKind = .function := by
    show (match env.scope.kind with | k => _) = _
    unfold Env.blockKind at *
    rw [hk]
    rfl
  simp only [swapsWith, e1, e2, Expr.pos, hl, ha]
  rfl
theorem ps_setDc {i : Nat} {y : Str} {py : Pos} {kx vx tg iter : Expr} {ifs : List Expr} {scope : Scope} {own : List (Str × Nat)} {pos spos : Pos} {wi : TI} {g : TG} {tt : TT} {tk tv : TE} (hc : X.calm = true) (hN : X.N.Nodup) (hy : X.N[i]? = some y) (hyl : X.env.scope.names.lookup y = some .local)
    (hsw : swapsWith (.DictComp kx vx [⟨tg, iter, ifs, 0⟩] scope pos) (some (.Name y py)) spos.line X.env = pure true) (hi : PI X tg iter wi) (ok : BlkOk X.N X.env.scope scope own)
    (hg : InBlk X scope fun B => PG B tg g) (ht : InBlk X scope fun B => PTs B ifs tt) (hk : InBlk X scope fun B => PE B kx tk) (he : InBlk X scope fun B => PE B vx tv) (hs : ∀ x, foldedSetIterable iter X.env x = pure x := by intro _; rfl) :
    PS X (.Assign [.Name y py] (.DictComp kx vx [⟨tg, iter, ifs, 0⟩] scope pos) spos) (tAsg (tDc wi g tt tk tv (own.map (·.2))) (gName i)) := by
  refine ⟨fun pins s σ H D I h => ?_⟩
  have made := dc_core (pos := pos) (pos' := firstIterPos [⟨tg, iter, ifs, 0⟩] pos) (use := some (assign (.Name y py) X.env)) (Qf := fun _ s' => SP X pins D .next s') hc hN I hi ok hg ht hk he hs (Q := fun x H1 => gName i x σ H1 D.nx) h
    fun L C s' m H' I' q hn f => takes_made I' hN hy hyl hn f q
  rw [exec_Assign_Name_used _ _ _ _ hsw]
  exact wpAny_bind (wpAny_standAt (wpAny_bind (wpAny_bind (thn made fun _ s' hq => wpAny_pure (wpAny_pure hq)))))
end
/-! ### d.setdefault(k, x), the keys tuples of ints and texts -/
end Own

namespace Own
open PySem PySem.Spec PyProof.Rows L2 SX
/-! ### a & b, a | b, ~a by an own class's dunders -/
section
variable {X : Cx} {CX : CXT} {n : Nat} {C f : Addr} {fd : FuncData} {ps : List Str} {sp : Sp} {E : XK}
end
end Own

namespace Mch
/-! ### the machine of one text -/
section
variable {gs xs : List Nat}
variable {W : List (List Nat)} {T : List Bool}
end
end Mch

namespace Mch
/-! ### two machines side by side -/
/-- the pairs found so far and the rows of the first ones -/
structure Prs (d : Nat) (W V : List (List Nat)) (pairs : List (Nat × Nat)) (made : List (List Nat)) : Prop where
  nd : pairs.Nodup
  zero : pairs[0]? = some (0, 0)
  lt : ∀ p ∈ pairs, p.1 < W.length ∧ p.2 < V.length
  le : made.length ≤ pairs.length
  row : ∀ (i : Nat) (r : List Nat) (p : Nat × Nat), made[i]? = some r → pairs[i]? = some p → r.length = d ∧ ∀ a, a < d → pairs[r.getD a 0]? = some (dl W p.1 a, dl V p.2 a)
section
variable {d : Nat} {W V : List (List Nat)} {pairs : List (Nat × Nat)} {made : List (List Nat)}
theorem Prs.start (oW : Ok d W) (oV : Ok d V) : Prs d W V [(0, 0)] [] :=
  ⟨by simp, rfl, fun p hp => by rw [List.mem_singleton.mp hp]; exact ⟨oW.pos, oV.pos⟩, by simp, fun i r p h => by simp at h⟩
theorem prod_nodup {n m : Nat} {l : List (Nat × Nat)} (nd : l.Nodup) (h : ∀ p ∈ l, p.1 < n ∧ p.2 < m) : l.length ≤ n * m := by
  have hinj : ∀ p ∈ l, ∀ q ∈ l, p.1 * m + p.2 = q.1 * m + q.2 → p = q := by
    intro p hp q hq e
    have h1 := (h p hp).2
    have h2 := (h q hq).2
    have m0 : 0 < m := by omega
    have e1 : p.1 = q.1 := by
      have a1 : (p.1 * m + p.2) / m = p.1 := by rw [Nat.add_comm, Nat.add_mul_div_right _ _ m0, Nat.div_eq_of_lt h1, Nat.zero_add]
      have a2 : (q.1 * m + q.2) / m = q.1 := by rw [Nat.add_comm, Nat.add_mul_div_right _ _ m0, Nat.div_eq_of_lt h2, Nat.zero_add]
      rw [← a1, ← a2, e]
    have e2 : p.2 = q.2 := by rw [e1] at e; omega
    exact Prod.ext e1 e2
  have nd2 : (l.map fun p => p.1 * m + p.2).Nodup := by
    refine List.pairwise_map.mpr (List.Pairwise.imp_of_mem ?_ nd)
    intro p q hp hq ne e
    exact ne (hinj p hp q hq e)
  have := nodup_len nd2 (n := n * m) fun x hx => by
    obtain ⟨p, hp, rfl⟩ := List.mem_map.mp hx
    obtain ⟨h1, h2⟩ := h p hp
    have : (p.1 + 1) * m ≤ n * m := Nat.mul_le_mul_right m h1
    rw [Nat.succ_mul] at this
    omega
  rw [List.length_map] at this
  exact this
theorem Prs.few (h : Prs d W V pairs made) : pairs.length ≤ W.length * V.length := prod_nodup h.nd h.lt
/-- a pair that is new -/
theorem Prs.more (h : Prs d W V pairs made) {p : Nat × Nat} (hn : p ∉ pairs) (hp : p.1 < W.length ∧ p.2 < V.length) : Prs d W V (pairs ++ [p]) made := by
  refine ⟨?_, ?_, ?_, ?_, ?_⟩
  · refine List.nodup_append.mpr ⟨h.nd, by simp, fun x hx y hy e => ?_⟩
    rw [List.mem_singleton.mp hy] at e
    exact hn (e ▸ hx)
  · have := (List.getElem?_eq_some_iff.mp h.zero).1
    rw [List.getElem?_append_left this]
    exact h.zero
  · intro q hq
    rcases List.mem_append.mp hq with z | z
    · exact h.lt q z
    · rw [List.mem_singleton.mp z]; exact hp
  · rw [List.length_append]; have := h.le; omega
  · intro i r q hr hq
    have hi : i < pairs.length := Nat.lt_of_lt_of_le (List.getElem?_eq_some_iff.mp hr).1 h.le
    rw [List.getElem?_append_left hi] at hq
    obtain ⟨h1, h2⟩ := h.row i r q hr hq
    refine ⟨h1, fun a ha => ?_⟩
    have := h2 a ha
    rw [List.getElem?_append_left (List.getElem?_eq_some_iff.mp this).1]
    exact this
/-- a row is done -/
theorem Prs.done (h : Prs d W V pairs made) {p : Nat × Nat} {r : List Nat} (hp : pairs[made.length]? = some p) (hr : r.length = d) (hg : ∀ a, a < d → pairs[r.getD a 0]? = some (dl W p.1 a, dl V p.2 a)) : Prs d W V pairs (made ++ [r]) := by
  refine ⟨h.nd, h.zero, h.lt, by rw [List.length_append]; exact (List.getElem?_eq_some_iff.mp hp).1, fun i r' q hr' hq => ?_⟩
  by_cases hi : i < made.length
  · rw [List.getElem?_append_left hi] at hr'
    exact h.row i r' q hr' hq
  · have hl := (List.getElem?_eq_some_iff.mp hr').1
    rw [List.length_append] at hl
    have e1 : [r].length = 1 := rfl
    have ei : i = made.length := by omega
    subst ei
    rw [List.getElem?_append_right (Nat.le_refl _), Nat.sub_self] at hr'
    cases hr'
    rw [hp] at hq
    cases hq
    exact ⟨hr, hg⟩
/-- all rows are done -/
theorem Prs.ok (h : Prs d W V pairs made) (e : made.length = pairs.length) : Ok d made := by
  have h0 := (List.getElem?_eq_some_iff.mp h.zero).1
  refine ⟨by omega, fun x hx => ?_, fun x hx t ht => ?_⟩
  · obtain ⟨i, hi⟩ := List.mem_iff_getElem?.mp hx
    have hl := (List.getElem?_eq_some_iff.mp hi).1
    exact (h.row i x _ hi (List.getElem?_eq_getElem (by omega))).1
  · obtain ⟨i, hi⟩ := List.mem_iff_getElem?.mp hx
    have hl := (List.getElem?_eq_some_iff.mp hi).1
    obtain ⟨h1, h2⟩ := h.row i x _ hi (List.getElem?_eq_getElem (by omega))
    obtain ⟨a, ha⟩ := List.mem_iff_getElem?.mp ht
    have hal := (List.getElem?_eq_some_iff.mp ha).1
    have h3 := h2 a (by omega)
    rw [List.getD_eq_getElem?_getD, ha] at h3
    have := (List.getElem?_eq_some_iff.mp h3).1
    rw [e]
    exact this
theorem Prs.walk (h : Prs d W V pairs made) (e : made.length = pairs.length) : ∀ {w : List Nat} {i : Nat} {p : Nat × Nat}, (∀ a ∈ w, a < d) → pairs[i]? = some p → pairs[wk made i w]? = some (wk W p.1 w, wk V p.2 w)
  | [], _, _, _, hp => hp
  | a :: w, i, p, hw, hp => by
    have hi := (List.getElem?_eq_some_iff.mp hp).1
    have hr : made[i]? = some made[i] := List.getElem?_eq_getElem (by omega)
    obtain ⟨_, h2⟩ := h.row i _ p hr hp
    have h3 := h2 a (hw a (List.mem_cons_self ..))
    have ed : dl made i a = made[i].getD a 0 := by
      rw [dl_eq, show rowOf made i = made[i] by
        unfold rowOf
        rw [List.getD_eq_getElem?_getD, hr]
        rfl]
    show pairs[Mch.wk made (dl made i a) w]? = _
    rw [ed]
    exact Prs.walk h e (p := (dl W p.1 a, dl V p.2 a)) (fun b hb => hw b (List.mem_cons_of_mem _ hb)) h3
/-- the answers of the pairs -/
theorem Prs.answer {κ : Type} {dA : κ} {g : Nat × Nat → κ} (h : Prs d W V pairs made) (e : made.length = pairs.length) {w : List Nat} (hw : ∀ a ∈ w, a < d) : (pairs.map g).getD (wk made 0 w) dA = g (wk W 0 w, wk V 0 w) := by
  have := h.walk e hw h.zero
  rw [List.getD_eq_getElem?_getD, List.getElem?_map, this]
  rfl
end
end Mch

namespace Own
open PySem PySem.Spec PyProof.Rows L2 SX RZ
/-! ### zip of two lists or of two tuples, its pairs kept: what was given out may be there still, or not -/
section
variable {prog : Program} {w : World} {A : Around} {E : Value → Shared → Prop} {s : Shared} {z TI TO i1 i2 : Addr} {f1 f2 : List Addr} {n1 n2 i : Nat} {P1 P2 : Nat → Value → Prop} {S1 S2 : Nat → Heap → Prop} {a1 a2 v : Value} {b : Bool}
end
def ItQ (q : Bool) (h : Heap) (it a : Addr) (i : Nat) : Prop := if q = true then h.IsTupleIter it a i else h.IsListIter it a i
theorem ItQ.at {q : Bool} {h h' : Heap} {it a : Addr} {i : Nat} (t : ItQ q h it a i) (k : ∀ o, h.get? it = some o → h'.get? it = some o) : ItQ q h' it a i := by
  cases q
  · obtain ⟨o, e, r⟩ := t
    exact ⟨o, k o e, r⟩
  · obtain ⟨o, e, r⟩ := t
    exact ⟨o, k o e, r⟩
theorem ItQ.obj {q : Bool} {h : Heap} {it a : Addr} {i : Nat} (t : ItQ q h it a i) : ∃ o, h.get? it = some o ∧ ∀ v, o.data ≠ .cell v := by
  cases q
  · obtain ⟨o, e, _, r⟩ := t
    exact ⟨o, e, fun v z => by rw [r] at z; cases z⟩
  · obtain ⟨o, e, _, r⟩ := t
    exact ⟨o, e, fun v z => by rw [r] at z; cases z⟩
section
variable {X : Cx} {pins : List (Addr × Obj)} {σ : L2.St} {H : Hp} {s : Shared} {a it : Addr} {xs ys : List V} {q : Bool}
end
/-! ### {(a, b): c} -/
end Own

namespace Own
open PySem PySem.Spec PyProof.Rows L2 SX LamX NdefX
/-! ### functions that are handed to a def -/
section
variable {X : Cx} {pins : List (Addr × Obj)} {σ : L2.St} {H : Hp} {s : Shared} {cl : List (Str × Addr)} {fr : List Str} {ws : List (Option V)}
end
/-- the promise of a lambda -/
structure LOk (P : Program) (w : World) (K : PySem.W.Frag) (mg : Str → Option Value) (base : Heap) (CX : CXT) (k : Nat) (f : Addr) (F : LF) (ps fr : List Str) (sp : List (Option V) → Sp) : Prop where
  len : ∀ ws vs H Q E, sp ws vs H Q E → vs.length = ps.length
  run : ∀ (A : Around) (outer : List Env) (s : Shared) (H : Hp) (us : List Value) (vs : List V) (ws : List (Option V)) (Q : VK) (E : XK), Room k A → Env0 P w K mg base A outer s H → LamAt H f F →
    CellsAt F.cl fr ws s.heap H → Vals vs us → sp ws vs H Q E → codeAny (model P w) A (.call (.ref f) ⟨us, []⟩) (CR CX outer P w H s Q E) s
theorem LOk.mono {P : Program} {w : World} {K : PySem.W.Frag} {mg : Str → Option Value} {base : Heap} {CX : CXT} {j k : Nat} {f : Addr} {F : LF} {ps fr : List Str} {sp : List (Option V) → Sp} (o : LOk P w K mg base CX j f F ps fr sp) (h : j ≤ k) : LOk P w K mg base CX k f F ps fr sp := ⟨o.len, fun A outer s H us vs ws Q E hr => o.run A outer s H us vs ws Q E (hr.mono h)⟩
/-! ### what a frame may call -/
section
variable {X : Cx} {f : Addr} {sp : Sp} {at_ : Hp → Prop} {i j k : Nat} {x y : Str} {t : TA} {e : Expr} {es : List Expr} {p q pos : Pos}
end
/-! ### {a: b}, a a tuple of any kind -/
section
variable {X : Cx} {κ : Type} [DecidableEq κ] {P : Program} {w : World} {knd : PySem.HeapKind P w κ} {kin : Hp → κ → Addr → Prop}
end
end Own

namespace Own
open PySem PySem.Spec PyProof.Rows L2 SX LamX NdefX
/-! ### a lambda as a value, in a def that makes other functions too -/
section
variable {X : Cx} {pins : List (Addr × Obj)} {σ : L2.St} {H : Hp} {s : Shared}
end
end Own

namespace Own
open PySem PySem.Spec PyProof.Rows L2 SX LamX NdefX
/-! ### a nested def with cells of its own beside the captured ones -/
section
variable {M : Model} {A : Around} {E : Value → Shared → Prop} {s₀ s : Shared} {m cm : Str → Option Value} {env : Env} {cs : List (Str × Addr)}
end
section
variable {CX : CXT} {P : Program} {w : World} {K : PySem.W.Frag} {mg : Str → Option Value} {base : Heap} {N ps fr : List Str} {F : NF} {f : Addr} {k j : Nat} {sp sp' : List (Option V) → Sp} {A : Around} {outer : List Env} {s s1 : Shared} {H : Hp} {E : XK} {us : List Value} {vs : List V} {ws : List (Option V)}
end
end Own

namespace Own
open PySem PySem.Spec PyProof.Rows L2 SX RZ
/-! ### set(l) of a list of whole numbers, with what sorted(set(l)) asks of it -/
section
variable {P : Program} {w : World} {A : Around} {E : Value → Shared → Prop} {s : Shared}
end
section
variable {X : Cx} {K : PySem.W.Frag}
end
end Own

namespace Own
open PySem PySem.Spec PyProof.Rows L2 SX LamX NdefX
/-! ### a nested def that calls another one: the other one's cells beside its own -/
structure NO2 (P : Program) (w : World) (K : PySem.W.Frag) (mg : Str → Option Value) (base : Heap) (CX : CXT) (k : Nat) (f : Addr) (F : NF) (ps fr : List Str) (sp : List (Option V) → Sp) (cl2 : List (Str × Addr)) (fr2 : List Str) (ws2 : List (Option V)) : Prop where
  len : ∀ ws vs H Q E, sp ws vs H Q E → vs.length = ps.length
  run : ∀ (A : Around) (outer : List Env) (s : Shared) (H : Hp) (us : List Value) (vs : List V) (ws : List (Option V)) (Q : VK) (E : XK), Room k A → Env0 P w K mg base A outer s H → H f = some (FnO f F) → H F.c = some (CodeO F.c F.qual) →
    CellsAt F.cl fr ws s.heap H → CellsAt cl2 fr2 ws2 s.heap H → Vals vs us → sp ws vs H Q E → codeAny (model P w) A (.call (.ref f) ⟨us, []⟩) (CR CX outer P w H s Q E) s
section
variable {CX : CXT} {P : Program} {w : World} {K : PySem.W.Frag} {mg : Str → Option Value} {base : Heap} {N ps fr fr2 : List Str} {F : NF} {f : Addr} {k j : Nat} {sp : List (Option V) → Sp} {cl2 : List (Str × Addr)} {ws2 : List (Option V)}
theorem NO2.mono (o : NO2 P w K mg base CX j f F ps fr sp cl2 fr2 ws2) (h : j ≤ k) : NO2 P w K mg base CX k f F ps fr sp cl2 fr2 ws2 := ⟨o.len, fun A outer s H us vs ws Q E hr => o.run A outer s H us vs ws Q E (hr.mono h)⟩
end
end Own

namespace Own
open PySem PySem.Spec PyProof.Rows L2 SX LamX NdefX
section
variable {X : Cx}
end
end Own

namespace Own
open PySem PySem.Spec PyProof.Rows L2 SX RZ
def topS (i : Nat) : Stmt :=
  PySem.Challenge.pw_ownfill_k38_texts_of_conditions.main.body.getD i (.Pass ⟨0, 0, 0, 0⟩)
section
variable {P : Program} {w : World} {K : PySem.W.Frag} {mg : Str → Option Value} {base : Heap}
abbrev sDraws : Stmt := topS 49
theorem scDraws : FnScope ["_law_script", "_law_state", "_law_cell"] ["_law_script"] (defScope sDraws) :=
  ⟨rfl, rfl, rfl, by decide +kernel, rfl, by decide +kernel, by decide +kernel⟩
theorem ok_draws {f : Addr} {fd : FuncData} (F : Fun K "_law_draws" "_law_draws" sDraws f fd)
    (mi : mg "int" = none) (ml : mg "list" = none) :
    FnOk P w K mg base CX0 1 f fd ["_law_script"] (spDraws K) := by
  refine F.ok scDraws (fun vs H Q E h => ?_) (fun cdv A outer s H vs Q E hr h => ?_)
  · obtain ⟨a, ns, rfl, _⟩ := h
    rfl
  · obtain ⟨a, ns, rfl, hS, q⟩ := h
    refine ⟨_, pss_cons (ps_set (i := 1) scDraws.nd rfl (.inl rfl) pe_int)
      (pss_cons (ps_for PassesOwn.never rfl
          (pi_list (pe_slice sl_list (pv 0) po_none (po_some pe_int)))
          (pg_name (i := 2) scDraws.nd rfl (.inl rfl))
          (pss_one (ps_set (i := 1) scDraws.nd rfl (.inl rfl)
            (pe_op op_mod (pe_callTy call_int1 (by rfl) mi (by decide +kernel) (pa_cons
              (pe_op op_add (pe_op op_add (pe_op op_mul (pv 1) pe_int)
                (pe_op op_mod (pe_callTy call_int1 (by rfl) mi (by decide +kernel) (pa_cons (pv 2) pa_nil)) pe_int))
                pe_int) pa_nil)) pe_int))))
      (pss_one (ps_ret (pe_lst (pa_cons (pe_callTy call_list_of (by rfl) ml (by decide +kernel)
          (pa_cons (pe_slice sl_list (pv 0) po_none (po_some pe_int)) pa_nil))
        (pa_cons pe_int (pa_cons pe_int (pa_cons (pv 1) (pa_cons pe_int pa_nil))))))))), ?_⟩
    refine ⟨.ref a, rfl, 63, rfl, a, ns.map V.int, rfl, hS, fun p np => ?_⟩
    have hcut : cutV (ns.map V.int) none (some 63) = (ns.take 63).map V.int := by
      unfold cutV
      rw [HT.sIx_none, show HT.sIx (ns.map V.int).length (ns.map V.int).length (some 63) =
        min 63 (ns.map V.int).length from HT.sIx_nat _ _ 63, List.drop_zero, Nat.sub_zero,
        ← List.map_take]
      congr 1
      rw [List.length_map, List.take_eq_take_iff]
      omega
    rw [hcut]
    have s1 : Same H (upd H p (.lst ((ns.take 63).map V.int))) := fun b o e => by
      rw [upd_ne (ne_of_none e np)]; exact e
    refine ⟨p, rfl, ⟨_, .inl (.inl upd_same)⟩, for_list (K := K) (a := p) (xs := (ns.take 63).map V.int)
      (fun i σ H' => ∃ (st : Int) (v : Option V), σ = [some (.ref a), some (.int st), v] ∧
        H' = upd H p (.lst ((ns.take 63).map V.int)))
      ⟨3833, none, rfl, rfl⟩ (fun i σ H' _ ⟨_, _, _, e⟩ => by rw [e]; exact .inl (.inl upd_same)) ?_ ?_⟩
    · rintro i y σ H' hi ⟨st, v, rfl, rfl⟩
      obtain ⟨u, rfl⟩ : ∃ u, y = V.int u := by
        rw [List.getElem?_map] at hi
        cases e : (ns.take 63)[i]? with
        | none => rw [e] at hi; cases hi
        | some u => rw [e] at hi; exact ⟨u, (Option.some.inj hi).symm⟩
      refine ⟨_, rfl, _, _, rfl, rfl, .inr ⟨by decide, by decide⟩, _, rfl, .inl ⟨_, rfl, _, _, rfl, rfl,
        (by show (0 : Int) < 2147483587; decide), _, _, rfl, rfl, _, _, rfl, rfl, .inl ⟨_, rfl, _, _, rfl, rfl,
        (by show (0 : Int) < 2147483647; decide), ?_⟩⟩⟩
      exact ⟨_, _, rfl, rfl⟩
    · rintro σ H' ⟨st, v, rfl, rfl⟩
      refine ⟨.ref a, rfl, 63, rfl, a, ns.map V.int, rfl, s1.seq hS, fun p2 np2 => ?_⟩
      rw [hcut]
      refine ⟨p2, _, rfl, .inl (.inl (.inl upd_same)), fun l nl => ?_⟩
      refine ⟨.int st, rfl, (by show 5 ≤ sizeLine; decide), fun r nr => ?_⟩
      have s2 := fun b o (e : H b = some o) => s1 b o e
      refine q _ r (fun b o e => ?_) ?_ ?_
      · have e1 := s1 b o e
        have e2 : (upd (upd H p (.lst ((ns.take 63).map V.int))) p2 (.lst ((ns.take 63).map V.int))) b = some o := by
          rw [upd_ne (ne_of_none e1 np2)]; exact e1
        have e3 : (upd (upd (upd H p (.lst ((ns.take 63).map V.int))) p2 (.lst ((ns.take 63).map V.int))) l
            (.lst ((ns.take 63).map V.int))) b = some o := by
          rw [upd_ne (ne_of_none e2 nl)]; exact e2
        rw [upd_ne (ne_of_none e3 nr)]
        exact e3
      · cases e : H r with
        | none => rfl
        | some o =>
          have e1 := s1 r o e
          have e2 : (upd (upd H p (.lst ((ns.take 63).map V.int))) p2 (.lst ((ns.take 63).map V.int))) r = some o := by
            rw [upd_ne (ne_of_none e1 np2)]; exact e1
          rw [upd_ne (ne_of_none e2 nl)] at nr
          rw [e2] at nr
          cases nr
      · refine ⟨l, ns.take 63, 0, 0, st, 0, Int.le_refl 0, upd_same, ?_⟩
        have nlr : l ≠ r := fun e => by
          rw [← e, upd_same] at nr
          cases nr
        rw [upd_ne nlr, upd_same]
abbrev sDraw : Stmt := topS 50
theorem scDraw : FnScope ["_law_rng", "_law_sides", "_law_cell", "_law_digit", "_law_seed"]
    ["_law_rng", "_law_sides"] (defScope sDraw) :=
  ⟨rfl, rfl, rfl, by decide +kernel, rfl, by decide +kernel, by decide +kernel⟩
theorem ok_draw {f : Addr} {fd : FuncData} (F : Fun K "_law_draw" "_law_draw" sDraw f fd)
    (mi : mg "int" = none) (ml : mg "len" = none) :
    FnOk P w K mg base CX0 1 f fd ["_law_rng", "_law_sides"] spDraw := by
  refine F.ok scDraw (fun vs H Q E h => ?_) (fun cdv A outer s H vs Q E hr h => ?_)
  · obtain ⟨r, n, rfl, _⟩ := h
    rfl
  · obtain ⟨r, n, rfl, hn, hn2, ⟨l, ns, i, b, z, c, R⟩, q⟩ := h
    have R0 : RngL H r l := ⟨ns, i, b, z, c, R⟩
    refine ⟨_, pss_cons (ps_asg (pe_op op_add (pe_ix ix_list (pv 0) pe_int (fun _ _ => rfl)) pe_int)
        (pg_sub (pv 0) pe_int set_list))
      (C8.pss_cut (ps_if (PW.pt (pw_and (pt_cmpR op_eq (pe_ix ix_list (pv 0) pe_int (fun _ _ => rfl)) pe_int (nomark _))
          (pw_and1 (pt_cmpR op_lt (pe_ix ix_list (pv 0) pe_int (fun _ _ => rfl))
            (pe_callB call_len_seq (by rfl) ml PySem.boot_len (pa_cons (pe_ix ix_list (pv 0) pe_int (fun _ _ => rfl)) pa_nil))
            (nomark _)))))
        (pss_cons (ps_set (i := 2) scDraw.nd rfl (.inl rfl)
            (pe_ix ix_list (pe_ix ix_list (pv 0) pe_int (fun _ _ => rfl)) (pe_ix ix_list (pv 0) pe_int (fun _ _ => rfl)) (fun _ _ => rfl)))
        (pss_cons (ps_asg (pe_op op_add (pe_ix ix_list (pv 0) pe_int (fun _ _ => rfl)) pe_int) (pg_sub (pv 0) pe_int set_list))
        (pss_one (ps_if (pt_cmpR op_ge (pv 2) (pe_op op_pow pe_int pe_int) (nomark _))
          (pss_one (ps_asg (pv 2) (pg_sub (pv 0) pe_int set_list)))
          (pss_one (ps_asg (pe_op op_mod (pe_callTy call_int1 (by rfl) mi (by decide +kernel) (pa_cons
              (pe_op op_add (pe_op op_add (pe_op op_mul (pe_ix ix_list (pv 0) pe_int (fun _ _ => rfl)) pe_int)
                (pe_op op_mul (pe_op op_mod (pe_callTy call_int1 (by rfl) mi (by decide +kernel) (pa_cons (pv 2) pa_nil)) pe_int) pe_int))
                pe_int) pa_nil)) pe_int) (pg_sub (pv 0) pe_int set_list)))))))
        pss_nil)
      (pss_cons (ps_if (pt_cmpR op_gt (pe_ix ix_list (pv 0) pe_int (fun _ _ => rfl)) pe_int (nomark _))
        (pss_cons (ps_set (i := 3) scDraw.nd rfl (.inl rfl) (pe_op op_mod (pe_callTy call_int1 (by rfl) mi (by decide +kernel)
            (pa_cons (pe_ix ix_list (pv 0) pe_int (fun _ _ => rfl)) pa_nil)) (pv 1)))
        (pss_cons (ps_asg (pe_op op_fdiv (pe_ix ix_list (pv 0) pe_int (fun _ _ => rfl)) (pv 1)) (pg_sub (pv 0) pe_int set_list))
        (pss_one (ps_ret (pv 3))))) pss_nil)
      (pss_cons (ps_set (i := 4) scDraw.nd rfl (.inl rfl) (pe_ix ix_list (pv 0) pe_int (fun _ _ => rfl)))
      (pss_cons (ps_asg (pe_op op_mod (pe_callTy call_int1 (by rfl) mi (by decide +kernel) (pa_cons
          (pe_op op_add (pe_op op_add (pe_op op_add (pe_op op_mul (pv 4) pe_int)
            (pe_op op_mul (pe_op op_fdiv (pv 4) pe_int) pe_int))
            (pe_op op_mul (pe_ix ix_list (pv 0) pe_int (fun _ _ => rfl)) pe_int)) pe_int) pa_nil)) pe_int)
          (pg_sub (pv 0) pe_int set_list))
      (pss_one (ps_ret (pe_op op_mod (pe_callTy call_int1 (by rfl) mi (by decide +kernel) (pa_cons
          (pe_op op_add (pe_op op_fdiv (pe_ix ix_list (pv 0) pe_int (fun _ _ => rfl)) pe_int)
            (pe_op op_mul (pe_op op_mod (pe_callTy call_int1 (by rfl) mi (by decide +kernel)
              (pa_cons (pe_ix ix_list (pv 0) pe_int (fun _ _ => rfl)) pa_nil)) pe_int) pe_int)) pa_nil)) (pv 1)))))))), ?_⟩
    have at0 : ∀ {l : Addr} {i b z c : Int}, atI [V.ref l, .int i, .int b, .int z, .int c] 0 = some (.ref l) := atI_nat (j := 0) rfl
    have at1 : ∀ {l : Addr} {i b z c : Int}, atI [V.ref l, .int i, .int b, .int z, .int c] 1 = some (.int i) := atI_nat (j := 1) rfl
    have at2 : ∀ {l : Addr} {i b z c : Int}, atI [V.ref l, .int i, .int b, .int z, .int c] 2 = some (.int b) := atI_nat (j := 2) rfl
    have at3 : ∀ {l : Addr} {i b z c : Int}, atI [V.ref l, .int i, .int b, .int z, .int c] 3 = some (.int z) := atI_nat (j := 3) rfl
    have at4 : ∀ {l : Addr} {i b z c : Int}, atI [V.ref l, .int i, .int b, .int z, .int c] 4 = some (.int c) := atI_nat (j := 4) rfl
    -- rng[4] += 1
    refine ⟨_, rfl, r, _, 4, _, rfl, rfl, SqL.of R.2.1, at4, _, _, rfl, rfl, _, rfl, r, _, 4, 4, rfl, rfl, R.2.1, rfl, ?_⟩
    have R1 : RngV (upd H r (.lst [.ref l, .int i, .int b, .int z, .int (c + 1)])) r l ns i b z (c + 1) := R.put R.1
    have g1 : ∀ x o, x ≠ r → H x = some o → upd H r (.lst [.ref l, .int i, .int b, .int z, .int (c + 1)]) x = some o :=
      fun x o nx e => by rw [upd_ne nx]; exact e
    refine ⟨fun σ H' => ∃ v2 v3 v4, σ = [some (.ref r), some (.int n), v2, v3, v4] ∧
      (∀ x o, x ≠ r → H x = some o → H' x = some o) ∧ RngL H' r l, ?_, ?_⟩
    · -- the script's next cell
      refine ⟨_, rfl, r, _, 2, _, rfl, rfl, SqL.of R1.2.1, at2, rfl, _, rfl, ?_⟩
      refine ite2 (fun _ => ?_) (fun _ => iteF ⟨none, none, none, rfl, g1, _, _, _, _, _, R1⟩)
      refine ⟨_, rfl, r, _, 1, _, rfl, rfl, SqL.of R1.2.1, at1, _, rfl, r, _, 0, _, rfl, rfl, SqL.of R1.2.1, at0,
        l, _, rfl, .inl (SqL.of R1.2.2), _, _, rfl, rfl, _, rfl, ?_⟩
      refine ite2 (fun hlt => ?_) (fun _ => ⟨none, none, none, rfl, g1, _, _, _, _, _, R1⟩)
      have hlt2 : i < ((ns.map V.int).length : Int) := of_decide_eq_true hlt
      rw [List.length_map] at hlt2
      obtain ⟨j, rfl⟩ := Int.eq_ofNat_of_zero_le R.1
      have hj : j < ns.length := by omega
      have gj : (ns.map V.int)[j]? = some (.int ns[j]) := by
        rw [List.getElem?_map, List.getElem?_eq_getElem hj]; rfl
      refine ⟨_, rfl, r, _, 0, _, rfl, rfl, SqL.of R1.2.1, at0, _, rfl, r, _, 1, _, rfl, rfl, SqL.of R1.2.1, at1,
        l, _, _, _, rfl, rfl, SqL.of R1.2.2, atI_nat gj, ?_⟩
      refine ⟨_, rfl, r, _, 1, _, rfl, rfl, SqL.of R1.2.1, at1, _, _, rfl, rfl, _, rfl, r, _, 1, 1, rfl, rfl, R1.2.1, rfl, ?_⟩
      have R2 := R1.put (i' := (j : Int) + 1) (b' := b) (s' := z) (c' := c + 1) (by omega)
      have g2 : ∀ x o, x ≠ r → H x = some o →
          upd (upd H r (.lst [.ref l, .int (j : Int), .int b, .int z, .int (c + 1)])) r
            (.lst [.ref l, .int ((j : Int) + 1), .int b, .int z, .int (c + 1)]) x = some o :=
        fun x o nx e => by rw [upd_ne nx]; exact g1 x o nx e
      refine ⟨_, rfl, _, _, rfl, rfl, ⟨by decide, by decide, by decide⟩, _, _, rfl, rfl, _, rfl, ?_⟩
      refine ite2 (fun _ => ?_) (fun _ => ?_)
      · refine ⟨_, rfl, _, rfl, r, _, 2, 2, rfl, rfl, R2.2.1, rfl, ?_⟩
        exact ⟨_, none, none, rfl, fun x o nx e => by rw [upd_ne nx]; exact g2 x o nx e, _, _, _, _, _, R2.put (by omega)⟩
      · refine ⟨_, rfl, r, _, 3, _, rfl, rfl, SqL.of R2.2.1, at3, _, _, rfl, rfl, .inr ⟨by decide, by decide⟩, _, rfl,
          .inl ⟨_, rfl, _, _, rfl, rfl, (by show (0 : Int) < 2147483579; decide), _, _, rfl, rfl, .inr ⟨by decide, by decide⟩,
          _, _, rfl, rfl, _, _, rfl, rfl, .inl ⟨_, rfl, _, _, rfl, rfl, (by show (0 : Int) < 2147483647; decide),
          _, rfl, r, _, 3, 3, rfl, rfl, R2.2.1, rfl, ?_⟩⟩⟩
        exact ⟨_, none, none, rfl, fun x o nx e => by rw [upd_ne nx]; exact g2 x o nx e, _, _, _, _, _, R2.put (by omega)⟩
    · rintro σ H' ⟨v2, v3, v4, rfl, g, ns, i, b, z, c, R⟩
      refine ⟨_, rfl, r, _, 2, _, rfl, rfl, SqL.of R.2.1, at2, _, _, rfl, rfl, _, rfl, ?_⟩
      refine ite2 (fun hb => ?_) (fun _ => ?_)
      · refine ⟨_, rfl, r, _, 2, _, rfl, rfl, SqL.of R.2.1, at2, .inl ⟨_, rfl, _, rfl, _, _, rfl, rfl, hn, ?_⟩⟩
        refine ⟨_, rfl, r, _, 2, _, rfl, rfl, SqL.of R.2.1, at2, _, rfl, _, _, rfl, rfl, ⟨hn, by omega⟩, _, rfl, r, _, 2, 2, rfl, rfl, R.2.1, rfl, ?_⟩
        refine ⟨_, rfl, q _ _ ⟨fun x o nx e => by rw [upd_ne nx]; exact g x o nx e, l, R0, _, _, _, _, _, R.put R.1⟩ ?_ ?_⟩
        · exact Int.emod_nonneg _ (by omega)
        · exact Int.emod_lt_of_pos _ hn
      · refine ⟨_, rfl, r, _, 3, _, rfl, rfl, SqL.of R.2.1, at3, ?_⟩
        refine ⟨_, rfl, _, _, rfl, rfl, .inr ⟨by decide, by decide⟩, _, rfl, _, _, rfl, rfl, ⟨by decide, by decide⟩,
          _, _, rfl, rfl, .inr ⟨by decide, by decide⟩, _, _, rfl, rfl, _, rfl, r, _, 4, _, rfl, rfl, SqL.of R.2.1, at4,
          _, _, rfl, rfl, .inr ⟨by decide, by decide⟩, _, _, rfl, rfl, _, _, rfl, rfl, .inl ⟨_, rfl, _, _, rfl, rfl,
          (by show (0 : Int) < 2147483647; decide), _, rfl, r, _, 3, 3, rfl, rfl, R.2.1, rfl, ?_⟩⟩
        have R2 := fun z' => R.put (i' := i) (b' := b) (s' := z') (c' := c) R.1
        refine ⟨_, rfl, r, _, 3, _, rfl, rfl, SqL.of (R2 _).2.1, at3, _, _, rfl, rfl, ⟨by decide, by decide⟩, _, rfl, r, _, 3, _, rfl, rfl,
          SqL.of (R2 _).2.1, at3, .inl ⟨_, rfl, _, _, rfl, rfl, (by show (0 : Int) < 7907; decide), _, _, rfl, rfl, .inr ⟨by decide, by decide⟩,
          _, _, rfl, rfl, .inl ⟨_, rfl, _, rfl, _, _, rfl, rfl, hn, ?_⟩⟩⟩
        refine q _ _ ⟨fun x o nx e => by rw [upd_ne nx]; exact g x o nx e, l, R0, _, _, _, _, _, R2 _⟩ ?_ ?_
        · exact Int.emod_nonneg _ (by omega)
        · exact Int.emod_lt_of_pos _ hn
abbrev sPick : Stmt := topS 51
theorem scPick : FnScope ["_law_rng", "_law_things"] ["_law_rng", "_law_things"] (defScope sPick) :=
  ⟨rfl, rfl, rfl, by decide +kernel, rfl, by decide +kernel, by decide +kernel⟩
theorem ok_pick {f fD : Addr} {fd fdD : FuncData} (F : Fun K "_law_pick" "_law_pick" sPick f fd)
    (FD : Fun K "_law_draw" "_law_draw" sDraw fD fdD) (bD : Binds K fdD ["_law_rng", "_law_sides"] [])
    (gD : mg "_law_draw" = some (.ref fD)) (mi : mg "int" = none) (ml : mg "len" = none) :
    FnOk P w K mg base CX0 2 f fd ["_law_rng", "_law_things"] (spPick K) := by
  have GD : FnOk P w K mg base CX0 1 fD fdD ["_law_rng", "_law_sides"] spDraw := ok_draw FD mi ml
  refine F.ok scPick (fun vs H Q E h => ?_) (fun cdv A outer s H vs Q E hr h => ?_)
  · obtain ⟨r, x, rfl, _⟩ := h
    rfl
  · obtain ⟨r, x, rfl, R, h⟩ := h
    refine ⟨_, pss_one (ps_ret (pe_ix ix_seq (pv 1) (pe_call GD hr (by rfl) gD FD.kp bD .nil pass0
      (pa_cons (pv 0) (pa_cons (pe_callB call_len (by rfl) ml PySem.boot_len (pa_cons (pv 1) pa_nil)) pa_nil)))
      (fun _ _ => rfl))), ?_⟩
    rcases h with ⟨a, xs, rfl, nar, hS, h0, h1, q⟩ | ⟨cs, rfl, h0, h1, q⟩
    · refine ⟨_, rfl, _, rfl, _, rfl, _, xs.length, rfl, .inl ⟨_, hS, rfl⟩, r, _, rfl, by omega, by omega, R, fun H' k g k0 k1 => ?_⟩
      obtain ⟨j, rfl⟩ := Int.eq_ofNat_of_zero_le k0
      have hj : j < xs.length := by omega
      exact .inl ⟨a, xs, _, xs[j], rfl, rfl, g.seq nar hS, atI_nat (List.getElem?_eq_getElem hj), q _ _ g (List.getElem_mem hj)⟩
    · refine ⟨_, rfl, _, rfl, _, rfl, _, cs.length, rfl, ⟨by rw [S_len]; exact small h1, by rw [S_len]⟩, r, _, rfl, by omega, by omega, R, fun H' k g k0 k1 => ?_⟩
      obtain ⟨j, rfl⟩ := Int.eq_ofNat_of_zero_le k0
      have hj : j < cs.length := by omega
      exact .inr (.inr ⟨_, _, cs[j], rfl, rfl, by rw [S_len]; exact small h1, atI_nat (List.getElem?_eq_getElem hj), q _ _ g (List.getElem_mem hj)⟩)
abbrev sLetters : Stmt := topS 53
theorem scLetters : FnScope ["_law_rng", "_law_most", "_law_size", "_law_first", "_law_step", "_law_k"]
    ["_law_rng", "_law_most"] (defScope sLetters) :=
  ⟨rfl, rfl, rfl, by decide +kernel, rfl, by decide +kernel, by decide +kernel⟩
theorem ok_letters {f fD fP : Addr} {fd fdD fdP : FuncData} (F : Fun K "_law_letters" "_law_letters" sLetters f fd)
    (FD : Fun K "_law_draw" "_law_draw" sDraw fD fdD) (bD : Binds K fdD ["_law_rng", "_law_sides"] [])
    (gD : mg "_law_draw" = some (.ref fD))
    (FP : Fun K "_law_pick" "_law_pick" sPick fP fdP) (bP : Binds K fdP ["_law_rng", "_law_things"] [])
    (gP : mg "_law_pick" = some (.ref fP)) (mi : mg "int" = none) (ml : mg "len" = none)
    (mm : mg "min" = none) (mr : mg "range" = none) :
    FnOk P w K mg base CX0 3 f fd ["_law_rng", "_law_most"] spLetters := by
  have GD : FnOk P w K mg base CX0 1 fD fdD ["_law_rng", "_law_sides"] spDraw := ok_draw FD mi ml
  have GP : FnOk P w K mg base CX0 2 fP fdP ["_law_rng", "_law_things"] (spPick K) := ok_pick FP FD bD gD mi ml
  refine F.ok scLetters (fun vs H Q E h => ?_) (fun cdv A outer s H vs Q E hr h => ?_)
  · obtain ⟨r, m, rfl, _⟩ := h
    rfl
  · obtain ⟨r, m, rfl, hm, R, q⟩ := h
    have hr1 : Room 1 _ := hr.mono (by decide)
    refine ⟨_, pss_cons (ps_set (i := 2) scLetters.nd rfl (.inl rfl) (pe_callB (call_min2 rfl) (by rfl) mm (by decide +kernel)
        (pa_cons (pv 1) (pa_cons (pe_call GP hr (by rfl) gP FP.kp bP .nil pass0 (pa_cons (pv 0)
          (pa_cons (pe_lst (pa_cons pe_int (pa_cons pe_int (pa_cons pe_int (pa_cons pe_int (pa_cons pe_int (pa_cons pe_int pa_nil))))))) pa_nil))) pa_nil))))
      (pss_cons (ps_asg (pe_tup (pa_cons (pe_call GD hr1 (by rfl) gD FD.kp bD .nil pass0 (pa_cons (pv 0) (pa_cons pe_int pa_nil)))
          (pa_cons (pe_call GP hr (by rfl) gP FP.kp bP .nil pass0 (pa_cons (pv 0)
          (pa_cons (pe_lst (pa_cons pe_int (pa_cons pe_int (pa_cons pe_int (pa_cons pe_int (pa_cons pe_int pa_nil)))))) pa_nil))) pa_nil)))
          (pg_tup rfl (pgs_cons (pg_name (i := 3) scLetters.nd rfl (.inr rfl)) (pgs_cons (pg_name (i := 4) scLetters.nd rfl (.inr rfl)) pgs_nil))))
      (pss_one (ps_ret (pe_join pe_str (pe_lc (own := [("_law_k", 5)]) (g := gName 5) (tt := tYes) rfl scLetters.nd
        (pi_range1 rfl mr (pa_cons (pv 2) pa_nil))
        (blkOk_by (N := ["_law_rng", "_law_most", "_law_size", "_law_first", "_law_step", "_law_k"]) (sc := defScope sLetters) (by decide +kernel))
        (fun _ _ _ _ _ => pg_name (i := 5) scLetters.nd rfl (Or.inl rfl)) (fun _ _ _ _ _ => pts_nil)
        (fun _ _ _ _ _ => pe_ix ix_str pe_str (pe_op op_mod (pe_callTy call_int1 (by rfl) mi (by decide +kernel)
          (pa_cons (pe_op op_add (pv 3) (pe_op op_mul (pv 4) (pv 5))) pa_nil)) pe_int) (fun _ _ => rfl))))))), ?_⟩
    obtain ⟨xr, er⟩ := R.ex
    refine ⟨_, rfl, _, rfl, (by show 6 ≤ sizeLine; decide), fun l nl => ?_⟩
    refine ⟨r, .ref l, rfl, R.same (same_new nl), .inl ⟨l, _, rfl, (ne_of_none er nl).symm, .inl (.inl upd_same), by decide, by decide, fun H1 v g1 hv => ?_⟩⟩
    obtain ⟨j, rfl, hj⟩ : ∃ j : Nat, v = .int j ∧ j ∈ [2, 3, 4] := by
      simp only [List.mem_cons, List.not_mem_nil, or_false] at hv
      rcases hv with e | e | e | e | e | e <;>
        first | exact ⟨2, e, by decide⟩ | exact ⟨3, e, by decide⟩ | exact ⟨4, e, by decide⟩
    have G1 : Go r H H1 := Go.after R (same_new nl) g1
    obtain ⟨n, hn1, hn2, hn3⟩ : ∃ n : Nat, (if (j : Int) < m then (j : Int) else m) = (n : Int) ∧ n ∈ [2, 3, 4] ∧ (n : Int) ≤ m := by
      have hj2 : 2 ≤ j ∧ j ≤ 4 := by
        simp only [List.mem_cons, List.not_mem_nil, or_false] at hj
        omega
      by_cases h : (j : Int) < m
      · rw [if_pos h]
        exact ⟨j, rfl, hj, by omega⟩
      · rw [if_neg h]
        refine ⟨m.toNat, by omega, ?_, by omega⟩
        simp only [List.mem_cons, List.not_mem_nil, or_false]
        omega
    refine ⟨_, _, rfl, ?_⟩
    rw [hn1]
    refine ⟨_, rfl, r, 26, rfl, by decide, by decide, g1.rng, fun H2 f g2 f0 f1 => ?_⟩
    obtain ⟨f, rfl⟩ := Int.eq_ofNat_of_zero_le f0
    obtain ⟨x2, e2⟩ := g2.rng.ex
    refine ⟨_, rfl, (by show 5 ≤ sizeLine; decide), fun l2 nl2 => ?_⟩
    refine ⟨r, .ref l2, rfl, g2.rng.same (same_new nl2), .inl ⟨l2, _, rfl, (ne_of_none e2 nl2).symm, .inl (.inl upd_same), by decide, by decide, fun H3 v g3 hv => ?_⟩⟩
    obtain ⟨t, rfl, ht⟩ : ∃ j : Nat, v = .int j ∧ j ∈ [1, 3, 5, 25, 7] := by
      simp only [List.mem_cons, List.not_mem_nil, or_false] at hv
      rcases hv with e | e | e | e | e <;>
        first | exact ⟨1, e, by decide⟩ | exact ⟨3, e, by decide⟩ | exact ⟨5, e, by decide⟩ | exact ⟨25, e, by decide⟩ | exact ⟨7, e, by decide⟩
    have G3 : Go r H H3 := (G1.trans g2).trans (Go.after g2.rng (same_new nl2) g3)
    refine ⟨(by show 2 ≤ sizeLine; decide), fun T nT => ?_⟩
    refine ⟨T, _, rfl, .inl (.inl upd_same), rfl, _, _, rfl, _, _, rfl, rfl, ?_⟩
    have G4 := G3.same (same_new (o := .tup [.int (f : Int), .int (t : Int)]) nT)
    have hn4 : n ≤ 4 := by
      simp only [List.mem_cons, List.not_mem_nil, or_false] at hn2
      omega
    refine ⟨⟨_, rfl⟩, _, rfl, _, rfl, by omega, by omega, fun D nD => ?_⟩
    have t25 : t ≤ 25 := by
      simp only [List.mem_cons, List.not_mem_nil, or_false] at ht
      omega
    refine lc_range (lo := 0) (n := (n : Int).toNat)
      (fun i H' => H' = upd (upd H3 T (.tup [.int (f : Int), .int (t : Int)])) D (.lst ((lets f t i).map fun c => V.str (S [c])))) rfl ?_ ?_
    · rintro i H' hi rfl
      have ei : ((f : Int) + (t : Int) * (0 + (i : Int))) % 26 = (((f + t * i) % 26 : Nat) : Int) := by
        rw [Int.zero_add, ← Int.natCast_mul]
        generalize t * i = u
        omega
      have ec : (List.range' 97 26)[(f + t * i) % 26]? = some (97 + (f + t * i) % 26) := by
        rw [List.getElem?_range' (by omega)]
        simp
      refine ⟨rfl, _, rfl, _, rfl, _, rfl, _, _, rfl, rfl, .inl ⟨by omega, by omega⟩, _, _, rfl, rfl, .inl ⟨_, rfl, _, _, rfl, rfl,
        (by show (0 : Int) < 26; decide), ?_⟩⟩
      refine ⟨_, _, 97 + (f + t * i) % 26, rfl, rfl, by decide, ?_, _, upd_same, ?_, ?_⟩
      · show atI (Str.ofString "abcdefghijklmnopqrstuvwxyz").cps.toList (((f : Int) + (t : Int) * (0 + (i : Int))) % 26) = _
        rw [az, ei]
        exact atI_nat ec
      · rw [List.length_map]
        unfold lets
        rw [List.length_map, List.length_range]
        exact small1000 (by omega)
      · rw [upd_upd]
        unfold lets
        rw [List.range_succ, List.map_append, List.map_append]
        rfl
    · rintro H' rfl
      have nDr : D ≠ r := by
        obtain ⟨x4, e4⟩ := G4.rng.ex
        exact (ne_of_none e4 nD).symm
      refine ⟨_, D, (lets f t n).map (fun c => S [c]), rfl, rfl, .inl (.inl (.inl ?_)), ?_, ?_⟩
      · rw [upd_same, List.map_map]
        rfl
      · rw [one_len]
        have : (lets f t n).length = n := by unfold lets; rw [List.length_map, List.length_range]
        rw [this]
        show n + _ * 0 ≤ _
        omega
      · rw [joinC]
        refine q _ _ (G4.same (same_new nD)) (lets_good (by omega) ht hn2) ?_
        have : (lets f t n).length = n := by unfold lets; rw [List.length_map, List.length_range]
        omega
abbrev sTurn : Stmt := topS 54
theorem scTurn : FnScope ["_law_rng", "_law_signs", "_law_left", "_law_found", "_law_k", "_law_at"]
    ["_law_rng", "_law_signs"] (defScope sTurn) :=
  ⟨rfl, rfl, rfl, by decide +kernel, rfl, by decide +kernel, by decide +kernel⟩
theorem ok_turn {f fD : Addr} {fd fdD : FuncData} (F : Fun K "_law_turn" "_law_turn" sTurn f fd)
    (FD : Fun K "_law_draw" "_law_draw" sDraw fD fdD) (bD : Binds K fdD ["_law_rng", "_law_sides"] [])
    (gD : mg "_law_draw" = some (.ref fD)) (mi : mg "int" = none) (ml : mg "len" = none) (mr : mg "range" = none) :
    FnOk P w K mg base CX0 2 f fd ["_law_rng", "_law_signs"] spTurn := by
  have GD : FnOk P w K mg base CX0 1 fD fdD ["_law_rng", "_law_sides"] spDraw := ok_draw FD mi ml
  refine F.ok scTurn (fun vs H Q E h => ?_) (fun cdv A outer s H vs Q E hr h => ?_)
  · obtain ⟨r, x, rfl, _⟩ := h
    rfl
  · obtain ⟨r, gs, rfl, hl, R, q⟩ := h
    refine ⟨_, pss_cons (ps_if (pt_cmpR op_eq (pe_call GD hr (by rfl) gD FD.kp bD .nil pass0 (pa_cons (pv 0) (pa_cons pe_int pa_nil))) pe_int (nomark _))
        (pss_one (ps_ret (pv 1))) pss_nil)
      (pss_cons (ps_par (i := 2) (j := 3) (by rfl) scTurn.nd rfl rfl (by decide) rfl rfl (pa_cons (pv 1) (pa_cons pe_str pa_nil)) (by rfl))
      (pss_cons (ps_for PassesOwn.never rfl
          (pi_range1 rfl mr (pa_cons (pe_callB call_len_str (by rfl) ml PySem.boot_len (pa_cons (pv 1) pa_nil)) pa_nil))
          (pg_name (i := 4) scTurn.nd rfl (.inl rfl))
          (pss_cons (ps_set (i := 5) scTurn.nd rfl (.inl rfl) (pe_call GD hr (by rfl) gD FD.kp bD .nil pass0
              (pa_cons (pv 0) (pa_cons (pe_callB call_len_str (by rfl) ml PySem.boot_len (pa_cons (pv 2) pa_nil)) pa_nil))))
          (pss_one (ps_par (i := 3) (j := 2) (by rfl) scTurn.nd rfl rfl (by decide) rfl rfl
            (pa_cons (pe_op op_add_str (pv 3) (pe_ix ix_str (pv 2) (pv 5) (fun _ _ => rfl)))
            (pa_cons (pe_op op_add_str (pe_slice C8.sl_txt (pv 2) po_none (po_some (pv 5)))
              (pe_slice C8.sl_txt (pv 2) (po_some (pe_op op_add (pv 5) pe_int)) po_none)) pa_nil)) (by rfl)))))
      (pss_one (ps_ret (pv 3))))), ?_⟩
    refine ⟨_, rfl, r, 3, rfl, by decide, by decide, R, fun H1 k g1 k0 k1 => ⟨rfl, _, rfl, ?_⟩⟩
    refine ite2 (fun _ => ⟨_, rfl, q _ _ g1 (List.Perm.refl _)⟩) (fun _ => ?_)
    refine ⟨_, rfl, _, _, rfl, ?_⟩
    have hz : (S gs).length ≤ sizeLine := by rw [S_len]; exact small hl
    refine ⟨_, rfl, _, rfl, hz, _, rfl, by omega, by rw [S_len]; omega, ?_⟩
    refine for_range (lo := 0) (n := ((S gs).length : Int).toNat)
      (fun i σ H' => ∃ (ls fs : List Nat) (v4 v5 : Option V), σ = [some (.ref r), some (.str (S gs)), some (.str (S ls)), some (.str (S fs)), v4, v5] ∧
        Go r H H' ∧ (fs ++ ls).Perm gs ∧ ls.length + i = gs.length) ⟨gs, [], none, none, rfl, g1, List.Perm.refl _, rfl⟩ ?_ ?_
    · rintro i σ H' hi ⟨ls, fs, v4, v5, rfl, g, hp, hli⟩
      rw [S_len] at hi
      have hls : ls.length ≤ 1000 := by omega
      have hfs : fs.length ≤ 1000 := by
        have e := hp.length_eq
        rw [List.length_append] at e
        omega
      refine ⟨_, rfl, _, rfl, _, rfl, by rw [S_len]; exact small hls, r, _, rfl, by rw [S_len]; omega, by rw [S_len]; omega, g.rng, fun H2 k g2 k0 k1 => ?_⟩
      rw [S_len] at k1
      obtain ⟨j, rfl⟩ := Int.eq_ofNat_of_zero_le k0
      have hj : j < ls.length := by omega
      have e1 : Txt.slice (S ls) none (some (j : Int)) = S (ls.take j) := slice_to (by omega)
      have e2 : Txt.slice (S ls) (some ((j : Int) + 1)) none = S (ls.drop (j + 1)) := slice_from (a := ls) (i := (j : Int) + 1) (by omega)
      refine ⟨_, rfl, _, rfl, _, rfl, _, _, ls[j], rfl, rfl, by rw [S_len]; exact small hls, atI_nat (List.getElem?_eq_getElem hj), _, _, rfl, rfl, ?_, ?_⟩
      · rw [S_len]
        show fs.length + 1 ≤ sizeLine
        exact small1000 hfs
      refine ⟨_, rfl, _, rfl, _, rfl, _, rfl, by rw [S_len]; exact small hls, _, rfl, _, rfl, _, _, rfl, rfl, _, rfl, _, rfl, by rw [S_len]; exact small hls, _, _, rfl, rfl, ?_, ?_⟩
      · rw [e1, e2, S_len, S_len, List.length_take, List.length_drop]
        exact Nat.le_trans (by omega) (small hls)
      refine ⟨_, _, rfl, ls.take j ++ ls.drop (j + 1), fs ++ [ls[j]], some (.int (0 + (i : Int))), some (.int (j : Int)), ?_, g.trans g2, ?_, ?_⟩
      · rw [e1, e2, S_cat, S_cat]
        rfl
      · refine List.Perm.trans ?_ hp
        have e3 : ls = ls.take j ++ ls[j] :: ls.drop (j + 1) := by
          rw [List.getElem_cons_drop, List.take_append_drop]
        rw [List.append_assoc]
        refine List.Perm.append_left _ ?_
        conv => rhs; rw [e3]
        rw [List.singleton_append]
        exact List.perm_middle.symm
      · rw [List.length_append, List.length_take, List.length_drop]
        omega
    · rintro σ H' ⟨ls, fs, v4, v5, rfl, g, hp, hli⟩
      rw [S_len] at hli
      have e : ls = [] := List.eq_nil_of_length_eq_zero (by omega)
      subst e
      rw [List.append_nil] at hp
      exact ⟨_, rfl, q _ _ g hp⟩
abbrev sIs : Stmt := topS 15
theorem scIs : FnScope ["letters", "turn"] ["letters", "turn"] (defScope sIs) :=
  ⟨rfl, rfl, rfl, by decide +kernel, rfl, by decide +kernel, by decide +kernel⟩
theorem ok_is {f : Addr} {fd : FuncData} (F : Fun K "is_turn" "is_turn" sIs f fd) (ms : mg "sorted" = none) :
    FnOk P w K mg base CX0 1 f fd ["letters", "turn"] spIs := by
  refine F.ok scIs (fun vs H Q E h => ?_) (fun cdv A outer s H vs Q E hr h => ?_)
  · obtain ⟨gs, t, rfl, _⟩ := h
    rfl
  · obtain ⟨gs, t, rfl, l1, l2, c1, c2, q⟩ := h
    refine ⟨_, pss_one (ps_ret (pe_cmpR (op_eqD hr.units) (pe_callB (call_sortedTx rfl) (by rfl) ms (by decide +kernel) (pa_cons (pv 1) pa_nil))
      (pe_callB (call_sortedTx rfl) (by rfl) ms (by decide +kernel) (pa_cons (pv 0) pa_nil)) (nomark _))), ?_⟩
    refine ⟨_, rfl, S t, rfl, l2, fun ys1 p1 hp1 hs1 n1 => ⟨_, rfl, S gs, rfl, l1, fun ys2 p2 hp2 hs2 n2 => ?_⟩⟩
    obtain ⟨ls, rfl, h1⟩ := signs_of (zs := t) hp1
    obtain ⟨ms', rfl, h2⟩ := signs_of (zs := gs) hp2
    have s1 := same_new (o := .lst ((ls.map S).map V.str)) n1
    have s2 := same_new (o := .lst ((ms'.map S).map V.str)) n2
    refine ⟨_, _, .lst (.inl (.inl (s2 _ _ upd_same))) (dp_all ls), .lst (.inl (.inl upd_same)) (dp_all ms'), shp_tx (small_of h1 c2), shp_tx (small_of h2 c1), ?_⟩
    rw [show PyData.eqv (.list (ls.map fun c => PyData.str (S c))) (.list (ms'.map fun c => PyData.str (S c))) = decide (ls = ms') from eqvAll_tx ls ms', signs_eq h1 h2 hs1 hs2]
    exact q _ (s1.trans s2)
abbrev sSame : Stmt := topS 52
theorem scSame : FnScope ["_law_found", "_law_due", "_law_a", "_law_b"] ["_law_found", "_law_due"] (defScope sSame) :=
  ⟨rfl, rfl, rfl, by decide +kernel, rfl, by decide +kernel, by decide +kernel⟩
theorem same_step {f : Addr} {fd : FuncData} {n : Nat} (F : Fun K "_law_same" "_law_same" sSame f fd) (T : SameT mg)
    (bS : Binds K fd ["_law_found", "_law_due"] []) (gS : mg "_law_same" = some (.ref f))
    (GS : FnOk P w K mg base CX0 n f fd ["_law_found", "_law_due"] (spSm K n)) :
    FnOk P w K mg base CX0 (n + 1) f fd ["_law_found", "_law_due"] (spSm K (n + 1)) := by
  refine F.ok scSame (fun vs H Q E h => ?_) (fun cdv A outer s H vs Q E hr h => ?_)
  · obtain ⟨x, y, rfl, _⟩ := h
    rfl
  · obtain ⟨x, y, rfl, h, q⟩ := h
    refine ⟨_, pss_cons (ps_if (pt_val (pe_callB call_isiT (by rfl) T.isi (by decide +kernel) (pa_cons (pv 1) (pa_cons
          (pe_tup (pa_cons (pe_bltn (v := .ty "list") (u := .type "list") (by rfl) T.list (by decide +kernel) rfl)
            (pa_cons (pe_bltn (v := .ty "tuple") (u := .type "tuple") (by rfl) T.tuple (by decide +kernel) rfl) pa_nil))) pa_nil))))
        (pss_cons (ps_if (PW.pt (pw_or
            (pt_cmpR op_ne (pe_callB call_isi (by rfl) T.isi (by decide +kernel) (pa_cons (pv 0) (pa_cons (pe_bltn (v := .ty "list") (u := .type "list") (by rfl) T.list (by decide +kernel) rfl) pa_nil)))
              (pe_callB call_isi (by rfl) T.isi (by decide +kernel) (pa_cons (pv 1) (pa_cons (pe_bltn (v := .ty "list") (u := .type "list") (by rfl) T.list (by decide +kernel) rfl) pa_nil))) (nomark _))
            (pw_or1 (pt_cmpR op_ne (pe_callB call_isi (by rfl) T.isi (by decide +kernel) (pa_cons (pv 0) (pa_cons (pe_bltn (v := .ty "tuple") (u := .type "tuple") (by rfl) T.tuple (by decide +kernel) rfl) pa_nil)))
              (pe_callB call_isi (by rfl) T.isi (by decide +kernel) (pa_cons (pv 1) (pa_cons (pe_bltn (v := .ty "tuple") (u := .type "tuple") (by rfl) T.tuple (by decide +kernel) rfl) pa_nil))) (nomark _)))))
          pss_never pss_nil)
        (pss_one (ps_ret (pe_and (pe_cmpR op_eq (pe_callB call_len (by rfl) T.len PySem.boot_len (pa_cons (pv 0) pa_nil)) (pe_callB call_len (by rfl) T.len PySem.boot_len (pa_cons (pv 1) pa_nil)) (nomark _))
          (pe_one (pe_callB (cr_all rfl) (by rfl) T.all (by decide +kernel) (pa_cons
            (pe_lc (own := [("_law_a", 2), ("_law_b", 3)]) (g := gTup K 2 (gCons (gName 2) (gCons (gName 3) gNil))) (tt := tYes) rfl scSame.nd
              (pi_zipA (by rfl) T.zip (pa_cons (pv 0) (pa_cons (pv 1) pa_nil)))
              (blkOk_by (N := ["_law_found", "_law_due", "_law_a", "_law_b"]) (sc := defScope sSame) (by decide +kernel))
              (fun _ _ _ _ _ => pg_tup rfl (pgs_cons (pg_name (i := 2) scSame.nd rfl (Or.inl rfl)) (pgs_cons (pg_name (i := 3) scSame.nd rfl (Or.inl rfl)) pgs_nil)))
              (fun _ _ _ _ _ => pts_nil)
              (fun _ _ _ _ _ => pe_call GS hr (by rfl) gS F.kp bS .nil pass0 (pa_cons (pv 2) (pa_cons (pv 3) pa_nil)))) pa_nil)))))))
        pss_nil)
      (pss_cons (ps_if (PW.pt (pw_or (pt_cmpR op_isN (pv 1) pe_non (nomark _)) (pw_or1 (pt_cmpR op_isN (pv 0) pe_non (nomark _)))))
        (pss_one (ps_ret (pe_and (pe_cmpR op_isN (pv 1) pe_non (nomark _)) (pe_one (pe_cmpR op_isN (pv 0) pe_non (nomark _)))))) pss_nil)
      (pss_cons (ps_if (PW.pt (pw_or
            (pt_cmpR op_ne (pe_callB call_isi (by rfl) T.isi (by decide +kernel) (pa_cons (pv 1) (pa_cons (pe_bltn (v := .ty "bool") (u := .type "bool") (by rfl) T.bool (by decide +kernel) rfl) pa_nil)))
              (pe_callB call_isi (by rfl) T.isi (by decide +kernel) (pa_cons (pv 0) (pa_cons (pe_bltn (v := .ty "bool") (u := .type "bool") (by rfl) T.bool (by decide +kernel) rfl) pa_nil))) (nomark _))
            (pw_or1 (pt_cmpR op_ne (pe_callB call_isi (by rfl) T.isi (by decide +kernel) (pa_cons (pv 1) (pa_cons (pe_bltn (v := .ty "int") (u := .type "int") (by rfl) T.int (by decide +kernel) rfl) pa_nil)))
              (pe_callB call_isi (by rfl) T.isi (by decide +kernel) (pa_cons (pv 0) (pa_cons (pe_bltn (v := .ty "int") (u := .type "int") (by rfl) T.int (by decide +kernel) rfl) pa_nil))) (nomark _)))))
          pss_never pss_nil)
      (pss_one (ps_ret (pe_and (pe_cmpR op_eq (pe_callB call_isi (by rfl) T.isi (by decide +kernel) (pa_cons (pv 1) (pa_cons (pe_bltn (v := .ty "str") (u := .type "str") (by rfl) T.str (by decide +kernel) rfl) pa_nil)))
              (pe_callB call_isi (by rfl) T.isi (by decide +kernel) (pa_cons (pv 0) (pa_cons (pe_bltn (v := .ty "str") (u := .type "str") (by rfl) T.str (by decide +kernel) rfl) pa_nil))) (nomark _))
        (pe_one (pe_cmpR op_eq (pv 0) (pv 1) (nomark _)))))))), ?_⟩
    rcases h with ⟨rfl, hf⟩ | ⟨a, b, xs, ys, rfl, rfl, hab, l1, l2, k⟩
    · obtain ⟨t, hty, k1, k2, ⟨b1, k3⟩, ⟨b2, k4⟩, ⟨b3, k5⟩⟩ := flat_ty (K := K) hf
      refine ⟨_, rfl, (by show 2 ≤ sizeLine; decide), fun tp ntp => ?_⟩
      have s1 := same_new (o := .tup [.ty "list", .ty "tuple"]) ntp
      refine ⟨x, tp, _, .type t, [.type "list", .type "tuple"], false, rfl, upd_same, .cons (.ty _) (.cons (.ty _) .nil), hty _, kit2 k1 k2, false, rfl, iteF ?_⟩
      by_cases hx : x = .non
      · subst hx
        refine ⟨_, rfl, rfl, _, rfl, ?_⟩
        rw [decide_eq_true rfl]
        refine ⟨_, rfl, rfl, true, by rw [decide_eq_true rfl], iteT ⟨_, rfl, rfl, ?_⟩⟩
        rw [decide_eq_true rfl]
        exact q _ s1
      · refine ⟨_, rfl, rfl, _, rfl, ?_⟩
        rw [decide_eq_false hx]
        refine ⟨_, rfl, rfl, _, rfl, ?_⟩
        rw [decide_eq_false hx]
        refine ⟨_, rfl, x, .ty "bool", .type t, .type "bool", b1, rfl, .ty _, hty _, kit_ty k3, _, rfl, x, .ty "bool", .type t, .type "bool", b1, rfl, .ty _, hty _, kit_ty k3, rfl, _, rfl, ?_⟩
        refine iteNS rfl ?_
        refine ⟨_, rfl, x, .ty "int", .type t, .type "int", b2, rfl, .ty _, hty _, kit_ty k4, _, rfl, x, .ty "int", .type t, .type "int", b2, rfl, .ty _, hty _, kit_ty k4, rfl, _, rfl, ?_⟩
        refine iteNS rfl ?_
        refine ⟨_, rfl, x, .ty "str", .type t, .type "str", b3, rfl, .ty _, hty _, kit_ty k5, _, rfl, x, .ty "str", .type t, .type "str", b3, rfl, .ty _, hty _, kit_ty k5, rfl, true, by rw [decide_eq_true rfl], iteT ?_⟩
        refine ⟨_, rfl, _, rfl, ?_, ?_⟩
        · cases x with
          | non => exact absurd rfl hx
          | bl b => rfl
          | int i => rfl
          | str z => rfl
          | _ => exact hf.elim
        · rw [decide_eq_true rfl]
          exact q _ s1
    · refine ⟨_, rfl, (by show 2 ≤ sizeLine; decide), fun tp ntp => ?_⟩
      have s1 := same_new (o := .tup [.ty "list", .ty "tuple"]) ntp
      have turn : ∀ (D : Addr) (nD : (upd H tp (.tup [.ty "list", .ty "tuple"])) D = none) (i : Nat) (x : V) (H' H'' : Hp),
          (Same (upd H tp (.tup [.ty "list", .ty "tuple"])) H' ∧ H' D = some (.lst ((List.replicate i true).map V.bl))) → i < xs.length →
          YPair (fun i => xs[i]?) (fun i => ys[i]?) i H' x H'' →
          gTup K 2 (gCons (gName 2) (gCons (gName 3) gNil)) x [some (.ref a), some (.ref b), none, none] H'' fun σ2 H2 =>
            wipe σ2 [2, 3] = wipe [some (.ref a), some (.ref b), none, none] [2, 3] ∧ tYes σ2 H2 fun c H3 =>
            if c = true then tCall (spSm K n) [] E0 (tCons (tVar 2) (tCons (tVar 3) tNil)) σ2 H3 fun y H4 => ∃ acc, H4 D = some (.lst acc) ∧ acc.length < sizeLine ∧
              (Same (upd H tp (.tup [.ty "list", .ty "tuple"])) (upd H4 D (.lst (acc ++ [y]))) ∧ (upd H4 D (.lst (acc ++ [y]))) D = some (.lst ((List.replicate (i + 1) true).map V.bl)))
            else (Same (upd H tp (.tup [.ty "list", .ty "tuple"])) H3 ∧ H3 D = some (.lst ((List.replicate (i + 1) true).map V.bl))) := by
        rintro D nD i x H' H'' ⟨sm, hD⟩ hi ⟨T, u, v, rfl, nT, rfl, hu, hv⟩
        have s2 := same_new (o := .tup [u, v]) nT
        refine ⟨T, _, rfl, .inl (.inl upd_same), rfl, _, _, rfl, _, _, rfl, rfl, rfl, ?_⟩
        refine ⟨_, rfl, _, rfl, u, v, rfl, (k i u v hu hv).same ((s1.trans sm).trans s2), fun H4 s4 => ?_⟩
        refine ⟨_, s4 _ _ (s2 _ _ hD), ?_, fun b o e => ?_, ?_⟩
        · rw [List.length_map, List.length_replicate]
          exact small1000 (by omega)
        · rw [upd_ne (ne_of_none e nD)]
          exact s4 _ _ (s2 _ _ (sm _ _ e))
        · rw [upd_same, List.replicate_succ', List.map_append]
          rfl
      have fin : ∀ (D : Addr) (H' : Hp), (Same (upd H tp (.tup [.ty "list", .ty "tuple"])) H' ∧ H' D = some (.lst ((List.replicate xs.length true).map V.bl))) →
          rAll K [.ref D] H' fun v H' => Q v H' := by
        rintro D H' ⟨sm, hD⟩
        refine ⟨D, _, rfl, .inl (.inl hD), ?_⟩
        have e : (List.replicate xs.length true).all id = true := by
          rw [List.all_eq_true]
          intro c hc
          rw [List.eq_of_mem_replicate hc]
          rfl
        rw [e]
        exact q _ (s1.trans sm)
      rcases hab with ⟨ha, hb⟩ | ⟨ha, hb⟩
      · have ha := s1.seq ha
        have hb := s1.seq hb
        refine ⟨.ref b, tp, _, .type "list", [.type "list", .type "tuple"], true, rfl, upd_same, .cons (.ty _) (.cons (.ty _) .nil), tyL hb, kit2 (r := true) (s := false) (by decide +kernel) (by decide +kernel), true, rfl, iteT ?_⟩
        refine ⟨_, rfl, .ref a, .ty "list", .type "list", .type "list", true, rfl, .ty _, tyL ha, kit_ty (by decide +kernel), _, rfl, .ref b, .ty "list", .type "list", .type "list", true, rfl, .ty _, tyL hb, kit_ty (by decide +kernel), rfl, _, rfl, ?_⟩
        refine iteNS rfl ?_
        refine ⟨_, rfl, .ref a, .ty "tuple", .type "list", .type "tuple", false, rfl, .ty _, tyL ha, kit_ty (by decide +kernel), _, rfl, .ref b, .ty "tuple", .type "list", .type "tuple", false, rfl, .ty _, tyL hb, kit_ty (by decide +kernel), rfl, _, rfl, ?_⟩
        refine iteNS rfl ?_
        refine ⟨_, rfl, _, xs.length, rfl, .inl ⟨_, ha, rfl⟩, _, rfl, _, xs.length, rfl, .inl ⟨_, hb, l2⟩, rfl, true, by rw [decide_eq_true rfl], iteT ?_⟩
        refine ⟨_, rfl, _, rfl, a, b, xs, ys, rfl, .inl ⟨ha, hb, fun D nD => ?_⟩⟩
        refine lc_it (walk_zip (K := K) (a := a) (b := b) (xs := xs) (ys := ys) (n := xs.length) (by omega))
          (fun i H' => Same (upd H tp (.tup [.ty "list", .ty "tuple"])) H' ∧ H' D = some (.lst ((List.replicate i true).map V.bl)))
          ⟨same_new nD, upd_same⟩ (fun i H' _ ⟨sm, _⟩ => ⟨sm.seq ha, sm.seq hb⟩) (fun i x H' H'' hi p y => turn D nD i x H' H'' p hi y) (fun H' p => fin D H' p)
      · have ha := same_t s1 ha
        have hb := same_t s1 hb
        refine ⟨.ref b, tp, _, .type "tuple", [.type "list", .type "tuple"], true, rfl, upd_same, .cons (.ty _) (.cons (.ty _) .nil), tyT hb, kit2 (r := false) (s := true) (by decide +kernel) (by decide +kernel), true, rfl, iteT ?_⟩
        refine ⟨_, rfl, .ref a, .ty "list", .type "tuple", .type "list", false, rfl, .ty _, tyT ha, kit_ty (by decide +kernel), _, rfl, .ref b, .ty "list", .type "tuple", .type "list", false, rfl, .ty _, tyT hb, kit_ty (by decide +kernel), rfl, _, rfl, ?_⟩
        refine iteNS rfl ?_
        refine ⟨_, rfl, .ref a, .ty "tuple", .type "tuple", .type "tuple", true, rfl, .ty _, tyT ha, kit_ty (by decide +kernel), _, rfl, .ref b, .ty "tuple", .type "tuple", .type "tuple", true, rfl, .ty _, tyT hb, kit_ty (by decide +kernel), rfl, _, rfl, ?_⟩
        refine iteNS rfl ?_
        refine ⟨_, rfl, _, xs.length, rfl, .inr ⟨_, ha, rfl⟩, _, rfl, _, xs.length, rfl, .inr ⟨_, hb, l2⟩, rfl, true, by rw [decide_eq_true rfl], iteT ?_⟩
        refine ⟨_, rfl, _, rfl, a, b, xs, ys, rfl, .inr ⟨ha, hb, fun D nD => ?_⟩⟩
        refine lc_it (walk_zT (K := K) (a := a) (b := b) (xs := xs) (ys := ys) (n := xs.length) (by omega))
          (fun i H' => Same (upd H tp (.tup [.ty "list", .ty "tuple"])) H' ∧ H' D = some (.lst ((List.replicate i true).map V.bl)))
          ⟨same_new nD, upd_same⟩ (fun i H' _ ⟨sm, _⟩ => ⟨same_t sm ha, same_t sm hb⟩) (fun i x H' H'' hi p y => turn D nD i x H' H'' p hi y) (fun H' p => fin D H' p)

theorem ok_same {f : Addr} {fd : FuncData} (F : Fun K "_law_same" "_law_same" sSame f fd) (T : SameT mg)
    (bS : Binds K fd ["_law_found", "_law_due"] []) (gS : mg "_law_same" = some (.ref f)) :
    ∀ n, FnOk P w K mg base CX0 n f fd ["_law_found", "_law_due"] (spSm K n)
  | 0 => ⟨fun vs H Q E h => (let ⟨_, _, _, h, _⟩ := h; h.elim), fun A outer s H args us vs Q E _ _ _ _ h => (let ⟨_, _, _, h, _⟩ := h; h.elim)⟩
  | n + 1 => same_step F T bS gS (ok_same F T bS gS n)
abbrev sBk : Stmt := topS 19
theorem scBk : FnScope ["item"] ["item"] (defScope sBk) := ⟨rfl, rfl, rfl, by decide +kernel, rfl, by decide +kernel, by decide +kernel⟩
theorem ok_bk {f : Addr} {fd : FuncData} (F : Fun K "is_blank" "is_blank" sBk f fd) (ml : mg "len" = none) : FnOk P w K mg base CX0 1 f fd ["item"] spBk := by
  refine F.ok scBk (fun vs H Q E h => ?_) (fun cdv A outer s H vs Q E hr h => ?_)
  · obtain ⟨x, rfl, _⟩ := h
    rfl
  · obtain ⟨x, rfl, hl, q⟩ := h
    refine ⟨_, pss_one (ps_ret (pe_cmpR op_gt (pe_callB call_len_str (by rfl) ml PySem.boot_len (pa_cons (pv 0) pa_nil)) pe_int (nomark _))), ?_⟩
    refine ⟨_, rfl, _, rfl, by rw [S_len]; exact small hl, _, _, rfl, rfl, ?_⟩
    have e : decide (((S x).length : Int) > 1) = decide (1 < x.length) := by
      rw [decide_eq_decide, S_len]
      omega
    show Q (.bl (decide (((S x).length : Int) > 1))) H
    rw [e]
    exact q _ (Same.refl _)
abbrev sIt : Stmt := topS 22
theorem scIt : FnScope ["letters", "item"] ["letters", "item"] (defScope sIt) := ⟨rfl, rfl, rfl, by decide +kernel, rfl, by decide +kernel, by decide +kernel⟩
theorem ok_it {f f1 : Addr} {fd fd1 : FuncData} (F : Fun K "item_text" "item_text" sIt f fd) (c1 : Cl P w K mg base "is_blank" 1 ["item"] spBk f1 fd1) (mP : ∃ t, mg "PLAIN_BLANK" = some (.str "{}" t)) :
    FnOk P w K mg base CX0 2 f fd ["letters", "item"] spIt := by
  obtain ⟨tP, mP⟩ := mP
  refine F.ok scIt (fun vs H Q E h => ?_) (fun cdv A outer s H vs Q E hr h => ?_)
  · obtain ⟨gs, x, rfl, _⟩ := h
    rfl
  · obtain ⟨gs, x, rfl, hg, hl, q⟩ := h
    refine ⟨_, pss_cons (ps_if (pt_not (pt_val (pe_cl c1 hr (by decide) (by rfl) (pa_cons (pv 1) pa_nil)))) (pss_one (ps_ret (pv 1))) pss_nil)
      (pss_cons (ps_if (pt_cmpR op_eq (pv 1) (pv 0) (nomark _)) (pss_one (ps_ret (pe_glob (v := .str (Str.ofString "{}")) (by rfl) mP ⟨_, rfl⟩))) pss_nil)
      (pss_one (ps_ret (pe_join pe_str (pe_lst (pa_cons pe_str (pa_cons (pv 1) (pa_cons pe_str pa_nil)))))))), ?_⟩
    refine ⟨_, rfl, x, rfl, hl, fun H1 s1 => ⟨_, rfl, ?_⟩⟩
    by_cases h1 : 1 < x.length
    rotate_left
    · rw [decide_eq_false h1]
      refine iteT ⟨_, rfl, ?_⟩
      have e : iTx gs x = x := by unfold iTx; rw [if_neg h1]
      have := q H1 s1
      rw [e] at this
      exact this
    rw [decide_eq_true h1]
    refine iteF ⟨_, rfl, _, rfl, rfl, _, rfl, ?_⟩
    by_cases h2 : x = gs
    · rw [decide_eq_true (by rw [h2])]
      have e : iTx gs x = [123, 125] := by unfold iTx; rw [if_pos h1, if_pos h2]
      have := q H1 s1
      rw [e] at this
      exact iteT this
    · rw [decide_eq_false (fun e => h2 (S_inj (V.str.inj e)))]
      refine iteF ⟨⟨_, rfl⟩, _, rfl, (by show 3 ≤ sizeLine; decide), fun p np => ?_⟩
      have e : iTx gs x = [123] ++ x ++ [125] := by unfold iTx; rw [if_pos h1, if_neg h2]
      have o1 : Str.ofString "{" = S [123] := by decide +kernel
      have o2 : Str.ofString "}" = S [125] := by decide +kernel
      refine ⟨_, p, [[123], x, [125]].map S, rfl, rfl, .inl (.inl (.inl ?_)), ?_, ?_⟩
      · rw [upd_same, o1, o2]
        rfl
      · rw [sum_len]
        show ([123] ++ (x ++ ([125] ++ []))).length + _ * 0 ≤ _
        rw [List.length_append, List.length_append]
        show 1 + (_ + 1) + _ * 0 ≤ _
        omega
      · rw [joinT]
        have := q _ (s1.trans (same_new (o := .lst [.str (Str.ofString "{"), tx x, .str (Str.ofString "}")]) np))
        rw [e] at this
        rw [show [[123], x, [125]].flatten = [123] ++ x ++ [125] by simp]
        exact this
abbrev sRt : Stmt := topS 23
theorem scRt : FnScope ["letters", "row", "item"] ["letters", "row"] (defScope sRt) := ⟨rfl, rfl, rfl, by decide +kernel, rfl, by decide +kernel, by decide +kernel⟩
theorem ok_rt {f f1 : Addr} {fd fd1 : FuncData} (F : Fun K "row_text" "row_text" sRt f fd) (ml : mg "len" = none) (c1 : Cl P w K mg base "item_text" 2 ["letters", "item"] spIt f1 fd1) (mE : ∃ t, mg "EMPTY_TEXT" = some (.str "-" t)) :
    FnOk P w K mg base CX0 3 f fd ["letters", "row"] (spRt K) := by
  obtain ⟨tE, mE⟩ := mE
  refine F.ok scRt (fun vs H Q E h => ?_) (fun cdv A outer s H vs Q E hr h => ?_)
  · obtain ⟨gs, a, its, rfl, _⟩ := h
    rfl
  · obtain ⟨gs, a, its, rfl, hg, hs, hl, hx, q⟩ := h
    refine ⟨_, pss_cons (ps_if (pt_cmpR op_eq (pe_callB call_len (by rfl) ml PySem.boot_len (pa_cons (pv 1) pa_nil)) pe_int (nomark _)) (pss_one (ps_ret (pe_glob (v := .str (Str.ofString "-")) (by rfl) mE ⟨_, rfl⟩))) pss_nil)
      (pss_one (ps_ret (pe_join pe_str (pe_lc (own := [("item", 2)]) (g := gName 2) (tt := tYes) rfl scRt.nd (pi_any (pv 1))
        (blkOk_by (N := ["letters", "row", "item"]) (sc := defScope sRt) (by decide +kernel))
        (fun _ _ _ _ _ => pg_name (i := 2) scRt.nd rfl (Or.inl rfl)) (fun _ _ _ _ _ => pts_nil)
        (fun _ _ _ _ _ => pe_cl c1 hr (by decide) (by rfl) (pa_cons (pv 0) (pa_cons (pv 2) pa_nil))))))), ?_⟩
    have hln : LenV K (.ref a) H its.length := hs.imp (fun h => ⟨_, h, (List.length_map ..).symm⟩) (fun h => ⟨_, h, (List.length_map ..).symm⟩)
    refine ⟨_, rfl, _, its.length, rfl, hln, rfl, _, rfl, ?_⟩
    by_cases h0 : its = []
    · subst h0
      rw [decide_eq_true (show V.int ((([] : List (List Nat)).length : Nat) : Int) = V.int 0 from rfl)]
      exact iteT (q H (Same.refl _))
    · have hne : its.length ≠ 0 := fun e => h0 (List.length_eq_zero_iff.mp e)
      rw [decide_eq_false (fun e => hne (by have := V.int.inj e; omega))]
      refine iteF ⟨⟨_, rfl⟩, it_any (a := a) (xs := its.map tx) (fun k hk => ⟨_, rfl, hk⟩) hs (Same.refl _) fun J W D nD => ?_⟩
      refine lc_it W (fun i H' => Same H H' ∧ H' D = some (.lst (((its.take i).map (iTx gs)).map tx))) ⟨same_new nD, upd_same⟩ (fun _ _ _ h => h.1) ?_ ?_
      · rintro i y H' H'' hi ⟨s1, hD⟩ ⟨rfl, hy⟩
        obtain ⟨x, hx2, rfl⟩ := get_tx hy
        have hxm := hx x (List.mem_of_getElem? hx2)
        refine ⟨rfl, _, rfl, _, rfl, gs, x, rfl, hg, by omega, fun H3 s3 => ?_⟩
        refine ⟨_, s3 _ _ hD, ?_, same_put (s1.trans s3) nD, ?_⟩
        · rw [List.length_map, List.length_map, List.length_take]
          exact small1000 (by omega)
        · rw [upd_same, List.take_add_one, hx2]
          simp
      · rintro H' ⟨s1, hD⟩
        rw [List.length_map, List.take_length] at hD
        refine ⟨_, D, (its.map (iTx gs)).map S, rfl, rfl, .inl (.inl (.inl ?_)), ?_, ?_⟩
        · rw [hD]
          simp
        · rw [sum_len]
          have := flat_len (f := iTx gs) (m := 902) (its := its) fun x hx' => Nat.le_trans iTx_len (by have := hx x hx'; omega)
          show _ + _ * 0 ≤ _
          have : its.length * 902 ≤ 900 * 902 := Nat.mul_le_mul_right _ hl
          omega
        · rw [joinT]
          have := q _ s1
          unfold rTx at this
          rw [if_neg h0] at this
          exact this
abbrev sBw : Stmt := topS 20
theorem scBw : FnScope ["letters", "text", "at", "end"] ["letters", "text", "at"] (defScope sBw) := ⟨rfl, rfl, rfl, by decide +kernel, rfl, by decide +kernel, by decide +kernel⟩
theorem ok_bw {f f1 : Addr} {fd fd1 : FuncData} (F : Fun K "blank_width" "blank_width" sBw f fd) (ml : mg "len" = none) (c1 : Cl P w K mg base "is_turn" 1 ["letters", "turn"] spIs f1 fd1) (mP : ∃ t, mg "PLAIN_BLANK" = some (.str "{}" t)) :
    FnOk P w K mg base CX0 2 f fd ["letters", "text", "at"] spBw := by
  obtain ⟨tP, mP⟩ := mP
  refine F.ok scBw (fun vs H Q E h => ?_) (fun cdv A outer s H vs Q E hr h => ?_)
  · obtain ⟨gs, pre, post, x, z, rfl, _⟩ := h
    rfl
  · obtain ⟨gs, pre, post, x, z, rfl, hg, hl, hc⟩ := h
    refine ⟨_, pss_cons (ps_if (pt_cmpR op_eq (pe_slice C8.sl_txt (pv 1) (po_some (pv 2)) (po_some (pe_op op_add (pv 2) pe_int))) (pe_glob (v := .str (Str.ofString "{}")) (by rfl) mP ⟨_, rfl⟩) (nomark _)) (pss_one (ps_ret pe_int)) pss_nil)
      (pss_cons (ps_set (i := 3) scBw.nd rfl (.inl rfl) (pe_op op_add (pe_op op_add (pv 2) pe_int) (pe_callB call_len_str (by rfl) ml PySem.boot_len (pa_cons (pv 0) pa_nil))))
      (pss_cons (ps_if (PW.pt (pw_and (pt_cmpR op_eq (pe_ix ix_str (pv 1) (pv 2) (fun _ _ => rfl)) pe_str (nomark _))
          (pw_and (pt_cmpR op_eq (pe_slice C8.sl_txt (pv 1) (po_some (pv 3)) (po_some (pe_op op_add (pv 3) pe_int))) pe_str (nomark _))
          (pw_and1 (pt_val (pe_cl c1 hr (by decide) (by rfl) (pa_cons (pv 0) (pa_cons (pe_slice C8.sl_txt (pv 1) (po_some (pe_op op_add (pv 2) pe_int)) (po_some (pv 3))) pa_nil))))))))
        (pss_one (ps_ret (pe_op op_add (pe_callB call_len_str (by rfl) ml PySem.boot_len (pa_cons (pv 0) pa_nil)) pe_int))) pss_nil)
      (pss_one (ps_ret pe_int)))), ?_⟩
    have hz : (S (pre ++ z ++ post)).length ≤ sizeLine := by rw [S_len]; exact small hl
    have ob : Str.ofString "{}" = S [123, 125] := by decide +kernel
    have o1 : Str.ofString "{" = S [123] := by decide +kernel
    have o2 : Str.ofString "}" = S [125] := by decide +kernel
    refine ⟨_, rfl, _, rfl, _, rfl, _, rfl, _, _, rfl, rfl, _, rfl, _, rfl, hz, rfl, _, rfl, ?_⟩
    rcases hc with ⟨rfl, q⟩ | ⟨hp, rfl, q⟩
    · rw [mid_app (p := pre) (z := [123, 125]) rfl (by simp), ob, decide_eq_true rfl]
      exact iteT (q _ (Same.refl _))
    · have hx2 : 2 ≤ x.length := by rw [hp.length_eq]; exact hg.lo
      have hx4 : x.length ≤ 4 := by rw [hp.length_eq]; exact hg.hi
      obtain ⟨c, r, rfl⟩ : ∃ c r, x = c :: r := by
        cases x with
        | nil => cases hx2
        | cons c r => exact ⟨c, r, rfl⟩
      have hcaz := hg.az c (hp.mem_iff.mp (List.mem_cons_self ..))
      have e1 : Txt.slice (S (pre ++ ([123] ++ (c :: r) ++ [125]) ++ post)) (some (pre.length : Int)) (some ((pre.length : Int) + 2)) = S [123, c] := by
        have e : pre ++ ([123] ++ (c :: r) ++ [125]) ++ post = pre ++ [123, c] ++ (r ++ [125] ++ post) := by simp
        rw [e]
        exact mid_app rfl (by simp)
      rw [e1, ob, decide_eq_false (fun e => by
        have := S_inj (V.str.inj e)
        injection this with _ h
        injection h with h
        omega)]
      have hzg : (S gs).length ≤ sizeLine := by rw [S_len]; exact small (by have := hg.hi; omega)
      refine iteF ⟨_, rfl, _, _, rfl, rfl, _, rfl, _, rfl, hzg, _, _, rfl, rfl, ?_⟩
      have hat : (pre ++ ([123] ++ (c :: r) ++ [125]) ++ post)[pre.length]? = some 123 := by simp
      refine ⟨_, rfl, _, rfl, _, _, 123, rfl, rfl, hz, atI_nat hat, rfl, _, rfl, ?_⟩
      rw [o1, decide_eq_true rfl]
      refine iteT ?_
      have hpl := hp.length_eq
      have hll : ((S gs).length : Int) = (((c :: r).length : Nat) : Int) := by rw [S_len, hpl]
      rw [hll]
      have e2 : Txt.slice (S (pre ++ ([123] ++ (c :: r) ++ [125]) ++ post)) (some ((pre.length : Int) + 1 + (((c :: r).length : Nat) : Int))) (some ((pre.length : Int) + 1 + (((c :: r).length : Nat) : Int) + 1)) = S [125] := by
        have e : pre ++ ([123] ++ (c :: r) ++ [125]) ++ post = (pre ++ [123] ++ (c :: r)) ++ [125] ++ post := by simp
        rw [e]
        refine mid_app ?_ ?_
        · simp only [List.length_append, List.length_singleton]
          omega
        · simp only [List.length_append, List.length_singleton]
          omega
      refine ⟨_, rfl, _, rfl, _, rfl, _, rfl, _, _, rfl, rfl, _, rfl, _, rfl, hz, rfl, _, rfl, ?_⟩
      rw [e2, o2, decide_eq_true rfl]
      refine iteT ?_
      have e3 : Txt.slice (S (pre ++ ([123] ++ (c :: r) ++ [125]) ++ post)) (some ((pre.length : Int) + 1)) (some ((pre.length : Int) + 1 + (((c :: r).length : Nat) : Int))) = S (c :: r) := by
        have e : pre ++ ([123] ++ (c :: r) ++ [125]) ++ post = (pre ++ [123]) ++ (c :: r) ++ ([125] ++ post) := by simp
        rw [e]
        refine mid_app ?_ ?_
        · simp only [List.length_append, List.length_singleton]
          omega
        · simp only [List.length_append, List.length_singleton]
          omega
      have gaz : ∀ d ∈ gs, d < 128 := fun d hd => by have := hg.az d hd; omega
      refine ⟨_, rfl, _, rfl, _, rfl, _, _, rfl, rfl, _, rfl, _, rfl, _, rfl, _, rfl, hz, ?_⟩
      rw [e3]
      refine ⟨gs, c :: r, rfl, by have := hg.hi; omega, by omega, gaz, (fun d hd => gaz d (hp.mem_iff.mp hd)), fun H1 s1 => ⟨_, rfl, ?_⟩⟩
      rw [decide_eq_true hp]
      refine iteT ⟨_, rfl, _, rfl, hzg, _, _, rfl, rfl, ?_⟩
      have hgl : ((S gs).length : Int) = (gs.length : Int) := by rw [S_len]
      rw [hgl]
      exact q _ s1
abbrev sRd : Stmt := topS 21
theorem scRd : FnScope ["letters", "text", "row", "at", "width"] ["letters", "text"] (defScope sRd) := ⟨rfl, rfl, rfl, by decide +kernel, rfl, by decide +kernel, by decide +kernel⟩
theorem ok_rd {f f1 : Addr} {fd fd1 : FuncData} (F : Fun K "read_row" "read_row" sRd f fd) (ml : mg "len" = none) (c1 : Cl P w K mg base "blank_width" 2 ["letters", "text", "at"] spBw f1 fd1) (mE : ∃ t, mg "EMPTY_TEXT" = some (.str "-" t)) :
    FnOk P w K mg base CX0 3 f fd ["letters", "text"] spRd := by
  obtain ⟨tE, mE⟩ := mE
  refine F.ok scRd (fun vs H Q E h => ?_) (fun cdv A outer s H vs Q E hr h => ?_)
  · obtain ⟨gs, t, its, rfl, _⟩ := h
    rfl
  · obtain ⟨gs, t, its, rfl, hg, hl, hrd, q⟩ := h
    refine ⟨_, pss_cons (ps_if (pt_cmpR op_eq (pv 1) (pe_glob (v := .str (Str.ofString "-")) (by rfl) mE ⟨_, rfl⟩) (nomark _)) (pss_one (ps_ret (pe_lst pa_nil))) pss_nil)
      (pss_cons (ps_if (pt_cmpR op_eq (pv 1) pe_str (nomark _)) pss_never pss_nil)
      (pss_cons (ps_set (i := 2) scRd.nd rfl (.inl rfl) (pe_lst pa_nil))
      (pss_cons (ps_set (i := 3) scRd.nd rfl (.inl rfl) pe_int)
      (pss_cons (ps_while PassesOwn.never (pt_cmpR op_lt (pv 3) (pe_callB call_len_str (by rfl) ml PySem.boot_len (pa_cons (pv 1) pa_nil)) (nomark _))
        (pss_one (ps_if (pt_cmpR op_in_sign (pe_ix ix_str (pv 1) (pv 3) (fun _ _ => rfl)) (pv 0) rfl)
          (pss_cons (ps_expr (pe_bm PySem.F.plainAttrs_list PySem.F.slot_list_append PySem.F.type_list_append mt_append (pv 2) (pa_cons (pe_ix ix_str (pv 1) (pv 3) (fun _ _ => rfl)) pa_nil)))
            (pss_one (ps_set (i := 3) scRd.nd rfl (.inl rfl) (pe_op op_add (pv 3) pe_int))))
          (pss_cons (ps_set (i := 4) scRd.nd rfl (.inl rfl) (pe_cl c1 hr (by decide) (by rfl) (pa_cons (pv 0) (pa_cons (pv 1) (pa_cons (pv 3) pa_nil)))))
          (pss_cons (ps_if (pt_cmpR op_eq (pv 4) pe_int (nomark _)) pss_never pss_nil)
          (pss_cons (ps_expr (pe_bm PySem.F.plainAttrs_list PySem.F.slot_list_append PySem.F.type_list_append mt_append (pv 2) (pa_cons
            (pe_ifExp (pt_cmpR op_eq (pv 4) pe_int (nomark _)) (pv 0) (pe_slice C8.sl_txt (pv 1) (po_some (pe_op op_add (pv 3) pe_int)) (po_some (pe_op op_sub (pe_op op_add (pv 3) (pv 4)) pe_int)))) pa_nil)))
            (pss_one (ps_set (i := 3) scRd.nd rfl (.inl rfl) (pe_op op_add (pv 3) (pv 4))))))))))
      (pss_one (ps_ret (pv 2))))))), ?_⟩
    have ob : Str.ofString "-" = S [45] := by decide +kernel
    refine ⟨_, rfl, rfl, _, rfl, ?_⟩
    rw [ob]
    rcases hrd with ⟨rfl, rfl⟩ | ⟨hne, zs, hf, rfl⟩
    · rw [decide_eq_true rfl]
      refine iteT ⟨Nat.zero_le _, fun p np => ?_⟩
      exact q _ p (same_new np) np upd_same
    obtain ⟨c0, r0, hz0, hc0⟩ : ∃ c r, zs.flatten = c :: r ∧ c ≠ 45 := by
      cases hf with
      | nil => exact absurd rfl hne
      | cons h1 h2 =>
        obtain ⟨c, r, e, h⟩ := form_head hg h1
        exact ⟨c, r ++ _, by rw [List.flatten_cons, e]; rfl, h⟩
    rw [decide_eq_false (fun e => by
      have := S_inj (V.str.inj e)
      rw [hz0] at this
      exact hc0 (List.cons.inj this).1)]
    refine iteF ⟨_, rfl, rfl, _, rfl, ?_⟩
    rw [empty_S, decide_eq_false (fun e => by
      have := S_inj (V.str.inj e)
      rw [hz0] at this
      cases this)]
    refine iteF ⟨Nat.zero_le _, fun D nD => ?_⟩
    have hz : (S zs.flatten).length ≤ sizeLine := by rw [S_len]; exact small hl
    have zl : ((S zs.flatten).length : Int) = (zs.flatten.length : Int) := by rw [S_len]
    have g123 : 123 ∉ gs := fun h => by have := hg.az _ h; omega
    refine ⟨fun m σ H' => ∃ dn its' zs' pre w, its = dn ++ its' ∧ Forms gs its' zs' ∧ zs.flatten = pre ++ zs'.flatten ∧ σ = [some (tx gs), some (tx zs.flatten), some (.ref D), some (.int (pre.length : Int)), w] ∧ Same H H' ∧ H' D = some (.lst (dn.map tx)) ∧ dn.length ≤ pre.length ∧ m = its'.length,
      ⟨its.length, [], its, zs, [], none, rfl, hf, rfl, rfl, same_new nD, upd_same, Nat.le_refl _, rfl⟩, ?_⟩
    rintro m σ H' ⟨dn, its', zs', pre, w, e1, hf', e2, rfl, s1, hD, hdn, rfl⟩
    refine ⟨_, rfl, _, rfl, _, rfl, hz, _, _, rfl, rfl, _, rfl, ?_⟩
    rw [zl]
    have e2l := congrArg List.length e2
    rw [List.length_append] at e2l
    cases hf' with
    | nil =>
      rw [decide_eq_false (by rw [e2l]; show ¬ (pre.length : Int) < ((pre.length + 0 : Nat) : Int); omega)]
      refine iteF ⟨_, rfl, ?_⟩
      rw [List.append_nil] at e1
      rw [← e1] at hD
      exact q _ _ s1 nD hD
    | @cons x z its2 zs2 h1 h2 =>
      have hzn : 0 < z.length := List.length_pos_iff.mpr (form_ne h1)
      rw [List.flatten_cons] at e2 e2l
      rw [List.length_append] at e2l
      rw [decide_eq_true (by omega)]
      have e3 : zs.flatten = pre ++ z ++ zs2.flatten := by rw [e2, List.append_assoc]
      have dnl : (dn.map tx).length < sizeLine := by rw [List.length_map]; exact small1000 (by omega)
      refine iteT ⟨fun σ' H'' => ∃ w', σ' = [some (tx gs), some (tx zs.flatten), some (.ref D), some (.int ((pre ++ z).length : Int)), w'] ∧ Same H H'' ∧ H'' D = some (.lst ((dn ++ [x]).map tx)),
        fun σ' H'' ⟨w', ea, eb, ec⟩ => ⟨its2.length, by show _ < its2.length + 1; omega, dn ++ [x], its2, zs2, pre ++ z, w', by rw [e1]; simp, h2, e3, ea, eb, ec, by rw [List.length_append, List.length_append]; show _ + 1 ≤ _; omega, rfl⟩, ?_⟩
      obtain ⟨c, zr, hzc⟩ : ∃ c r, z = c :: r := by
        obtain ⟨c, r, e, _⟩ := form_head hg h1
        exact ⟨c, r, e⟩
      have hat : (zs.flatten)[pre.length]? = some c := by rw [e3, hzc]; simp
      refine ⟨_, rfl, _, rfl, _, _, c, rfl, rfl, hz, atI_nat hat, _, rfl, c, _, rfl, rfl, _, rfl, ?_⟩
      show (if decide (c ∈ gs) = true then _ else _)
      cases h1 with
      | one hc =>
        obtain ⟨rfl, _⟩ := List.cons.inj hzc
        rw [decide_eq_true hc]
        refine iteT ⟨_, rfl, .inl ⟨rfl, _, .inl (.inl hD)⟩, _, rfl, _, rfl, _, _, _, rfl, rfl, hz, atI_nat hat, D, _, _, rfl, rfl, hD, dnl, ?_⟩
        refine ⟨_, rfl, _, _, rfl, rfl, ?_⟩
        refine ⟨w, ?_, same_put s1 nD, ?_⟩
        · rw [List.length_append]
          rfl
        · rw [upd_same, List.map_append]
          rfl
      | turn hp =>
        obtain ⟨rfl, _⟩ := List.cons.inj hzc
        rw [decide_eq_false g123]
        have hxl := hp.length_eq
        have hx2 : 2 ≤ x.length := by rw [hxl]; exact hg.lo
        refine iteF ⟨_, rfl, _, rfl, _, rfl, gs, pre, zs2.flatten, x, [123] ++ x ++ [125], by rw [e3]; rfl, hg, by rw [← e3]; exact hl, .inr ⟨hp, rfl, fun H3 s3 => ?_⟩⟩
        have hD3 := s3 _ _ hD
        refine ⟨_, rfl, rfl, _, rfl, ?_⟩
        rw [decide_eq_false (fun e => by have := V.int.inj e; omega)]
        refine iteF ⟨_, rfl, .inl ⟨rfl, _, .inl (.inl hD3)⟩, _, rfl, rfl, _, rfl, ?_⟩
        rw [decide_eq_false (fun e => by have := V.int.inj e; omega)]
        refine iteF ?_
        have e4 : Txt.slice (S zs.flatten) (some ((pre.length : Int) + 1)) (some ((pre.length : Int) + ((gs.length : Int) + 2) - 1)) = S x := by
          have e : zs.flatten = (pre ++ [123]) ++ x ++ ([125] ++ zs2.flatten) := by rw [e3]; simp
          rw [e]
          refine mid_app ?_ ?_
          · simp only [List.length_append, List.length_singleton]
            omega
          · simp only [List.length_append, List.length_singleton]
            omega
        refine ⟨_, rfl, _, rfl, _, _, rfl, rfl, _, rfl, _, rfl, _, rfl, _, _, rfl, rfl, _, _, rfl, rfl, _, rfl, _, rfl, hz, D, _, _, rfl, rfl, hD3, dnl, ?_⟩
        rw [e4]
        refine ⟨_, rfl, _, rfl, _, _, rfl, rfl, ?_⟩
        refine ⟨some (.int ((gs.length : Int) + 2)), ?_, same_put (s1.trans s3) nD, ?_⟩
        · have e : ((pre ++ ([123] ++ x ++ [125])).length : Int) = (pre.length : Int) + ((gs.length : Int) + 2) := by
            simp only [List.length_append, List.length_singleton]
            omega
          rw [e]
          rfl
        · rw [upd_same, List.map_append]
          rfl
      | plain =>
        obtain ⟨rfl, _⟩ := List.cons.inj hzc
        rw [decide_eq_false g123]
        refine iteF ⟨_, rfl, _, rfl, _, rfl, gs, pre, zs2.flatten, [], [123, 125], by rw [e3]; rfl, hg, by rw [← e3]; exact hl, .inl ⟨rfl, fun H3 s3 => ?_⟩⟩
        have hD3 := s3 _ _ hD
        refine ⟨_, rfl, rfl, _, rfl, ?_⟩
        rw [decide_eq_false (fun e => by have := V.int.inj e; omega)]
        refine iteF ⟨_, rfl, .inl ⟨rfl, _, .inl (.inl hD3)⟩, _, rfl, rfl, _, rfl, ?_⟩
        rw [decide_eq_true rfl]
        refine iteT ⟨_, rfl, D, _, _, rfl, rfl, hD3, dnl, ?_⟩
        refine ⟨_, rfl, _, rfl, _, _, rfl, rfl, ?_⟩
        refine ⟨some (.int 2), ?_, same_put (s1.trans s3) nD, ?_⟩
        · have e : ((pre ++ [123, 125]).length : Int) = (pre.length : Int) + 2 := by
            simp only [List.length_append]
            rfl
          rw [e]
          rfl
        · rw [upd_same, List.map_append]
          rfl
abbrev sCheckL : Stmt := topS 12
theorem scCheckL : FnScope ["letters", "at", "letter"] ["letters"] (defScope sCheckL) :=
  ⟨rfl, rfl, rfl, by decide +kernel, rfl, by decide +kernel, by decide +kernel⟩
theorem ok_checkLn {f : Addr} {fd : FuncData} (F : Fun K "check_letters" "check_letters" sCheckL f fd)
    (me : mg "enumerate" = none) (ml : mg "len" = none) (mL : ∃ t, mg "LEAST_LETTERS" = some (.int 2 t)) (mM : ∃ t, mg "MOST_LETTERS" = some (.int 4 t)) (mA : ∃ t, mg "LOWERCASE" = some (.str "abcdefghijklmnopqrstuvwxyz" t)) :
    FnOk P w K mg base CX0 1 f fd ["letters"] spCLn := by
  obtain ⟨tL, mL⟩ := mL
  obtain ⟨tM, mM⟩ := mM
  obtain ⟨tA, mA⟩ := mA
  refine F.ok scCheckL (fun vs H Q E h => ?_) (fun cdv A outer s H vs Q E hr h => ?_)
  · obtain ⟨cs, rfl, _⟩ := h
    rfl
  · obtain ⟨cs, rfl, hg, q⟩ := h
    refine ⟨_, pss_cons (ps_if (pt_not (pt_chain op_le op_le (pe_glob (v := .int 2) (by rfl) mL ⟨_, rfl⟩) (pe_callB call_len_str (by rfl) ml PySem.boot_len (pa_cons (pv 0) pa_nil)) (pe_glob (v := .int 4) (by rfl) mM ⟨_, rfl⟩)))
        pss_never pss_nil)
      (pss_one (ps_for PassesOwn.never rfl (pi_enS (by rfl) me (pa_cons (pv 0) pa_nil))
        (pg_tup rfl (pgs_cons (pg_name (i := 1) scCheckL.nd rfl (.inl rfl)) (pgs_cons (pg_name (i := 2) scCheckL.nd rfl (.inl rfl)) pgs_nil)))
        (pss_one (ps_if (PW.pt (pw_or (pt_cmpR op_notIn_sign (pv 2) (pe_glob (v := .str (Str.ofString "abcdefghijklmnopqrstuvwxyz")) (by rfl) mA ⟨_, rfl⟩) rfl) (pw_or1 (pt_cmpR op_in_sign (pv 2) (pe_slice C8.sl_txt (pv 0) po_none (po_some (pv 1))) rfl))))
          pss_never pss_nil)))), ?_⟩
    have hz : (S cs).length ≤ sizeLine := by rw [S_len]; exact small (by have := hg.hi; omega)
    have hbs : ((S cs).length : Int) = (cs.length : Int) := by rw [S_len]
    refine ⟨_, rfl, _, rfl, hz, _, _, rfl, rfl, _, rfl, ?_⟩
    rw [hbs]
    have h1 := hg.lo
    have h2 := hg.hi
    refine ite2 (fun h => ?_) (fun h => absurd (decide_eq_true (by omega)) h)
    refine ⟨_, _, rfl, rfl, _, rfl, ?_⟩
    have e : decide ((cs.length : Int) ≤ 4) = true := decide_eq_true (by omega)
    rw [e]
    refine iteF ?_
    refine ⟨_, rfl, _, rfl, for_it (walkE (z := S cs)) (fun i σ H' => ∃ v1 v2, σ = [some (.str (S cs)), v1, v2] ∧ Same H H')
      ⟨none, none, rfl, Same.refl _⟩ (fun _ _ _ _ _ => trivial) ?_ ?_⟩
    · rintro i x σ H' H'' hi ⟨v1, v2, rfl, s1⟩ ⟨T, c, rfl, nT, hc, rfl⟩
      have hc2 : cs[i]? = some c := by rw [← List.getElem?_toArray]; exact hc
      have s2 := s1.trans (same_new (o := .tup [.int (i : Nat), .str ⟨#[c]⟩]) nT)
      refine ⟨T, _, rfl, .inl (.inl upd_same), rfl, _, _, rfl, _, _, rfl, rfl, ?_⟩
      refine ⟨_, rfl, c, _, rfl, rfl, _, rfl, ?_⟩
      have hcm : c ∈ cs := List.mem_of_getElem? hc2
      have hl2 := hg.az c hcm
      have e : (!decide (c ∈ (Str.ofString "abcdefghijklmnopqrstuvwxyz").cps.toList)) = false := by
        rw [az]
        show (!decide (c ∈ List.range' 97 26)) = false
        rw [decide_eq_true (List.mem_range'.mpr ⟨c - 97, by omega, by omega⟩)]
        rfl
      rw [e]
      refine ⟨_, rfl, _, rfl, _, rfl, _, rfl, _, rfl, hz, c, _, rfl, rfl, _, rfl, ?_⟩
      rw [slice_to (a := cs) (i := ((i : Nat) : Int)) (by omega)]
      show (if decide (c ∈ cs.take (((i : Nat) : Int).toNat)) = true then _ else _)
      rw [Int.toNat_natCast]
      have ht : cs.take (i + 1) = cs.take i ++ [c] := by rw [List.take_add_one, hc2]; rfl
      refine ite2 (fun hin => ?_) (fun hin => ⟨_, _, rfl, s2⟩)
      have nd2 : (cs.take i ++ [c]).Nodup := by
        rw [← ht]
        exact (List.take_sublist _ _).nodup hg.nd
      exact absurd rfl ((List.nodup_append.mp nd2).2.2 c (of_decide_eq_true hin) c (List.mem_singleton.mpr rfl))
    · rintro σ H' ⟨v1, v2, rfl, s1⟩
      exact q _ s1
abbrev sTi : Stmt := inClass (topS 26) 0
theorem scTi : FnScope ["self", "letters", "text"] ["self", "letters", "text"] (defScope sTi) := ⟨rfl, rfl, rfl, by decide +kernel, rfl, by decide +kernel, by decide +kernel⟩
theorem ok_ti {f f1 f2 C : Addr} {fd fd1 fd2 : FuncData} (F : Fun K "__init__" "Template.__init__" sTi f fd) (T : TmC K C) (mt : mg "tuple" = none)
    (c1 : Cl P w K mg base "check_letters" 1 ["letters"] spCLn f1 fd1) (c2 : Cl P w K mg base "read_row" 3 ["letters", "text"] spRd f2 fd2) :
    FnOk P w K mg base CX0 4 f fd ["self", "letters", "text"] (spTi C) := by
  refine F.ok scTi (fun vs H Q E h => ?_) (fun cdv A outer s H vs Q E hr h => ?_)
  · obtain ⟨x, dx, gs, t, its, rfl, _⟩ := h
    rfl
  · obtain ⟨x, dx, gs, t, its, rfl, hx, hg, hl, hrd, q⟩ := h
    refine ⟨_, pss_cons (ps_expr (pe_cl c1 hr (by decide) (by rfl) (pa_cons (pv 1) pa_nil)))
      (pss_cons (ps_fld (pv 0) (pv 1) (by rfl))
      (pss_one (ps_fld (pv 0) (pe_callTy call_tuple_of (by rfl) mt (by decide +kernel) (pa_cons (pe_cl c2 hr (by decide) (by rfl) (pa_cons (pv 1) (pa_cons (pv 2) pa_nil))) pa_nil)) (by rfl)))), ?_⟩
    refine ⟨_, rfl, gs, rfl, hg, fun H1 s1 => ?_⟩
    refine ⟨_, rfl, _, rfl, x, C, dx, _, rfl, s1 _ _ hx, T.cls, T.na, (by show 0 < 1000; decide), ?_⟩
    refine ⟨_, rfl, _, rfl, gs, t, its, rfl, hg, hl, hrd, fun H2 p s2 np hp => ?_⟩
    refine ⟨p, _, rfl, .inl ⟨.inl (.inl hp), fun l nl => ?_⟩⟩
    have h2 := s2 _ _ (upd_same (H := H1) (a := x) (o := .ins C dx (putF "alphabet" (tx gs) [])))
    have nxl : x ≠ l := ne_of_none h2 nl
    refine ⟨_, rfl, x, C, dx, _, rfl, by rw [upd_ne nxl]; exact h2, T.cls, T.np, (by show 1 < 1000; decide), ?_⟩
    refine q _ (fun b o nb e => ?_) ⟨dx, l, upd_same, by rw [upd_ne nxl.symm, upd_same]⟩
    rw [upd_ne nb]
    refine same_new nl _ _ (s2 _ _ ?_)
    rw [upd_ne nb]
    exact s1 _ _ e
/-- Template(letters, text) -/
theorem tm_mk {C : Addr} {σ : L2.St} {H : Hp} {Q : VK} {ta : TA} {gs t : List Nat} {its : List (List Nat)} (h : ∀ k : List V → Hp → Prop, (∀ H1, Same H H1 → k [tx gs, tx t] H1) → ta σ H k) (hg : Good gs) (hl : t.length ≤ 1000) (hrd : Rd gs its t)
    (q : ∀ H' p, Same H H' → H p = none → Tm C H' p gs its → Q (.ref p) H') : tMake C (spTi C) [] E0 ta σ H Q := by
  refine h _ fun H1 s1 x dx nx nd ne => ?_
  refine ⟨x, dx, gs, t, its, rfl, upd_same, hg, hl, hrd, fun H2 k tm => ⟨rfl, ?_⟩⟩
  have hn : H x = none := by
    cases e : H x with
    | none => rfl
    | some o => rw [s1 _ _ e] at nx; cases nx
  refine q _ _ (fun b o e => ?_) hn tm
  have e1 := s1 _ _ e
  refine k b o (ne_of_none e1 nx) ?_
  rw [upd_ne (ne_of_none e1 nx), upd_ne (ne_of_none e1 nd)]
  exact e1
abbrev sRow : Stmt := inClass (topS 26) 6
theorem scRow : FnScope ["self"] ["self"] (defScope sRow) := ⟨rfl, rfl, rfl, by decide +kernel, rfl, by decide +kernel, by decide +kernel⟩
abbrev sText : Stmt := inClass (topS 26) 8
theorem scText : FnScope ["self"] ["self"] (defScope sText) := ⟨rfl, rfl, rfl, by decide +kernel, rfl, by decide +kernel, by decide +kernel⟩
theorem ok_text {f f1 C : Addr} {fd fd1 : FuncData} (F : Fun K "text" "Template.text" sText f fd) (T : TmC K C) (c1 : Cl P w K mg base "row_text" 3 ["letters", "row"] (spRt K) f1 fd1) :
    FnOk P w K mg base CX0 4 f fd ["self"] (spText C) := by
  refine F.ok scText (fun vs H Q E h => ?_) (fun cdv A outer s H vs Q E hr h => ?_)
  · obtain ⟨a, gs, its, rfl, _⟩ := h
    rfl
  · obtain ⟨a, gs, its, rfl, ⟨dx, p, ha, hp⟩, hg, hl, hx, q⟩ := h
    refine ⟨_, pss_one (ps_ret (pe_cl c1 hr (by decide) (by rfl) (pa_cons (pe_fld (pv 0) (by rfl)) (pa_cons (pe_fld (pv 0) (by rfl)) pa_nil)))), ?_⟩
    exact ⟨_, rfl, a, C, dx, _, _, rfl, ha, T.cls, T.na, rfl, _, rfl, a, C, dx, _, _, rfl, ha, T.cls, T.np, rfl, gs, p, its, rfl, hg, .inr (.inl (.inl hp)), hl, hx, q⟩
abbrev sItems : Stmt := topS 55
theorem scItems : FnScope ["_law_rng", "_law_signs", "_law_most", "_law_found", "_law_k"] ["_law_rng", "_law_signs", "_law_most"] (defScope sItems) := ⟨rfl, rfl, rfl, by decide +kernel, rfl, by decide +kernel, by decide +kernel⟩
theorem ok_items {f f1 f2 f3 : Addr} {fd fd1 fd2 fd3 : FuncData} (F : Fun K "_law_items" "_law_items" sItems f fd) (mr : mg "range" = none)
    (c1 : Cl P w K mg base "_law_draw" 1 ["_law_rng", "_law_sides"] spDraw f1 fd1) (c2 : Cl P w K mg base "_law_turn" 2 ["_law_rng", "_law_signs"] spTurn f2 fd2) (c3 : Cl P w K mg base "_law_pick" 2 ["_law_rng", "_law_things"] (spPick K) f3 fd3) :
    FnOk P w K mg base CX0 3 f fd ["_law_rng", "_law_signs", "_law_most"] spItems := by
  refine F.ok scItems (fun vs H Q E h => ?_) (fun cdv A outer s H vs Q E hr h => ?_)
  · obtain ⟨r, gs, m, rfl, _⟩ := h
    rfl
  · obtain ⟨r, gs, m, rfl, hg, m0, m1, R, q⟩ := h
    refine ⟨_, pss_cons (ps_set (i := 3) scItems.nd rfl (.inl rfl) (pe_lst pa_nil))
      (pss_cons (ps_for PassesOwn.never rfl (pi_range1 rfl mr (pa_cons (pe_cl c1 hr (by decide) (by rfl) (pa_cons (pv 0) (pa_cons (pe_op op_add (pv 2) pe_int) pa_nil))) pa_nil)) (pg_name (i := 4) scItems.nd rfl (.inl rfl))
        (pss_one (ps_expr (pe_bm PySem.F.plainAttrs_list PySem.F.slot_list_append PySem.F.type_list_append mt_append (pv 3) (pa_cons
          (pe_ifExp (pt_cmpR op_eq (pe_cl c1 hr (by decide) (by rfl) (pa_cons (pv 0) (pa_cons pe_int pa_nil))) pe_int (nomark _)) (pe_cl c2 hr (by decide) (by rfl) (pa_cons (pv 0) (pa_cons (pv 1) pa_nil)))
            (pe_cl c3 hr (by decide) (by rfl) (pa_cons (pv 0) (pa_cons (pv 1) pa_nil)))) pa_nil)))))
      (pss_one (ps_ret (pv 3)))), ?_⟩
    refine ⟨Nat.zero_le _, fun D nD => ?_⟩
    have s0 := same_new (o := .lst []) nD
    obtain ⟨xr, er⟩ := R.ex
    have nDr : D ≠ r := (ne_of_none er nD).symm
    refine ⟨_, rfl, _, rfl, _, _, rfl, rfl, r, _, rfl, by omega, by omega, R.same s0, fun H1 k g1 k0 k1 => ?_⟩
    obtain ⟨n, rfl⟩ := Int.eq_ofNat_of_zero_le k0
    have G1 : Go r H H1 := Go.after R s0 g1
    refine ⟨_, rfl, by omega, by omega, ?_⟩
    refine for_range (lo := 0) (n := (n : Int).toNat)
      (fun i σ H' => ∃ v its, σ = [some (.ref r), some (tx gs), some (.int m), some (.ref D), v] ∧ Go r H H' ∧ H' D = some (.lst (its.map tx)) ∧ Row gs its ∧ its.length = i)
      ⟨none, [], rfl, G1, g1.1 _ _ nDr upd_same, (fun x hx => nomatch hx), rfl⟩ ?_ ?_
    · rintro i σ H' hi ⟨v, its, rfl, g, hD, hR, hl⟩
      refine ⟨_, rfl, .inl ⟨rfl, _, .inl (.inl hD)⟩, _, rfl, r, 2, rfl, by decide, by decide, g.rng, fun H2 d g2 d0 d1 => ?_⟩
      have hD2 := g2.1 _ _ nDr hD
      have dl : (its.map tx).length < sizeLine := by rw [List.length_map]; exact small1000 (by omega)
      refine ⟨rfl, _, rfl, ?_⟩
      refine ite2 (fun _ => ?_) (fun _ => ?_)
      · refine ⟨_, rfl, _, rfl, r, gs, rfl, by have := hg.hi; omega, g2.rng, fun H3 t g3 pt => ?_⟩
        refine ⟨D, _, _, rfl, rfl, g3.1 _ _ nDr hD2, dl, _, its ++ [t], rfl, ((g.trans g2).trans g3).put nD, ?_, fun x hx => ?_, by rw [List.length_append, hl]; rfl⟩
        · rw [upd_same, List.map_append]
          rfl
        · rcases List.mem_append.mp hx with h | h
          · exact hR x h
          · rw [List.mem_singleton.mp h]; exact .inr pt
      · refine ⟨_, rfl, _, rfl, r, _, rfl, g2.rng, .inr ⟨gs, rfl, by have := hg.lo; omega, by have := hg.hi; omega, fun H3 c g3 hc => ?_⟩⟩
        refine ⟨D, _, _, rfl, rfl, g3.1 _ _ nDr hD2, dl, _, its ++ [[c]], rfl, ((g.trans g2).trans g3).put nD, ?_, fun x hx => ?_, by rw [List.length_append, hl]; rfl⟩
        · rw [upd_same, List.map_append]
          rfl
        · rcases List.mem_append.mp hx with h | h
          · exact hR x h
          · rw [List.mem_singleton.mp h]; exact .inl ⟨c, hc, rfl⟩
    · rintro σ H' ⟨v, its, rfl, g, hD, hR, hl⟩
      exact ⟨_, rfl, q _ _ its g nD hD hR (by omega)⟩
abbrev sLx : Stmt := topS 56
theorem scLx : FnScope ["_law_signs", "_law_items_here", "_law_found", "_law_item"] ["_law_signs", "_law_items_here"] (defScope sLx) := ⟨rfl, rfl, rfl, by decide +kernel, rfl, by decide +kernel, by decide +kernel⟩
theorem ok_lx {f : Addr} {fd : FuncData} (F : Fun K "_law_text" "_law_text" sLx f fd) (ml : mg "len" = none) :
    FnOk P w K mg base CX0 1 f fd ["_law_signs", "_law_items_here"] (spLx K) := by
  refine F.ok scLx (fun vs H Q E h => ?_) (fun cdv A outer s H vs Q E hr h => ?_)
  · obtain ⟨gs, a, its, rfl, _⟩ := h
    rfl
  · obtain ⟨gs, a, its, rfl, hg, hR, hl, hs, q⟩ := h
    refine ⟨_, pss_cons (ps_set (i := 2) scLx.nd rfl (.inl rfl) (pe_join pe_str (pe_lc (own := [("_law_item", 3)]) (g := gName 3) (tt := tYes) rfl scLx.nd (pi_list (pv 1))
        (blkOk_by (N := ["_law_signs", "_law_items_here", "_law_found", "_law_item"]) (sc := defScope sLx) (by decide +kernel))
        (fun _ _ _ _ _ => pg_name (i := 3) scLx.nd rfl (Or.inl rfl)) (fun _ _ _ _ _ => pts_nil)
        (fun _ _ _ _ _ => pe_ifExp (pt_cmpR op_eq (pe_callB call_len_str (by rfl) ml PySem.boot_len (pa_cons (pv 3) pa_nil)) pe_int (nomark _)) (pv 3)
          (pe_ifExp (pt_cmpR op_eq (pv 3) (pv 0) (nomark _)) pe_str (pe_op op_add_str (pe_op op_add_str pe_str (pv 3)) pe_str))))))
      (pss_one (ps_ret (pe_ifExp (pt_cmpR (op_neD hr.units) (pv 1) (pe_lst pa_nil) (nomark _)) (pv 2) pe_str))), ?_⟩
    have o0 : Str.ofString "{}" = S [123, 125] := by decide +kernel
    have o1 : Str.ofString "{" = S [123] := by decide +kernel
    have o2 : Str.ofString "}" = S [125] := by decide +kernel
    refine ⟨⟨_, rfl⟩, _, rfl, a, rfl, ⟨_, hs⟩, fun D nD => ?_⟩
    refine lc_list (K := K) (a := a) (xs := its.map tx) (fun i H' => Same H H' ∧ H' D = some (.lst (((its.take i).map (iTx gs)).map tx))) ⟨same_new nD, upd_same⟩ (fun _ _ _ h => h.1.seq hs) ?_ ?_
    · rintro i y H' hy ⟨s1, hD⟩
      obtain ⟨x, hx2, rfl⟩ := get_tx hy
      have hxm := List.mem_of_getElem? hx2
      have hx4 := row_len hg hR x hxm
      have hx0 := row_pos hg hR x hxm
      have hzx : (S x).length ≤ sizeLine := by rw [S_len]; exact small (by omega)
      have dl : (((its.take i).map (iTx gs)).map tx).length < sizeLine := by
        rw [List.length_map, List.length_map, List.length_take]
        exact small1000 (by omega)
      have fin : ∀ z : List Nat, z = iTx gs x → ∃ acc, H' D = some (.lst acc) ∧ acc.length < sizeLine ∧ (Same H (upd H' D (.lst (acc ++ [tx z]))) ∧ upd H' D (.lst (acc ++ [tx z])) D = some (.lst (((its.take (i + 1)).map (iTx gs)).map tx))) := by
        rintro z rfl
        refine ⟨_, hD, dl, same_put s1 nD, ?_⟩
        rw [upd_same, List.take_add_one, hx2]
        simp
      refine ⟨rfl, _, rfl, _, rfl, hzx, rfl, _, rfl, ?_⟩
      by_cases h1 : x.length = 1
      · rw [decide_eq_true (by rw [S_len, h1]; rfl)]
        refine iteT ⟨_, rfl, fin x ?_⟩
        unfold iTx
        rw [if_neg (by omega)]
      · rw [decide_eq_false (fun e => h1 (by have := V.int.inj e; rw [S_len] at this; omega))]
        refine iteF ⟨_, rfl, _, rfl, rfl, _, rfl, ?_⟩
        by_cases h2 : x = gs
        · rw [decide_eq_true (by rw [h2]), o0]
          refine iteT (fin [123, 125] ?_)
          unfold iTx
          rw [if_pos (by omega), if_pos h2]
        · rw [decide_eq_false (fun e => h2 (S_inj (V.str.inj e)))]
          have e3 : S [123] ++ S x ++ S [125] = S ([123] ++ x ++ [125]) := by
            rw [show S [123] ++ S x = S ([123] ++ x) from S_cat _ _]
            exact S_cat _ _
          refine iteF ⟨_, rfl, _, _, rfl, rfl, ?_, _, _, rfl, rfl, ?_, ?_⟩
          · rw [o1, S_len, S_len]
            exact small (by show 1 + _ ≤ 1000; omega)
          · rw [o1, o2, show S [123] ++ S x = S ([123] ++ x) from S_cat _ _, S_len, S_len, List.length_append]
            exact small (by show 1 + _ + 1 ≤ 1000; omega)
          · rw [o1, o2, e3]
            refine fin _ ?_
            unfold iTx
            rw [if_pos (by omega), if_neg h2]
    · rintro H' ⟨s1, hD⟩
      rw [List.length_map, List.take_length] at hD
      refine ⟨_, D, (its.map (iTx gs)).map S, rfl, rfl, .inl (.inl (.inl ?_)), ?_, ?_⟩
      · rw [hD]
        simp
      · rw [sum_len]
        have := flat_len (f := iTx gs) (m := 6) (its := its) fun x hx => Nat.le_trans iTx_len (by have := row_len hg hR x hx; omega)
        show _ + _ * 0 ≤ _
        omega
      · rw [joinT]
        refine ⟨_, rfl, Nat.zero_le _, fun l nl => ?_⟩
        have s2 := same_new (o := .lst []) nl
        have ha : SqL K (upd H' l (.lst [])) a ((its.map S).map V.str) := by
          have := (s1.trans s2).seq hs
          rw [List.map_map]
          exact this
        have gaz : ∀ x ∈ its, ∀ k ∈ x, k < 128 := fun x hx k hk => by have := hg.az k (row_mem hR x hx k hk); omega
        refine ⟨_, _, .lst ha (dp_all its), .lst (.inl (.inl upd_same)) .nil, shp_tx gaz, by decide +kernel, ?_⟩
        rw [show PyData.eqv (.list (its.map fun c => PyData.str (S c))) (.list []) = decide (its = []) from eqvAll_tx its []]
        have qq := q _ (s1.trans s2)
        unfold rTx at qq
        by_cases h0 : its = []
        · rw [if_pos h0] at qq
          rw [decide_eq_true h0]
          exact ⟨false, rfl, iteF qq⟩
        · rw [if_neg h0] at qq
          rw [decide_eq_false h0]
          exact ⟨true, rfl, iteT ⟨_, rfl, qq⟩⟩
end
end Own

namespace Own
open PySem PySem.Spec PyProof.Rows L2 SX RZ
section
variable {P : Program} {w : World} {K : PySem.W.Frag} {mg : Str → Option Value} {base : Heap}
def spCan : Sp := fun vs H Q _ => ∃ gs : List Nat, ∃ b s d : Nat, vs = [tx gs, tx [b], tx [s], iv d] ∧ ∀ H', Same H H' → Q (.bl (Cnd.can gs b s d)) H'
abbrev sCan : Stmt := topS 28
abbrev canN : List Str := ["letters", "before", "sign", "depth"]
theorem scCan : FnScope canN ["letters", "before", "sign", "depth"] (defScope sCan) := ⟨rfl, rfl, rfl, by decide +kernel, rfl, by decide +kernel, by decide +kernel⟩
theorem ok_can {f : Addr} {fd : FuncData} (F : Fun K "can_stand" "can_stand" sCan f fd) :
    FnOk P w K mg base CX0 1 f fd ["letters", "before", "sign", "depth"] spCan := by
  refine F.ok scCan (fun vs H Q E h => ?_) (fun cdv A outer s H vs Q E hr h => ?_)
  · obtain ⟨gs, b, s0, d, rfl, _⟩ := h
    rfl
  · obtain ⟨gs, b, s0, d, rfl, q⟩ := h
    refine ⟨_, (pss_cons (ps_if (pt_cmpR op_eq (pv 2) pe_str (nomark _)) (pss_one (ps_ret (L2.pe_or (pe_cmpR op_in_sign (pv 1) (pv 0) (by rfl)) (pe_one (pe_cmpR op_in_seq (pv 1) (pe_tup (pa_cons pe_str (pa_cons pe_str pa_nil))) (by rfl)))))) pss_nil)
      (pss_cons (ps_if (pt_cmpR op_eq (pv 2) pe_str (nomark _)) (pss_one (ps_ret (pe_cmpR op_gt (pv 3) pe_int (nomark _)))) pss_nil)
      (pss_one (ps_ret (L2.pe_or (pe_cmpR op_in_sign (pv 2) (pv 0) (by rfl)) (pe_one (pe_cmpR op_in_seq (pv 2) (pe_tup (pa_cons pe_str (pa_cons pe_str (pa_cons pe_str pa_nil)))) (by rfl)))))))), ?_⟩
    have z2 : ∀ m n : Nat, decide (V.str (S [m]) = V.str (S [n])) = decide (m = n) := fun m n => by
      rw [dec_str]
      by_cases e : m = n <;> simp [e]
    refine ⟨_, rfl, rfl, _, rfl, ?_⟩
    rw [show V.str (Str.ofString "*") = V.str (S [42]) from rfl, z2]
    unfold Cnd.can at q
    by_cases h1 : s0 = 42
    · simp only [if_pos h1] at q
      rw [decide_eq_true h1]
      refine iteT ?_
      refine ⟨_, rfl, _, rfl, b, S gs, rfl, rfl, _, rfl, ?_⟩
      have e0 : decide (b ∈ (S gs).cps.toList) = decide (b ∈ gs) := rfl
      rw [e0]
      by_cases h2 : b ∈ gs
      · rw [decide_eq_true h2] at q ⊢
        exact iteT (q _ (Same.refl _))
      · rw [decide_eq_false h2] at q ⊢
        refine iteF ⟨_, rfl, (by show 2 ≤ sizeLine; decide), fun T nT => ?_⟩
        refine ⟨T, _, rfl, .inr (sqT upd_same), rfl, rfl, ?_⟩
        have s1 := same_new (o := .tup [V.str (Str.ofString "."), V.str (Str.ofString ")")]) nT
        have e : inV (tx [b]) [V.str (Str.ofString "."), V.str (Str.ofString ")")] = (decide (b = 46) || decide (b = 41)) := by
          rw [show [V.str (Str.ofString "."), V.str (Str.ofString ")")] = [[46], [41]].map tx from rfl, inV_tx]
          simp
        show Q (.bl (inV (tx [b]) [V.str (Str.ofString "."), V.str (Str.ofString ")")])) _
        rw [e]
        exact q _ s1
    simp only [if_neg h1] at q
    rw [decide_eq_false h1]
    refine iteF ?_
    refine ⟨_, rfl, rfl, _, rfl, ?_⟩
    rw [show V.str (Str.ofString ")") = V.str (S [41]) from rfl, z2]
    by_cases h2 : s0 = 41
    · simp only [if_pos h2] at q
      rw [decide_eq_true h2]
      refine iteT ⟨_, rfl, _, _, rfl, rfl, ?_⟩
      show Q (V.bl (decide (((0 : Nat) : Int) < ((d : Nat) : Int)))) _
      rw [dec_lt]
      exact q _ (Same.refl _)
    simp only [if_neg h2] at q
    rw [decide_eq_false h2]
    refine iteF ?_
    refine ⟨_, rfl, _, rfl, s0, S gs, rfl, rfl, _, rfl, ?_⟩
    have e0 : decide (s0 ∈ (S gs).cps.toList) = decide (s0 ∈ gs) := rfl
    rw [e0]
    by_cases h3 : s0 ∈ gs
    · rw [decide_eq_true h3] at q ⊢
      exact iteT (q _ (Same.refl _))
    rw [decide_eq_false h3] at q ⊢
    refine iteF ⟨_, rfl, (by show 3 ≤ sizeLine; decide), fun T nT => ?_⟩
    refine ⟨T, _, rfl, .inr (sqT upd_same), rfl, rfl, ?_⟩
    have s1 := same_new (o := .tup [V.str (Str.ofString "."), V.str (Str.ofString "|"), V.str (Str.ofString "(")]) nT
    have e : inV (tx [s0]) [V.str (Str.ofString "."), V.str (Str.ofString "|"), V.str (Str.ofString "(")] = (decide (s0 = 46) || (decide (s0 = 124) || decide (s0 = 40))) := by
      rw [show [V.str (Str.ofString "."), V.str (Str.ofString "|"), V.str (Str.ofString "(")] = [[46], [124], [40]].map tx from rfl, inV_tx]
      simp
    show Q (.bl (inV (tx [s0]) [V.str (Str.ofString "."), V.str (Str.ofString "|"), V.str (Str.ofString "(")])) _
    rw [e]
    exact q _ s1
end
end Own

namespace Own
open PySem PySem.Spec PyProof.Rows L2 SX RZ
section
variable {P : Program} {w : World} {K : PySem.W.Frag} {mg : Str → Option Value} {base : Heap}
def spClo : Sp := fun vs H Q _ => ∃ (xs : List Nat) (n j : Nat), vs = [tx xs, iv n] ∧ Cnd.clo 1 (xs.drop n) n = some j ∧ xs.length ≤ 100000 ∧ ∀ H', Same H H' → Q (iv j) H'
abbrev sClo : Stmt := topS 36
abbrev cloN : List Str := ["text", "at", "depth", "place"]
theorem scClo : FnScope cloN ["text", "at"] (defScope sClo) := ⟨rfl, rfl, rfl, by decide +kernel, rfl, by decide +kernel, by decide +kernel⟩
theorem ok_clo {f : Addr} {fd : FuncData} (F : Fun K "closing_place" "closing_place" sClo f fd) (m_len : mg "len" = none) (m_range : mg "range" = none) :
    FnOk P w K mg base CX0 1 f fd ["text", "at"] spClo := by
  refine F.ok scClo (fun vs H Q E h => ?_) (fun cdv A outer s H vs Q E hr h => ?_)
  · obtain ⟨xs, n, j, rfl, _⟩ := h
    rfl
  · obtain ⟨xs, n, j, rfl, hj, hl, q⟩ := h
    refine ⟨_, (pss_cons (ps_set (i := 2) scClo.nd rfl (by first | exact .inl rfl | exact .inr rfl) pe_int)
      (pss_cons (ps_for PassesOwn.never rfl (pi_range2 rfl m_range (pa_cons (pv 1) (pa_cons (pe_callB call_len_str (by rfl) m_len PySem.boot_len (pa_cons (pv 0) pa_nil)) pa_nil))) (pg_name (i := 3) scClo.nd rfl (by first | exact .inl rfl | exact .inr rfl))
        (C8.pss_cut (ps_if (pt_cmpR op_eq (pe_ix ix_str (pv 0) (pv 3) (fun _ _ => rfl)) pe_str (nomark _)) (pss_one (ps_aug (i := 2) scClo.nd rfl (by first | exact .inl rfl | exact .inr rfl) pe_int ip_add)) (pss_one (ps_if (pt_cmpR op_eq (pe_ix ix_str (pv 0) (pv 3) (fun _ _ => rfl)) pe_str (nomark _)) (pss_one (ps_aug (i := 2) scClo.nd rfl (by first | exact .inl rfl | exact .inr rfl) pe_int ip_sub)) pss_nil)))
      (pss_one (ps_if (pt_cmpR op_eq (pv 2) pe_int (nomark _)) (pss_one (ps_ret (pv 3))) pss_nil))))
      (pss_one (ps_never)))), ?_⟩
    have hz : (S xs).length ≤ sizeLine := by rw [S_len, sizeLine_eq]; omega
    have hn : n ≤ xs.length := by
      by_cases h : n ≤ xs.length
      · exact h
      · rw [List.drop_eq_nil_of_le (by omega)] at hj
        cases hj
    refine ⟨_, rfl, _, rfl, S xs, rfl, hz, _, _, rfl, by rw [S_len]; omega, ?_⟩
    rw [S_len]
    have en : (((xs.length : Nat) : Int) - ((n : Nat) : Int)).toNat = xs.length - n := by omega
    refine for_range (lo := ((n : Nat) : Int)) (n := (((xs.length : Nat) : Int) - ((n : Nat) : Int)).toNat) (fun i σ H' => ∃ (d : Nat) (v3 : Option V), σ = [some (tx xs), some (iv n), some (iv d), v3] ∧ Same H H' ∧ 0 < d ∧ Cnd.clo d (xs.drop (n + i)) (n + i) = some j) ⟨1, none, rfl, Same.refl _, Nat.one_pos, hj⟩ ?_ ?_
    · rintro i σ H' hi ⟨d, v3, rfl, s1, hd, hc⟩
      have hlt : n + i < xs.length := by omega
      have ed : xs.drop (n + i) = xs[n + i] :: xs.drop (n + i + 1) := List.drop_eq_getElem_cons hlt
      rw [ed] at hc
      have hc2 : (if Cnd.dep d xs[n + i] = 0 then some (n + i) else Cnd.clo (Cnd.dep d xs[n + i]) (xs.drop (n + i + 1)) (n + i + 1)) = some j := hc
      generalize hs : xs[n + i] = s0 at hc2
      have hat : atI xs ((n : Int) + (i : Int)) = some s0 := by
        rw [show (n : Int) + (i : Int) = ((n + i : Nat) : Int) by omega]
        exact atI_nat (by rw [List.getElem?_eq_getElem hlt, hs])
      try dsimp only [gName, tSeq, tAsg, List.set_cons_zero, List.set_cons_succ]
      have z2 : ∀ m k : Nat, decide (V.str (S [m]) = V.str (S [k])) = decide (m = k) := fun m k => by
        rw [dec_str]
        by_cases e : m = k <;> simp [e]
      refine ⟨fun σ H2 => σ = [some (tx xs), some (iv n), some (iv (Cnd.dep d s0)), some (.int ((n : Int) + (i : Int)))] ∧ Same H H2, ?_, ?_⟩
      · refine ⟨_, rfl, _, rfl, S xs, _, s0, rfl, rfl, hz, hat, rfl, _, rfl, ?_⟩
        rw [show V.str (Str.ofString "(") = V.str (S [40]) from rfl]
        show (if decide (V.str (S [s0]) = V.str (S [40])) = true then _ else _)
        rw [z2]
        unfold Cnd.dep
        by_cases h1 : s0 = 40
        · rw [decide_eq_true h1, if_pos h1]
          refine iteT ⟨_, rfl, _, _, rfl, rfl, ?_⟩
          exact ⟨rfl, s1⟩
        rw [decide_eq_false h1, if_neg h1]
        refine iteF ?_
        refine ⟨_, rfl, _, rfl, S xs, _, s0, rfl, rfl, hz, hat, rfl, _, rfl, ?_⟩
        rw [show V.str (Str.ofString ")") = V.str (S [41]) from rfl]
        show (if decide (V.str (S [s0]) = V.str (S [41])) = true then _ else _)
        rw [z2]
        by_cases h2 : s0 = 41
        · rw [decide_eq_true h2, if_pos h2]
          refine iteT ⟨_, rfl, _, _, rfl, rfl, ?_⟩
          refine ⟨?_, s1⟩
          show [some (tx xs), some (iv n), some (V.int ((d : Int) - 1)), some (V.int ((n : Int) + (i : Int)))] = _
          rw [show (d : Int) - 1 = ((d - 1 : Nat) : Int) by omega]
        · rw [decide_eq_false h2, if_neg h2]
          exact iteF ⟨rfl, s1⟩
      rintro σ H2 ⟨rfl, s2⟩
      refine ⟨_, rfl, rfl, _, rfl, ?_⟩
      have e0 : decide (V.int ((Cnd.dep d s0 : Nat) : Int) = V.int 0) = decide (Cnd.dep d s0 = 0) := by
        by_cases h : Cnd.dep d s0 = 0
        · rw [h]; rfl
        · rw [decide_eq_false h]
          exact decide_eq_false fun e => h (by injection e with e; omega)
      rw [e0]
      by_cases h : Cnd.dep d s0 = 0
      · rw [if_pos h] at hc2
        cases hc2
        rw [decide_eq_true h]
        refine iteT ⟨_, rfl, ?_⟩
        rw [show (n : Int) + (i : Int) = ((n + i : Nat) : Int) by omega]
        exact q _ s2
      · rw [if_neg h] at hc2
        rw [decide_eq_false h]
        exact iteF ⟨_, _, rfl, s2, Nat.pos_of_ne_zero h, hc2⟩
    · rintro σ H' ⟨d, v3, rfl, s1, hd, hc⟩
      rw [en, show n + (xs.length - n) = xs.length by omega, List.drop_length] at hc
      cases hc
end
end Own

namespace Own
open PySem PySem.Spec PyProof.Rows L2 SX RZ
section
variable {P : Program} {w : World} {K : PySem.W.Frag} {mg : Str → Option Value} {base : Heap}
def spTwo : Sp := fun vs H Q _ => ∃ a b : List Nat, vs = [tx (a ++ 44 :: b)] ∧ 44 ∉ a ∧ 44 ∉ b ∧ a.length + b.length ≤ 100000 ∧ ∀ H' p, Same H H' → H p = none → H' p = some (.lst [tx a, tx b]) → Q (.ref p) H'
abbrev sTwo : Stmt := topS 37
abbrev twoN : List Str := ["text", "parts"]
theorem scTwo : FnScope twoN ["text"] (defScope sTwo) := ⟨rfl, rfl, rfl, by decide +kernel, rfl, by decide +kernel, by decide +kernel⟩
theorem ok_two {f : Addr} {fd : FuncData} (F : Fun K "two_parts" "two_parts" sTwo f fd) (m_len : mg "len" = none) :
    FnOk P w K mg base CX0 1 f fd ["text"] spTwo := by
  refine F.ok scTwo (fun vs H Q E h => ?_) (fun cdv A outer s H vs Q E hr h => ?_)
  · obtain ⟨a, b, rfl, _⟩ := h
    rfl
  · obtain ⟨a, b, rfl, ha, hb, hl, q⟩ := h
    refine ⟨_, (pss_cons (ps_set (i := 1) scTwo.nd rfl (by first | exact .inl rfl | exact .inr rfl) (pe_split (pv 0) pe_str))
      (pss_cons (ps_if (pt_cmpR op_ne (pe_callB (callLenC (K := K) rfl) (by rfl) m_len PySem.boot_len (pa_cons (pv 1) pa_nil)) pe_int (nomark _)) pss_never pss_nil)
      (pss_one (ps_ret (pv 1))))), ?_⟩
    have hz : (S (a ++ 44 :: b)).length + 2 ≤ sizeLine := by
      rw [S_len, List.length_append, List.length_cons, sizeLine_eq]
      omega
    refine ⟨_, rfl, ⟨_, rfl⟩, S (a ++ 44 :: b), S [44], rfl, rfl, rfl, hz, ?_⟩
    rw [split_two ha hb (by decide)]
    intro p np
    have s1 := same_new (o := .lst [tx a, tx b]) np
    try dsimp only [gName, tSeq, tAsg, List.set_cons_zero, List.set_cons_succ]
    refine ⟨_, rfl, p, _, rfl, .inl (sqL upd_same), rfl, _, rfl, ?_⟩
    refine iteF ⟨_, rfl, q _ p s1 np upd_same⟩
end
end Own

namespace Own
open PySem PySem.Spec PyProof.Rows L2 SX RZ
section
variable {P : Program} {w : World} {K : PySem.W.Frag} {mg : Str → Option Value} {base : Heap}
def spCkp : Sp := fun vs H Q _ => ∃ gs p : List Nat, vs = [tx gs, tx p] ∧ Cnd.Pat gs p ∧ p.length ≤ 1000 ∧ ∀ H', Same H H' → Q .non H'
abbrev sCkp : Stmt := topS 29
abbrev ckpN : List Str := ["letters", "pattern", "depth", "before", "at", "sign"]
theorem scCkp : FnScope ckpN ["letters", "pattern"] (defScope sCkp) := ⟨rfl, rfl, rfl, by decide +kernel, rfl, by decide +kernel, by decide +kernel⟩
theorem ok_ckp {f : Addr} {fd : FuncData} (F : Fun K "check_pattern" "check_pattern" sCkp f fd) (m_enumerate : mg "enumerate" = none) {f1 : Addr} {fd1 : FuncData} (c1 : Cl P w K mg base "can_stand" 1 ["letters", "before", "sign", "depth"] spCan f1 fd1) :
    FnOk P w K mg base CX0 2 f fd ["letters", "pattern"] spCkp := by
  refine F.ok scCkp (fun vs H Q E h => ?_) (fun cdv A outer s H vs Q E hr h => ?_)
  · obtain ⟨gs, p, rfl, _⟩ := h
    rfl
  · obtain ⟨gs, p, rfl, hp, hl, q⟩ := h
    refine ⟨_, (pss_cons (ps_set (i := 2) scCkp.nd rfl (by first | exact .inl rfl | exact .inr rfl) pe_int)
      (pss_cons (ps_set (i := 3) scCkp.nd rfl (by first | exact .inl rfl | exact .inr rfl) pe_str)
      (pss_cons (ps_for PassesOwn.never rfl (pi_enS (by rfl) m_enumerate (pa_cons (pv 1) pa_nil)) (pg_tup rfl (pgs_cons (pg_name (i := 4) scCkp.nd rfl (by first | exact .inl rfl | exact .inr rfl)) (pgs_cons (pg_name (i := 5) scCkp.nd rfl (by first | exact .inl rfl | exact .inr rfl)) pgs_nil)))
        (pss_cons (ps_if (pt_not (pt_val (pe_cl c1 hr (by decide) (by rfl) (pa_cons (pv 0) (pa_cons (pv 3) (pa_cons (pv 5) (pa_cons (pv 2) pa_nil))))))) pss_never pss_nil)
      (C8.pss_cut (ps_if (pt_cmpR op_eq (pv 5) pe_str (nomark _)) (pss_one (ps_aug (i := 2) scCkp.nd rfl (by first | exact .inl rfl | exact .inr rfl) pe_int ip_add)) pss_nil)
      (C8.pss_cut (ps_if (pt_cmpR op_eq (pv 5) pe_str (nomark _)) (pss_one (ps_aug (i := 2) scCkp.nd rfl (by first | exact .inl rfl | exact .inr rfl) pe_int ip_sub)) pss_nil)
      (pss_one (ps_set (i := 3) scCkp.nd rfl (by first | exact .inl rfl | exact .inr rfl) (pv 5)))))))
      (pss_one (ps_if (pt_cmpR op_gt (pv 2) pe_int (nomark _)) pss_never pss_nil))))), ?_⟩
    obtain ⟨bE, hE⟩ := hp.scn 40 0
    refine ⟨_, rfl, S p, rfl, for_it (walkE (z := S p)) (fun i σ H' => ∃ (d b : Nat) (v4 v5 : Option V), σ = [some (tx gs), some (tx p), some (iv d), some (tx [b]), v4, v5] ∧ Same H H' ∧ Cnd.scan gs 40 0 (p.take i) = some (b, d))
      ⟨0, 40, none, none, rfl, Same.refl _, rfl⟩ (fun _ _ _ _ _ => trivial) ?_ ?_⟩
    · rintro i x σ H' H'' hi ⟨d, b, v4, v5, rfl, s1, hsc⟩ ⟨T, c, rfl, nT, hc, rfl⟩
      have hc2 : p[i]? = some c := by rw [← List.getElem?_toArray]; exact hc
      obtain ⟨hcan, hnext⟩ := Cnd.scan_step hE hsc hc2
      try dsimp only [gName, tSeq, tAsg, List.set_cons_zero, List.set_cons_succ]
      refine ⟨T, _, rfl, .inl (.inl upd_same), rfl, _, _, rfl, _, _, rfl, rfl, ?_⟩
      have sT := s1.trans (same_new (o := .tup [V.int ((i : Nat) : Int), V.str ⟨#[c]⟩]) nT)
      have z2 : ∀ m k : Nat, decide (V.str (S [m]) = V.str (S [k])) = decide (m = k) := fun m k => by
        rw [dec_str]
        by_cases e : m = k <;> simp [e]
      refine ⟨_, rfl, _, rfl, _, rfl, _, rfl, gs, b, c, d, rfl, fun H3 s3 => ⟨_, rfl, ?_⟩⟩
      rw [hcan]
      refine iteF ?_
      have s03 := sT.trans s3
      refine ⟨fun σ H2 => σ = [some (tx gs), some (tx p), some (iv (if c = 40 then d + 1 else d)), some (tx [b]), some (.int ((i : Nat) : Int)), some (tx [c])] ∧ Same H H2, ?_, ?_⟩
      · refine ⟨_, rfl, rfl, _, rfl, ?_⟩
        rw [show V.str (Str.ofString "(") = V.str (S [40]) from rfl]
        show (if decide (V.str (S [c]) = V.str (S [40])) = true then _ else _)
        rw [z2]
        by_cases h1 : c = 40
        · rw [decide_eq_true h1, if_pos h1]
          exact iteT ⟨_, rfl, _, _, rfl, rfl, rfl, s03⟩
        · rw [decide_eq_false h1, if_neg h1]
          exact iteF ⟨rfl, s03⟩
      rintro σ H4 ⟨rfl, s4⟩
      refine ⟨fun σ H2 => σ = [some (tx gs), some (tx p), some (iv (Cnd.dep d c)), some (tx [b]), some (.int ((i : Nat) : Int)), some (tx [c])] ∧ Same H H2, ?_, ?_⟩
      · refine ⟨_, rfl, rfl, _, rfl, ?_⟩
        rw [show V.str (Str.ofString ")") = V.str (S [41]) from rfl]
        show (if decide (V.str (S [c]) = V.str (S [41])) = true then _ else _)
        rw [z2]
        unfold Cnd.dep
        by_cases h1 : c = 41
        · have h0 : c ≠ 40 := by omega
          have hd : 0 < d := by
            unfold Cnd.can at hcan
            rw [if_neg (by omega), if_pos h1] at hcan
            exact of_decide_eq_true hcan
          rw [decide_eq_true h1, if_neg h0, if_neg h0, if_pos h1]
          refine iteT ⟨_, rfl, _, _, rfl, rfl, ?_, s4⟩
          show [some (tx gs), some (tx p), some (V.int ((d : Int) - 1)), _, _, _] = _
          rw [show (d : Int) - 1 = ((d - 1 : Nat) : Int) by omega]
        · rw [decide_eq_false h1]
          refine iteF ⟨?_, s4⟩
          by_cases h0 : c = 40
          · rw [if_pos h0, if_pos h0]
          · rw [if_neg h0, if_neg h0, if_neg h1]
      rintro σ H5 ⟨rfl, s5⟩
      exact ⟨_, rfl, _, _, _, _, rfl, s5, hnext⟩
    · rintro σ H' ⟨d, b, v4, v5, rfl, s1, hsc⟩
      have el : p.take (S p).cps.size = p := List.take_of_length_le (Nat.le_of_eq rfl)
      rw [el, hE] at hsc
      cases hsc
      refine ⟨_, rfl, _, _, rfl, rfl, _, rfl, ?_⟩
      exact iteF (q _ s1)
end
end Own

namespace Own
open PySem PySem.Spec PyProof.Rows L2 SX RZ
section
variable {P : Program} {w : World} {K : PySem.W.Frag} {mg : Str → Option Value} {base : Heap}
def spRnm : Sp := fun vs H Q _ => ∃ (xs nm z : List Nat) (n : Nat), vs = [tx xs, iv n] ∧ xs.drop n = nm ++ z ∧ n ≤ xs.length ∧ xs.length ≤ 100000 ∧ 0 < nm.length ∧ nm.length ≤ 8 ∧ (∀ c ∈ nm, 97 ≤ c ∧ c ≤ 122) ∧ (∀ c r, z = c :: r → ¬ (97 ≤ c ∧ c ≤ 122)) ∧ ∀ H' p, Same H H' → H p = none → H' p = some (.tup [tx nm, iv (n + nm.length)]) → Q (.ref p) H'
abbrev sRnm : Stmt := topS 34
abbrev rnmN : List Str := ["text", "at", "end"]
theorem scRnm : FnScope rnmN ["text", "at"] (defScope sRnm) := ⟨rfl, rfl, rfl, by decide +kernel, rfl, by decide +kernel, by decide +kernel⟩
theorem ok_rnm {f : Addr} {fd : FuncData} (F : Fun K "read_name" "read_name" sRnm f fd) (m_len : mg "len" = none) (gLo : ∃ t, mg "LOWERCASE" = some (.str (Str.ofString "abcdefghijklmnopqrstuvwxyz") t)) (gMN : ∃ t, mg "MOST_NAME" = some (.int 8 t)) :
    FnOk P w K mg base CX0 1 f fd ["text", "at"] spRnm := by
  refine F.ok scRnm (fun vs H Q E h => ?_) (fun cdv A outer s H vs Q E hr h => ?_)
  · obtain ⟨xs, nm, z, n, rfl, _⟩ := h
    rfl
  · obtain ⟨xs, nm, z, n, rfl, hd, hn, hl, h0, h8, hnm, hz, q⟩ := h
    obtain ⟨tLo, eLo⟩ := gLo
    obtain ⟨tMN, eMN⟩ := gMN
    refine ⟨_, (pss_cons (ps_set (i := 2) scRnm.nd rfl (by first | exact .inl rfl | exact .inr rfl) (pv 1))
      (pss_cons (ps_while PassesOwn.never (PW.pt (pw_and (pt_cmpR op_lt (pv 2) (pe_callB call_len_str (by rfl) m_len PySem.boot_len (pa_cons (pv 0) pa_nil)) (nomark _)) (pw_and1 (pt_cmpR op_in_sign (pe_ix ix_str (pv 0) (pv 2) (fun _ _ => rfl)) (pe_glob (v := .str (Str.ofString "abcdefghijklmnopqrstuvwxyz")) (by rfl) eLo ⟨_, rfl⟩) (by rfl)))))
        (pss_one (ps_aug (i := 2) scRnm.nd rfl (by first | exact .inl rfl | exact .inr rfl) pe_int ip_add)))
      (pss_cons (ps_if (pt_not (pt_chain op_le op_le pe_int (pe_op op_sub (pv 2) (pv 1)) (pe_glob (v := .int 8) (by rfl) eMN ⟨_, rfl⟩))) pss_never pss_nil)
      (pss_one (ps_ret (pe_tup (pa_cons (pe_slice sl_str (pv 0) (po_some (pv 1)) (po_some (pv 2))) (pa_cons (pv 2) pa_nil)))))))), ?_⟩
    have hz' : (S xs).length ≤ sizeLine := by rw [S_len, sizeLine_eq]; omega
    have hlen : xs.length = n + (nm.length + z.length) := by
      have := congrArg List.length hd
      rw [List.length_drop, List.length_append] at this
      omega
    have hat : ∀ k, k < nm.length → ∃ c, xs[n + k]? = some c ∧ 97 ≤ c ∧ c ≤ 122 := fun k hk => by
      have e : xs[n + k]? = (nm ++ z)[k]? := by rw [← hd, List.getElem?_drop]
      rw [List.getElem?_append_left hk] at e
      exact ⟨_, e.trans (List.getElem?_eq_getElem hk), hnm _ (List.getElem_mem hk)⟩
    have hend : ∀ c, xs[n + nm.length]? = some c → ¬ (97 ≤ c ∧ c ≤ 122) := fun c hc => by
      have e : xs[n + nm.length]? = (nm ++ z)[nm.length]? := by rw [← hd, List.getElem?_drop]
      rw [List.getElem?_append_right (Nat.le_refl _), Nat.sub_self] at e
      rw [e] at hc
      cases z with
      | nil => cases hc
      | cons x r => cases hc; exact hz _ _ rfl
    have lower : ∀ c : Nat, decide (c ∈ (Str.ofString "abcdefghijklmnopqrstuvwxyz").cps.toList) = decide (97 ≤ c ∧ c ≤ 122) := fun c => by
      have e : (Str.ofString "abcdefghijklmnopqrstuvwxyz").cps.toList = List.range' 97 26 := by decide +kernel
      rw [e]
      by_cases h : 97 ≤ c ∧ c ≤ 122
      · rw [decide_eq_true h]
        exact decide_eq_true (List.mem_range'_1.mpr (by omega))
      · rw [decide_eq_false h]
        exact decide_eq_false fun m => h (by have := List.mem_range'_1.mp m; omega)
    refine ⟨_, rfl, ?_⟩
    show tWhile _ _ _ [some (tx xs), some (iv n), some (iv n)] H
    refine ⟨fun m σ H' => ∃ k, σ = [some (tx xs), some (iv n), some (iv (n + k))] ∧ k ≤ nm.length ∧ m = nm.length - k ∧ Same H H', ⟨_, 0, rfl, Nat.zero_le _, rfl, Same.refl _⟩, ?_⟩
    rintro m σ H1 ⟨k, rfl, hk, rfl, s1⟩
    refine ⟨_, rfl, _, rfl, S xs, rfl, hz', _, _, rfl, rfl, _, rfl, ?_⟩
    rw [S_len, dec_lt]
    have done' : k = nm.length → tSeq
        (tIfS
          (tNot
            (tTest
              (tChain (rI0 fun i j => V.bl (decide (i ≤ j))) (rI0 fun i j => V.bl (decide (i ≤ j))) (tC (V.int 1))
                (tOp (rI0 fun i j => V.int (i - j)) (tVar 2) (tVar 1)) (tC (V.int 8)))))
          tNever tNext)
        (tRet (tTup (tCons (tSl rSlS (tVar 0) (tPart (tVar 1)) (tPart (tVar 2))) (tCons (tVar 2) tNil)))) { nx := fun x H' => Q V.non H', rt := Q } [some (tx xs), some (iv n), some (iv (n + k))] H1 := fun e => by
      subst e
      refine ⟨_, rfl, _, rfl, _, _, rfl, rfl, _, _, rfl, rfl, _, rfl, ?_⟩
      rw [decide_eq_true (show (1 : Int) ≤ ((n + nm.length : Nat) : Int) - ((n : Nat) : Int) by omega)]
      refine iteT ⟨_, _, rfl, rfl, _, rfl, ?_⟩
      rw [decide_eq_true (show ((n + nm.length : Nat) : Int) - ((n : Nat) : Int) ≤ 8 by omega)]
      refine iteF ⟨_, rfl, _, rfl, _, rfl, _, rfl, _, rfl, S xs, rfl, hz', _, rfl, (by show 2 ≤ sizeLine; decide), fun T nT => ?_⟩
      have ec : cutS (S xs) (some ((n : Nat) : Int)) (some ((n + nm.length : Nat) : Int)) = S nm := by
        unfold cutS
        rw [S_len, HT.sIx_nat, HT.sIx_nat, Nat.min_eq_left (by omega), Nat.min_eq_left (by omega)]
        show (⟨_⟩ : Str) = ⟨_⟩
        congr 2
        show (xs.drop n).take (n + nm.length - n) = nm
        rw [hd, show n + nm.length - n = nm.length by omega, List.take_left]
      rw [ec]
      exact q _ T (s1.trans (same_new nT)) (none_of s1 nT) upd_same
    by_cases h : n + k < xs.length
    rotate_left
    · rw [decide_eq_false h]
      exact iteF (done' (by omega))
    rw [decide_eq_true h]
    obtain ⟨c, hc⟩ : ∃ c, xs[n + k]? = some c := ⟨_, List.getElem?_eq_getElem h⟩
    refine iteT ⟨_, rfl, _, rfl, S xs, _, c, rfl, rfl, hz', atI_nat hc, c, _, rfl, rfl, _, rfl, ?_⟩
    rw [lower]
    by_cases hk2 : k < nm.length
    · obtain ⟨c', hc', hl'⟩ := hat k hk2
      rw [hc] at hc'
      cases hc'
      rw [decide_eq_true hl']
      refine iteT ⟨fun σ H' => ∃ k', σ = [some (tx xs), some (iv n), some (iv (n + k'))] ∧ k' ≤ nm.length ∧ k' = k + 1 ∧ Same H H', ?_, ?_⟩
      · rintro σ' H' ⟨k', rfl, h1, rfl, s2⟩
        exact ⟨_, by omega, _, rfl, h1, rfl, s2⟩
      · refine ⟨_, rfl, _, _, rfl, rfl, k + 1, ?_, by omega, rfl, s1⟩
        show [some (tx xs), some (iv n), some (V.int (((n + k : Nat) : Int) + 1))] = _
        rw [show ((n + k : Nat) : Int) + 1 = ((n + (k + 1) : Nat) : Int) by omega]
    · have ek : k = nm.length := by omega
      subst ek
      rw [decide_eq_false (hend c hc)]
      exact iteF (done' rfl)
end
end Own

namespace Own
open PySem PySem.Spec PyProof.Rows L2 SX RZ
section
variable {P : Program} {w : World} {K : PySem.W.Frag} {mg : Str → Option Value} {base : Heap}
def spTtx : Sp := fun vs H Q _ => ∃ (gs t : List Nat) (i : List (List Nat)), vs = [tx gs, tx t] ∧ Good gs ∧ Row gs i ∧ i.length ≤ 100 ∧ Rd gs i t ∧ t.length ≤ 1000 ∧ ∀ H', Same H H' → Q (tx (rTx gs i)) H'
abbrev sTtx : Stmt := topS 35
abbrev ttxN : List Str := ["letters", "text"]
theorem scTtx : FnScope ttxN ["letters", "text"] (defScope sTtx) := ⟨rfl, rfl, rfl, by decide +kernel, rfl, by decide +kernel, by decide +kernel⟩
theorem ok_ttx {f : Addr} {fd : FuncData} (F : Fun K "template_text" "template_text" sTtx f fd) {fI fT C : Addr} {fdI fdT : FuncData} (T : TmC K C) (M : Mk K C fI) (gC : mg "Template" = some (.ref C)) (GI : FnOk P w K mg base CX0 4 fI fdI ["self", "letters", "text"] (spTi C)) (bI : Binds K fdI ["self", "letters", "text"] []) (mT : Meth K C "text" fT) (GT : FnOk P w K mg base CX0 4 fT fdT ["self"] (spText C)) (bT : Binds K fdT ["self"] []) :
    FnOk P w K mg base CX0 6 f fd ["letters", "text"] spTtx := by
  refine F.ok scTtx (fun vs H Q E h => ?_) (fun cdv A outer s H vs Q E hr h => ?_)
  · obtain ⟨gs, t, i, rfl, _⟩ := h
    rfl
  · obtain ⟨gs, t, i, rfl, hg, hi, li, rd, lt, q⟩ := h
    refine ⟨_, (pss_one (ps_try_thru0 (pss_one (ps_ret (pe_meth0 (pe_make M GI (hr.mono (by decide)) (by rfl) gC bI .nil pass0 (pa_cons (pv 0) (pa_cons (pv 1) pa_nil))) T.cls mT GT (hr.mono (by decide)) bT .nil pass0))))), ?_⟩
    dsimp only [tRet, tMeth]
    refine tm_mk (gs := gs) (t := t) (its := i) (fun k hk => ?_) hg lt rd fun H1 p s1 np tm => ?_
    · exact ⟨_, rfl, _, rfl, hk _ (Same.refl _)⟩
    obtain ⟨dx, pp, hp, _⟩ := id tm
    have := hg.hi
    refine ⟨p, dx, _, rfl, hp, rfl, p, gs, i, rfl, tm, by omega, by omega, (fun x hx => by have := row_len hg hi x hx; omega), fun H2 s2 => q H2 (s1.trans s2)⟩
end
end Own

namespace Own
open PySem PySem.Spec PyProof.Rows L2 SX RZ
section
variable {P : Program} {w : World} {K : PySem.W.Frag} {mg : Str → Option Value} {base : Heap}
def spMof : Sp := fun vs H Q _ => ∃ gs p : List Nat, vs = [tx gs, tx p] ∧ Cnd.Pat gs p ∧ p.length ≤ 1000 ∧ ∀ H' a, Same H H' → H a = none → H' a = some (.tup [.str (Str.ofString "match"), tx p]) → Q (.ref a) H'
abbrev sMof : Stmt := topS 38
abbrev mofN : List Str := ["letters", "text"]
theorem scMof : FnScope mofN ["letters", "text"] (defScope sMof) := ⟨rfl, rfl, rfl, by decide +kernel, rfl, by decide +kernel, by decide +kernel⟩
theorem ok_mof {f : Addr} {fd : FuncData} (F : Fun K "match_of" "match_of" sMof f fd) {f1 : Addr} {fd1 : FuncData} (c1 : Cl P w K mg base "check_pattern" 2 ["letters", "pattern"] spCkp f1 fd1) :
    FnOk P w K mg base CX0 3 f fd ["letters", "text"] spMof := by
  refine F.ok scMof (fun vs H Q E h => ?_) (fun cdv A outer s H vs Q E hr h => ?_)
  · obtain ⟨gs, p, rfl, _⟩ := h
    rfl
  · obtain ⟨gs, p, rfl, hp, hl, q⟩ := h
    refine ⟨_, (pss_cons (ps_try_thru0 (pss_one (ps_expr (pe_cl c1 hr (by decide) (by rfl) (pa_cons (pv 0) (pa_cons (pv 1) pa_nil))))))
      (pss_one (ps_ret (pe_tup (pa_cons pe_str (pa_cons (pv 1) pa_nil)))))), ?_⟩
    refine ⟨_, rfl, _, rfl, gs, p, rfl, hp, hl, fun H1 s1 => ?_⟩
    refine ⟨_, rfl, (by show 2 ≤ sizeLine; decide), fun a na => ?_⟩
    exact q _ a (s1.trans (same_new na)) (none_of s1 na) upd_same
end
end Own

namespace Own
open PySem PySem.Spec PyProof.Rows L2 SX RZ
section
variable {P : Program} {w : World} {K : PySem.W.Frag} {mg : Str → Option Value} {base : Heap}
def spTof : Sp := fun vs H Q _ => ∃ (gs a b : List Nat) (k : Nat) (i j : List (List Nat)), vs = [tx gs, .str (kwS k), tx (a ++ 44 :: b)] ∧ Good gs ∧ Row gs i ∧ Row gs j ∧ i.length ≤ 100 ∧ j.length ≤ 100 ∧ Rd gs i a ∧ Rd gs j b ∧ a.length ≤ 1000 ∧ b.length ≤ 1000 ∧ (∀ c ∈ a, c ≠ 40 ∧ c ≠ 41 ∧ c ≠ 44) ∧ (∀ c ∈ b, c ≠ 40 ∧ c ≠ 41 ∧ c ≠ 44) ∧ ∀ H' p, Same H H' → H p = none → H' p = some (.tup [.str (kwS k), tx (rTx gs i), tx (rTx gs j)]) → Q (.ref p) H'
abbrev sTof : Stmt := topS 40
abbrev tofN : List Str := ["letters", "kind", "text", "one", "other"]
theorem scTof : FnScope tofN ["letters", "kind", "text"] (defScope sTof) := ⟨rfl, rfl, rfl, by decide +kernel, rfl, by decide +kernel, by decide +kernel⟩
theorem ok_tof {f : Addr} {fd : FuncData} (F : Fun K "templates_of" "templates_of" sTof f fd) {f1 : Addr} {fd1 : FuncData} (c1 : Cl P w K mg base "two_parts" 1 ["text"] spTwo f1 fd1) {f2 : Addr} {fd2 : FuncData} (c2 : Cl P w K mg base "template_text" 6 ["letters", "text"] spTtx f2 fd2) :
    FnOk P w K mg base CX0 7 f fd ["letters", "kind", "text"] spTof := by
  refine F.ok scTof (fun vs H Q E h => ?_) (fun cdv A outer s H vs Q E hr h => ?_)
  · obtain ⟨gs, a, b, k, i, j, rfl, _⟩ := h
    rfl
  · obtain ⟨gs, a, b, k, i, j, rfl, hg, hi, hj, li, lj, ra, rb, la, lb, sa, sb, q⟩ := h
    refine ⟨_, (pss_cons (ps_asg (pe_cl c1 hr (by decide) (by rfl) (pa_cons (pv 2) pa_nil)) (pg_lst rfl (pgs_cons (pg_name (i := 3) scTof.nd rfl (by first | exact .inl rfl | exact .inr rfl)) (pgs_cons (pg_name (i := 4) scTof.nd rfl (by first | exact .inl rfl | exact .inr rfl)) pgs_nil))))
      (pss_one (ps_ret (pe_tup (pa_cons (pv 1) (pa_cons (pe_cl c2 hr (by decide) (by rfl) (pa_cons (pv 0) (pa_cons (pv 3) pa_nil))) (pa_cons (pe_cl c2 hr (by decide) (by rfl) (pa_cons (pv 0) (pa_cons (pv 4) pa_nil))) pa_nil))))))), ?_⟩
    refine ⟨_, rfl, a, b, rfl, (fun h => (sa _ h).2.2 rfl), (fun h => (sb _ h).2.2 rfl), by omega, fun H1 p s1 np hp => ?_⟩
    refine ⟨p, _, rfl, sqL hp, rfl, _, _, rfl, _, _, rfl, rfl, ?_⟩
    try dsimp only [gName, tSeq, tAsg, List.set_cons_zero, List.set_cons_succ]
    refine ⟨_, rfl, _, rfl, _, rfl, gs, a, i, rfl, hg, hi, li, ra, la, fun H2 s2 => ?_⟩
    refine ⟨_, rfl, _, rfl, gs, b, j, rfl, hg, hj, lj, rb, lb, fun H3 s3 => ⟨(by show 3 ≤ sizeLine; decide), fun T nT => ?_⟩⟩
    have s13 := s1.trans (s2.trans s3)
    exact q _ T (s13.trans (same_new nT)) (none_of s13 nT) upd_same
end
end Own

namespace Own
open PySem PySem.Spec PyProof.Rows L2 SX RZ
section
variable {P : Program} {w : World} {K : PySem.W.Frag} {mg : Str → Option Value} {base : Heap}
abbrev nmK (n : Nat) : List (L2.Key × V) := (List.range n).map fun k => (Sum.inr (S (Cnd.dec k)), iv k)
theorem nm_new : ∀ i, i ≤ 60 → (valV (nmK i) (Sum.inr (S (Cnd.dec i)))) = none := by
  have h : ∀ i, i ≤ 60 → (valV (nmK i) (Sum.inr (S (Cnd.dec i)))).isNone = true := by decide +kernel
  exact fun i hi => Option.isNone_iff_eq_none.mp (h i hi)
theorem nm_at : ∀ r, r ≤ 60 → valV (nmK 61) (Sum.inr (S (Cnd.dec r))) = some (iv r) := by decide +kernel
def spLof : Sp := fun vs H Q _ => ∃ r m : Nat, vs = [tx (Cnd.dec r ++ 44 :: Cnd.dec m)] ∧ r < m ∧ m ≤ 60 ∧ ∀ H' a, Same H H' → H a = none → H' a = some (.tup [.str (Str.ofString "length"), iv r, iv m]) → Q (.ref a) H'
abbrev sLof : Stmt := topS 39
abbrev lofN : List Str := ["text", "numbers", "one", "other", "number"]
theorem scLof : FnScope lofN ["text"] (defScope sLof) := ⟨rfl, rfl, rfl, by decide +kernel, rfl, by decide +kernel, by decide +kernel⟩
theorem ok_lof {f : Addr} {fd : FuncData} (F : Fun K "length_of" "length_of" sLof f fd) {f1 : Addr} {fd1 : FuncData} (c1 : Cl P w K mg base "two_parts" 1 ["text"] spTwo f1 fd1) (gMM : ∃ t, mg "MOST_MODULUS" = some (.int 60 t)) (m_range : mg "range" = none) (m_str : mg "str" = none) :
    FnOk P w K mg base CX0 2 f fd ["text"] spLof := by
  refine F.ok scLof (fun vs H Q E h => ?_) (fun cdv A outer s H vs Q E hr h => ?_)
  · obtain ⟨r, m, rfl, _⟩ := h
    rfl
  · obtain ⟨r, m, rfl, hrm, hm, q⟩ := h
    have hu := hu_of hr
    obtain ⟨tMM, eMM⟩ := gMM
    refine ⟨_, (pss_cons (ps_setDc (i := 1) (own := [("number", 4)]) (g := gName 4) (tt := tYes) (tv := tVar 4) rfl scLof.nd rfl rfl (sw_trueD rfl rfl rfl (by decide +kernel)) (pi_range1 rfl m_range (pa_cons (pe_op op_add (pe_glob (v := .int 60) (by rfl) eMM ⟨_, rfl⟩) pe_int) pa_nil)) (blkOk_by (N := lofN) (sc := defScope sLof) (by decide +kernel)) (fun _ _ _ _ _ => pg_name (i := 4) scLof.nd rfl (Or.inl rfl)) (fun _ _ _ _ _ => pts_nil) (fun _ _ _ _ _ => pe_callTy call_str_int (by rfl) m_str (by decide +kernel) (pa_cons (pv 4) pa_nil)) (fun _ _ _ _ _ => pv 4))
      (pss_cons (ps_asg (pe_cl c1 hr (by decide) (by rfl) (pa_cons (pv 0) pa_nil)) (pg_lst rfl (pgs_cons (pg_name (i := 2) scLof.nd rfl (by first | exact .inl rfl | exact .inr rfl)) (pgs_cons (pg_name (i := 3) scLof.nd rfl (by first | exact .inl rfl | exact .inr rfl)) pgs_nil))))
      (pss_cons (ps_if (PW.pt (pw_or (pt_cmp (pc_dnotin hu (pv 2) (pv 1))) (pw_or (pt_cmp (pc_dnotin hu (pv 3) (pv 1))) (pw_or1 (pt_cmpR op_ge (pe_dget hu (pv 1) (pv 2) (fun _ _ => rfl)) (pe_dget hu (pv 1) (pv 3) (fun _ _ => rfl)) (nomark _)))))) pss_never pss_nil)
      (pss_one (ps_ret (pe_tup (pa_cons pe_str (pa_cons (pe_dget hu (pv 1) (pv 2) (fun _ _ => rfl)) (pa_cons (pe_dget hu (pv 1) (pv 3) (fun _ _ => rfl)) pa_nil))))))))), ?_⟩
    refine ⟨_, _, rfl, rfl, 61, rfl, by decide, by decide, fun D nD => ?_⟩
    refine dc_it (walk_range (lo := 0) (n := (61 : Int).toNat)) (fun i H' => Same H H' ∧ H' D = some (.dK (nmK i))) ⟨same_new nD, upd_same⟩ (fun _ _ _ _ => trivial) ?_ ?_
    · rintro i x H1 H2 hi ⟨s1, hD⟩ ⟨rfl, rfl⟩
      have hi' : i < 61 := hi
      have en : (0 : Int) + (i : Int) = ((i : Nat) : Int) := by omega
      have hl0 : (nmK i).length = i := by rw [List.length_map, List.length_range]
      have hlog : ∀ i : Nat, i < 61 → ((i : Nat) : Int).natAbs.log2 < 1920 := fun i hi => by
        have : i.log2 < 6 := by
          by_cases z : i = 0
          · subst z; decide
          · exact (Nat.log2_lt z).mpr (by omega)
        show i.log2 < 1920
        omega
      refine ⟨rfl, ⟨_, rfl, (0 : Int) + (i : Int), rfl, by rw [en]; exact hlog i hi', ?_⟩⟩
      have et : (V.str (Str.ofString (toString ((0 : Int) + (i : Int))))) = kV (Sum.inr (S (Cnd.dec i))) := by
        rw [en]
        exact congrArg V.str (dec_to i (by omega))
      refine ⟨_, rfl, nmK i, Sum.inr (S (Cnd.dec i)), et, hD, small1000 (by omega), same_put s1 nD, ?_⟩
      rw [upd_same, putK_new _ (nm_new i (by omega))]
      show some (HO.dK (nmK i ++ [(Sum.inr (S (Cnd.dec i)), V.int ((0 : Int) + (i : Int)))])) = some (HO.dK (nmK (i + 1)))
      rw [en]
      show some (HO.dK (nmK i ++ [_])) = some (HO.dK (nmK (i + 1)))
      congr 2
      show _ = (List.range (i + 1)).map _
      rw [List.range_succ, List.map_append]
      rfl
    rintro H1 ⟨s1, hD⟩
    try dsimp only [gName, tSeq, tAsg, List.set_cons_zero, List.set_cons_succ]
    have ha : ∀ k, k ≤ 60 → ∀ c ∈ Cnd.dec k, c ≠ 44 := fun k hk c hc => by have := dec_no k hk c hc; omega
    have hl : ∀ k, k ≤ 60 → (Cnd.dec k).length ≤ 2 := by decide
    have l1 := hl r (by omega)
    have l2 := hl m hm
    refine ⟨_, rfl, Cnd.dec r, Cnd.dec m, rfl, (fun h => ha r (by omega) _ h rfl), (fun h => ha m hm _ h rfl), by omega, fun H2 p s2 np hp => ?_⟩
    refine ⟨p, _, rfl, sqL hp, rfl, _, _, rfl, _, _, rfl, rfl, ?_⟩
    have hD2 := s2 _ _ hD
    have g1 : DGet H2 D (tx (Cnd.dec r)) (some (iv r)) := by
      rw [← nm_at r (by omega)]
      exact DGet.k (k := Sum.inr (S (Cnd.dec r))) hD2
    have g2 : DGet H2 D (tx (Cnd.dec m)) (some (iv m)) := by
      rw [← nm_at m hm]
      exact DGet.k (k := Sum.inr (S (Cnd.dec m))) hD2
    try dsimp only [gName, tSeq, tAsg, List.set_cons_zero, List.set_cons_succ]
    refine ⟨_, rfl, _, rfl, D, _, rfl, g1, _, rfl, iteF ?_⟩
    refine ⟨_, rfl, _, rfl, D, _, rfl, g2, _, rfl, iteF ?_⟩
    refine ⟨_, rfl, _, rfl, D, _, rfl, g1, _, rfl, _, rfl, D, _, rfl, g2, _, _, rfl, rfl, _, rfl, ?_⟩
    rw [decide_eq_false (by omega)]
    refine iteF ?_
    refine ⟨_, rfl, _, rfl, D, _, rfl, g1, _, rfl, _, rfl, D, _, rfl, g2, (by show 3 ≤ sizeLine; decide), fun T nT => ?_⟩
    have s12 := s1.trans s2
    exact q _ T (s12.trans (same_new nT)) (none_of s12 nT) upd_same
end
end Own

namespace Own
open PySem PySem.Spec PyProof.Rows L2 SX RZ
section
variable {P : Program} {w : World} {K : PySem.W.Frag} {mg : Str → Option Value} {base : Heap}
def spRsm : Sp := fun vs H Q _ => ∃ (gs xs z : List Nat) (n : Nat) (c : Cnd.Cd), vs = [tx gs, tx xs, iv n] ∧ Good gs ∧ xs.drop n = Cnd.cTx c ++ z ∧ n ≤ xs.length ∧ xs.length ≤ 100000 ∧ Cnd.leaf c = true ∧ OkS gs c ∧ (∀ d r, z = d :: r → ¬ (97 ≤ d ∧ d ≤ 122)) ∧
  ∀ H' p v, Same H H' → H p = none → H' p = some (.tup [v, iv (n + (Cnd.cTx c).length)]) → CdH H' c v → Q (.ref p) H'
abbrev sRsm : Stmt := topS 41
abbrev rsmN : List Str := ["letters", "text", "at", "name", "end", "kind", "start", "inner"]
theorem scRsm : FnScope rsmN ["letters", "text", "at"] (defScope sRsm) := ⟨rfl, rfl, rfl, by decide +kernel, rfl, by decide +kernel, by decide +kernel⟩
theorem ok_rsm {f : Addr} {fd : FuncData} (F : Fun K "read_simple" "read_simple" sRsm f fd) (m_len : mg "len" = none) {f1 : Addr} {fd1 : FuncData} (c1 : Cl P w K mg base "read_name" 1 ["text", "at"] spRnm f1 fd1) {f2 : Addr} {fd2 : FuncData} (c2 : Cl P w K mg base "closing_place" 1 ["text", "at"] spClo f2 fd2) {f3 : Addr} {fd3 : FuncData} (c3 : Cl P w K mg base "match_of" 3 ["letters", "text"] spMof f3 fd3) {f4 : Addr} {fd4 : FuncData} (c4 : Cl P w K mg base "length_of" 2 ["text"] spLof f4 fd4) {f5 : Addr} {fd5 : FuncData} (c5 : Cl P w K mg base "templates_of" 7 ["letters", "kind", "text"] spTof f5 fd5) {HW : Addr} {esW : Array DictEntry} {nW : Nat} (gH : mg "HOLDING_WORDS" = some (.ref HW)) (DW : KDict K w HW esW nW) (kW : ∀ k, k ≤ 3 → ∃ u, PySem.W.nsIn K HW (kwS k) = some (some u)) :
    FnOk P w K mg base CX0 8 f fd ["letters", "text", "at"] spRsm := by
  refine F.ok scRsm (fun vs H Q E h => ?_) (fun cdv A outer s H vs Q E hr h => ?_)
  · obtain ⟨gs, xs, z, n, c, rfl, _⟩ := h
    rfl
  · obtain ⟨gs, xs, z, n, c, rfl, hg, hd, hn, hl, hlf, hok, hz, q⟩ := h
    refine ⟨_, (pss_cons (ps_if (pt_val (pe_bm PySem.F.plainAttrs_str PySem.F.slot_str_startswith PySem.F.type_str_startswith mt_startswith3 (pv 1) (pa_cons pe_str (pa_cons (pv 2) pa_nil)))) (pss_cons (ps_asg (pe_cl c1 hr (by decide) (by rfl) (pa_cons (pv 1) (pa_cons (pe_op op_add (pv 2) (pe_callB call_len_str (by rfl) m_len PySem.boot_len (pa_cons pe_str pa_nil))) pa_nil))) (pg_tup rfl (pgs_cons (pg_name (i := 3) scRsm.nd rfl (by first | exact .inl rfl | exact .inr rfl)) (pgs_cons (pg_name (i := 4) scRsm.nd rfl (by first | exact .inl rfl | exact .inr rfl)) pgs_nil))))
      (pss_one (ps_ret (pe_tup (pa_cons (pe_tup (pa_cons pe_str (pa_cons (pv 3) pa_nil))) (pa_cons (pv 4) pa_nil)))))) pss_nil)
      (pss_cons (ps_set (i := 5) scRsm.nd rfl (by first | exact .inl rfl | exact .inr rfl) (pe_ix (ixT (K := K) rfl) (pe_partition (pe_slice sl_str (pv 1) (po_some (pv 2)) po_none) pe_str) pe_int (fun _ _ => rfl)))
      (pss_cons (ps_set (i := 6) scRsm.nd rfl (by first | exact .inl rfl | exact .inr rfl) (pe_op op_add (pe_op op_add (pv 2) (pe_callB call_len_str (by rfl) m_len PySem.boot_len (pa_cons (pv 5) pa_nil))) pe_int))
      (pss_cons (ps_set (i := 4) scRsm.nd rfl (by first | exact .inl rfl | exact .inr rfl) (pe_cl c2 hr (by decide) (by rfl) (pa_cons (pv 1) (pa_cons (pv 6) pa_nil))))
      (pss_cons (ps_set (i := 7) scRsm.nd rfl (by first | exact .inl rfl | exact .inr rfl) (pe_slice sl_str (pv 1) (po_some (pv 6)) (po_some (pv 4))))
      (pss_cons (ps_if (pt_cmpR op_eq (pv 5) pe_str (nomark _)) (pss_one (ps_ret (pe_tup (pa_cons (pe_cl c3 hr (by decide) (by rfl) (pa_cons (pv 0) (pa_cons (pv 7) pa_nil))) (pa_cons (pe_op op_add (pv 4) pe_int) pa_nil))))) pss_nil)
      (pss_cons (ps_if (pt_cmpR op_eq (pv 5) pe_str (nomark _)) (pss_one (ps_ret (pe_tup (pa_cons (pe_cl c4 hr (by decide) (by rfl) (pa_cons (pv 7) pa_nil)) (pa_cons (pe_op op_add (pv 4) pe_int) pa_nil))))) pss_nil)
      (pss_cons (ps_if (pt_cmpR (op_notIn_kd DW) (pv 5) (pe_glob (v := .ref HW) (by rfl) gH rfl) (by rfl)) pss_never pss_nil)
      (pss_one (ps_ret (pe_tup (pa_cons (pe_cl c5 hr (by decide) (by rfl) (pa_cons (pv 0) (pa_cons (pv 5) (pa_cons (pv 7) pa_nil)))) (pa_cons (pe_op op_add (pv 4) pe_int) pa_nil))))))))))))), ?_⟩
    have hz' : (S xs).length ≤ sizeLine := by rw [S_len, sizeLine_eq]; omega
    have hxl : xs.length = n + ((Cnd.cTx c).length + z.length) := by
      have := congrArg List.length hd
      rw [List.length_drop, List.length_append] at this
      omega
    refine ⟨_, rfl, rfl, _, rfl, S xs, S Cnd.namT, ((n : Nat) : Int), rfl, rfl, _, rfl, ?_⟩
    rw [sw3 hn, hd]
    by_cases hnm : Cnd.isNamed c = true
    · cases c with
      | named m =>
        cases hok with
        | named h0 h8 hm =>
          rw [decide_eq_true (show Cnd.namT <+: Cnd.cTx (.named m) ++ z from ⟨m ++ z, by show _ = (Cnd.namT ++ m) ++ z; rw [List.append_assoc]⟩)]
          refine iteT ?_
          have e6 : (Cnd.cTx (.named m)).length = 6 + m.length := by show (Cnd.namT ++ m).length = _; rw [List.length_append]; rfl
          have hd6 : xs.drop (n + 6) = m ++ z := by
            rw [← List.drop_drop, hd]
            show ((Cnd.namT ++ m) ++ z).drop 6 = _
            rw [List.append_assoc]
            rfl
          refine ⟨_, rfl, _, rfl, _, rfl, (by show 6 ≤ sizeLine; decide), _, _, rfl, rfl, xs, m, z, n + 6, ?_, hd6, by omega, hl, h0, h8, hm, hz, fun H1 p s1 np hp => ?_⟩
          · show [tx xs, V.int (((n : Nat) : Int) + ((6 : Nat) : Int))] = [tx xs, iv (n + 6)]
            rw [show ((n : Nat) : Int) + ((6 : Nat) : Int) = ((n + 6 : Nat) : Int) by omega]
          refine ⟨p, _, rfl, sqT hp, rfl, _, _, rfl, _, _, rfl, rfl, ?_⟩
          try dsimp only [gName, tSeq, tAsg, List.set_cons_zero, List.set_cons_succ]
          refine ⟨_, rfl, (by show 2 ≤ sizeLine; decide), fun T nT => ⟨_, rfl, (by show 2 ≤ sizeLine; decide), fun U nU => ?_⟩⟩
          have sT := same_new (o := .tup [V.str (Str.ofString "named"), tx m]) nT
          have sU := same_new (o := .tup [V.ref T, iv (n + 6 + m.length)]) nU
          have sTU := s1.trans (sT.trans sU)
          refine q _ U (V.ref T) sTU (none_of (s1.trans sT) nU) ?_ ⟨T, rfl, sU _ _ upd_same⟩
          rw [upd_same, e6, Nat.add_assoc]
      | mat p => cases hnm
      | len r m => cases hnm
      | tpl k a b x y => cases hnm
      | no c => cases hnm
      | two w a b => cases hnm
    have hnm : Cnd.isNamed c = false := by cases e : Cnd.isNamed c with
      | true => exact absurd e hnm
      | false => rfl
    rw [decide_eq_false (Cnd.not_named hlf hnm z)]
    refine iteF ?_
    have et := Cnd.leaf_text hlf hnm
    have hk := Cnd.kd_no c
    have hd0 : xs.drop n = Cnd.kd c ++ 40 :: (Cnd.inn c ++ 41 :: z) := by
      rw [hd, et, List.append_assoc]
      show Cnd.kd c ++ (40 :: ((Cnd.inn c ++ [41]) ++ z)) = _
      rw [List.append_assoc]
      rfl
    have hcl : (Cnd.cTx c).length = (Cnd.kd c).length + (1 + ((Cnd.inn c).length + 1)) := by
      rw [et, List.length_append, List.length_cons, List.length_append]
      show _ + (_ + 1 + 1) = _
      omega
    refine ⟨_, rfl, _, rfl, _, rfl, S xs, rfl, hz', ⟨_, rfl⟩, S (xs.drop n), S [40], ?_, rfl, rfl, by rw [S_len, sizeLine_eq, List.length_drop]; omega, fun P1 nP1 => ?_⟩
    · rw [cutN_from hn]
    rw [hd0, part_at hk]
    have sP1 := same_new (o := .tup [V.str (S (Cnd.kd c)), V.str (Txt.partition (S (Cnd.kd c ++ 40 :: (Cnd.inn c ++ 41 :: z))) (S [40])).2.1, V.str (Txt.partition (S (Cnd.kd c ++ 40 :: (Cnd.inn c ++ 41 :: z))) (S [40])).2.2]) nP1
    refine ⟨P1, _, 0, _, rfl, rfl, sqT upd_same, atI_nat (j := 0) rfl, ?_⟩
    generalize upd H P1 _ = H1 at sP1 ⊢
    try dsimp only [gName, tSeq, tAsg, List.set_cons_zero, List.set_cons_succ]
    obtain ⟨st, est⟩ : ∃ st, st = n + (Cnd.kd c).length + 1 := ⟨_, rfl⟩
    have hds : xs.drop st = Cnd.inn c ++ 41 :: z := by
      rw [est, Nat.add_assoc, ← List.drop_drop, hd0, ← List.drop_drop, List.drop_left]
      rfl
    have hst : st + (Cnd.inn c).length ≤ xs.length := by omega
    have hbal : ∀ d q i, Cnd.clo (d + 1) (Cnd.inn c ++ q) i = Cnd.clo (d + 1) q (i + (Cnd.inn c).length) := by
      cases hok with
      | named _ _ _ => cases hnm
      | mat hp _ => exact hp.bal
      | len _ _ =>
        exact Cnd.bal_plain fun x hx => by
          rcases List.mem_append.mp hx with h | h
          · exact Cnd.dec_plain x h
          · rcases List.mem_cons.mp h with rfl | h
            · decide
            · exact Cnd.dec_plain x h
      | tpl _ _ _ _ _ _ _ _ _ sa sb =>
        exact Cnd.bal_plain fun x hx => by
          rcases List.mem_append.mp hx with h | h
          · exact ⟨(sa x h).1, (sa x h).2.1⟩
          · rcases List.mem_cons.mp h with rfl | h
            · decide
            · exact ⟨(sb x h).1, (sb x h).2.1⟩
      | no _ => cases hlf
      | two _ _ => cases hlf
    have hclo : Cnd.clo 1 (xs.drop st) st = some (st + (Cnd.inn c).length) := by rw [hds]; exact Cnd.clo_at hbal
    have lkd : (S (Cnd.kd c)).length ≤ sizeLine := by rw [S_len, sizeLine_eq]; omega
    have eint : V.int (((n : Nat) : Int) + (((S (Cnd.kd c)).length : Nat) : Int) + 1) = iv st := by
      rw [S_len, est]
      show V.int _ = V.int _
      congr 1 <;> omega
    refine ⟨_, rfl, _, rfl, S (Cnd.kd c), rfl, lkd, _, _, rfl, rfl, _, _, rfl, rfl, ?_⟩
    dsimp only
    rw [eint]
    refine ⟨_, rfl, _, rfl, xs, st, _, rfl, hclo, hl, fun H2 s2 => ?_⟩
    refine ⟨_, rfl, _, rfl, _, rfl, _, rfl, _, rfl, S xs, rfl, hz', ?_⟩
    have ein : cutS (S xs) (some ((st : Nat) : Int)) (some ((st + (Cnd.inn c).length : Nat) : Int)) = S (Cnd.inn c) := by
      rw [cutN_mid (by omega) hst, hds, show st + (Cnd.inn c).length - st = (Cnd.inn c).length by omega, List.take_left]
    rw [ein]
    have s12 := sP1.trans s2
    try dsimp only [gName, tSeq, tAsg, List.set_cons_zero, List.set_cons_succ]
    have eend : ∀ v p H3, Same H2 H3 → H3 p = some (.tup [v, V.int (((st + (Cnd.inn c).length : Nat) : Int) + 1)]) → H3 p = some (.tup [v, iv (n + (Cnd.cTx c).length)]) := fun v p H3 _ h => by
      rw [h]
      congr 3
      show [V.int _] = [V.int _]
      congr 2 <;> omega
    cases hok with
    | named _ _ _ => cases hnm
    | no _ => cases hlf
    | two _ _ => cases hlf
    | @mat p0 hp lp =>
      refine ⟨_, rfl, rfl, _, rfl, ?_⟩
      refine iteT ?_
      refine ⟨_, rfl, _, rfl, gs, _, rfl, hp, lp, fun H3 a s3 na ha => ⟨_, rfl, _, _, rfl, rfl, (by show 2 ≤ sizeLine; decide), fun T nT => ?_⟩⟩
      have sT := same_new (o := .tup [V.ref a, V.int (((st + (Cnd.inn (.mat p0)).length : Nat) : Int) + 1)]) nT
      exact q _ T (V.ref a) (s12.trans (s3.trans sT)) (none_of (s12.trans s3) nT) (eend _ _ _ (s3.trans sT) upd_same) ⟨a, rfl, sT _ _ ha⟩
    | @len r0 m0 hrm hm =>
      refine ⟨_, rfl, rfl, _, rfl, iteF ?_⟩
      refine ⟨_, rfl, rfl, _, rfl, iteT ?_⟩
      refine ⟨_, rfl, _, _, rfl, hrm, hm, fun H3 a s3 na ha => ⟨_, rfl, _, _, rfl, rfl, (by show 2 ≤ sizeLine; decide), fun T nT => ?_⟩⟩
      have sT := same_new (o := .tup [V.ref a, V.int (((st + (Cnd.inn (.len r0 m0)).length : Nat) : Int) + 1)]) nT
      exact q _ T (V.ref a) (s12.trans (s3.trans sT)) (none_of (s12.trans s3) nT) (eend _ _ _ (s3.trans sT) upd_same) ⟨a, rfl, sT _ _ ha⟩
    | @tpl k a0 b i j hk3 hi hj li lj ra rb la lb sa sb =>
      have n1 : ∀ k, decide (V.str (S (Cnd.kwT k)) = V.str (Str.ofString "match")) = false := fun k => match k with
        | 0 => by decide
        | 1 => by decide
        | 2 => by decide
        | _ + 3 => (by decide : decide (V.str (S (Cnd.kwT 3)) = V.str (Str.ofString "match")) = false)
      have n2 : ∀ k, decide (V.str (S (Cnd.kwT k)) = V.str (Str.ofString "length")) = false := fun k => match k with
        | 0 => by decide
        | 1 => by decide
        | 2 => by decide
        | _ + 3 => (by decide : decide (V.str (S (Cnd.kwT 3)) = V.str (Str.ofString "length")) = false)
      obtain ⟨u, hu⟩ := kW k hk3
      refine ⟨_, rfl, rfl, _, rfl, ?_⟩
      show (if decide (V.str (S (Cnd.kwT k)) = V.str (Str.ofString "match")) = true then _ else _)
      rw [n1]
      refine iteF ⟨_, rfl, rfl, _, rfl, ?_⟩
      show (if decide (V.str (S (Cnd.kwT k)) = V.str (Str.ofString "length")) = true then _ else _)
      rw [n2]
      refine iteF ⟨_, rfl, S (Cnd.kwT k), some u, rfl, rfl, by rw [← kwS_T]; exact hu, _, rfl, iteF ?_⟩
      refine ⟨_, rfl, _, rfl, _, rfl, gs, a0, b, k, i, j, by rw [kwS_T]; rfl, hg, hi, hj, li, lj, ra, rb, la, lb, sa, sb, fun H3 a s3 na ha => ⟨_, rfl, _, _, rfl, rfl, (by show 2 ≤ sizeLine; decide), fun T nT => ?_⟩⟩
      have sT := same_new (o := .tup [V.ref a, V.int (((st + (Cnd.inn (.tpl k a0 b (rTx gs i) (rTx gs j))).length : Nat) : Int) + 1)]) nT
      exact q _ T (V.ref a) (s12.trans (s3.trans sT)) (none_of (s12.trans s3) nT) (eend _ _ _ (s3.trans sT) upd_same) ⟨a, rfl, sT _ _ ha⟩
end
end Own

namespace Own
open PySem PySem.Spec PyProof.Rows L2 SX RZ
section
variable {P : Program} {w : World} {K : PySem.W.Frag} {mg : Str → Option Value} {base : Heap}
abbrev mkV (b : Bool) : V := .str (if b then Str.ofString "not" else Str.ofString "(")
def spBeg : Sp := fun vs H Q _ => ∃ (xs w : List Nat) (n : Nat) (ms : List Bool), vs = [tx xs, iv n] ∧ xs.drop n = Cnd.preT ms ++ w ∧ n ≤ xs.length ∧ xs.length ≤ 100000 ∧ ¬ Cnd.notT <+: w ∧ ¬ [40] <+: w ∧
  ∀ H' p l, Same H H' → H p = none → H l = none → H' l = some (.lst (ms.map mkV)) → H' p = some (.tup [.ref l, iv (n + (Cnd.preT ms).length)]) → Q (.ref p) H'
abbrev sBeg : Stmt := topS 42
abbrev begN : List Str := ["text", "at", "begun", "end"]
theorem scBeg : FnScope begN ["text", "at"] (defScope sBeg) := ⟨rfl, rfl, rfl, by decide +kernel, rfl, by decide +kernel, by decide +kernel⟩
theorem ok_beg {f : Addr} {fd : FuncData} (F : Fun K "begun_conditions" "begun_conditions" sBeg f fd) (m_len : mg "len" = none) :
    FnOk P w K mg base CX0 1 f fd ["text", "at"] spBeg := by
  refine F.ok scBeg (fun vs H Q E h => ?_) (fun cdv A outer s H vs Q E hr h => ?_)
  · obtain ⟨xs, w0, n, ms, rfl, _⟩ := h
    rfl
  · obtain ⟨xs, w0, n, ms, rfl, hd, hn, hl, h1, h2, q⟩ := h
    refine ⟨_, (pss_cons (ps_set (i := 2) scBeg.nd rfl (by first | exact .inl rfl | exact .inr rfl) (pe_lst pa_nil))
      (pss_cons (ps_set (i := 3) scBeg.nd rfl (by first | exact .inl rfl | exact .inr rfl) (pv 1))
      (pss_one (ps_while PassesOwn.never (pt_val pe_bl)
        (pss_one (ps_if (pt_val (pe_bm PySem.F.plainAttrs_str PySem.F.slot_str_startswith PySem.F.type_str_startswith mt_startswith3 (pv 0) (pa_cons pe_str (pa_cons (pv 3) pa_nil)))) (pss_cons (ps_expr (pe_bm PySem.F.plainAttrs_list PySem.F.slot_list_append PySem.F.type_list_append mt_append (pv 2) (pa_cons pe_str pa_nil)))
      (pss_one (ps_aug (i := 3) scBeg.nd rfl (by first | exact .inl rfl | exact .inr rfl) (pe_callB call_len_str (by rfl) m_len PySem.boot_len (pa_cons pe_str pa_nil)) ip_add))) (pss_one (ps_if (pt_val (pe_bm PySem.F.plainAttrs_str PySem.F.slot_str_startswith PySem.F.type_str_startswith mt_startswith3 (pv 0) (pa_cons pe_str (pa_cons (pv 3) pa_nil)))) (pss_cons (ps_expr (pe_bm PySem.F.plainAttrs_list PySem.F.slot_list_append PySem.F.type_list_append mt_append (pv 2) (pa_cons pe_str pa_nil)))
      (pss_one (ps_aug (i := 3) scBeg.nd rfl (by first | exact .inl rfl | exact .inr rfl) (pe_callB call_len_str (by rfl) m_len PySem.boot_len (pa_cons pe_str pa_nil)) ip_add))) (pss_one (ps_ret (pe_tup (pa_cons (pv 2) (pa_cons (pv 3) pa_nil))))))))))))), ?_⟩
    have hz' : (S xs).length ≤ sizeLine := by rw [S_len, sizeLine_eq]; omega
    have hpl : (Cnd.preT ms).length + w0.length = xs.length - n := by
      have := congrArg List.length hd
      rw [List.length_drop, List.length_append] at this
      omega
    have hml : ∀ l : List Bool, l.length ≤ (Cnd.preT l).length := fun l => by
      induction l with
      | nil => exact Nat.le_refl _
      | cons b l ih =>
        show l.length + 1 ≤ (Cnd.mkT b ++ Cnd.preT l).length
        rw [List.length_append]
        have : 1 ≤ (Cnd.mkT b).length := by cases b <;> decide
        omega
    have hms := hml ms
    refine ⟨Nat.zero_le _, fun L nL => ?_⟩
    have sL := same_new (o := .lst []) nL
    refine ⟨_, rfl, ?_⟩
    show tWhile _ _ _ [some (tx xs), some (iv n), some (.ref L), some (iv n)] _
    refine ⟨fun m σ H' => ∃ k, σ = [some (tx xs), some (iv n), some (.ref L), some (iv (n + (Cnd.preT (ms.take k)).length))] ∧ k ≤ ms.length ∧ m = ms.length - k ∧ Same H H' ∧ H' L = some (.lst ((ms.take k).map mkV)), ⟨_, 0, rfl, Nat.zero_le _, rfl, sL, upd_same⟩, ?_⟩
    rintro m σ H1 ⟨k, rfl, hk, rfl, s1, hL⟩
    refine ⟨true, rfl, ?_⟩
    refine iteT ?_
    have eall : Cnd.preT ms = Cnd.preT (ms.take k) ++ Cnd.preT (ms.drop k) := by
      show ms.flatMap Cnd.mkT = (ms.take k).flatMap Cnd.mkT ++ (ms.drop k).flatMap Cnd.mkT
      rw [← List.flatMap_append, List.take_append_drop]
    have hdk : xs.drop (n + (Cnd.preT (ms.take k)).length) = Cnd.preT (ms.drop k) ++ w0 := by
      rw [← List.drop_drop, hd, eall, List.append_assoc, List.drop_left]
    have hle : n + (Cnd.preT (ms.take k)).length ≤ xs.length := by
      have := congrArg List.length eall
      rw [List.length_append] at this
      omega
    have llen : ((ms.take k).map mkV).length < sizeLine := by
      rw [List.length_map, List.length_take, sizeLine_eq]
      omega
    have inv : (fun σ H' => ∃ k', k' = k + 1 ∧ k' ≤ ms.length ∧ σ = [some (tx xs), some (iv n), some (.ref L), some (iv (n + (Cnd.preT (ms.take k')).length))] ∧ Same H H' ∧ H' L = some (.lst ((ms.take k').map mkV))) = (fun σ H' => ∃ k', k' = k + 1 ∧ k' ≤ ms.length ∧ σ = [some (tx xs), some (iv n), some (.ref L), some (iv (n + (Cnd.preT (ms.take k')).length))] ∧ Same H H' ∧ H' L = some (.lst ((ms.take k').map mkV))) := rfl
    refine ⟨fun (σ : L2.St) (H' : Hp) => ∃ k', k' = k + 1 ∧ k' ≤ ms.length ∧ σ = [some (tx xs), some (iv n), some (.ref L), some (iv (n + (Cnd.preT (ms.take k')).length))] ∧ Same H H' ∧ H' L = some (.lst ((ms.take k').map mkV)), ?_, ?_⟩
    · rintro σ' H' ⟨k', rfl, h1, rfl, s2, h2⟩
      exact ⟨_, by omega, _, rfl, h1, rfl, s2, h2⟩
    refine ⟨_, rfl, rfl, _, rfl, S xs, S Cnd.notT, _, rfl, rfl, _, rfl, ?_⟩
    rw [sw3 hle, hdk]
    by_cases hlt : k < ms.length
    · have ed : ms.drop k = ms[k] :: ms.drop (k + 1) := List.drop_eq_getElem_cons hlt
      have et : ms.take (k + 1) = ms.take k ++ [ms[k]] := by rw [List.take_add_one, List.getElem?_eq_getElem hlt]; rfl
      have ep : (Cnd.preT (ms.take (k + 1))).length = (Cnd.preT (ms.take k)).length + (Cnd.mkT ms[k]).length := by
        rw [et]
        show ((ms.take k ++ [ms[k]]).flatMap Cnd.mkT).length = _
        rw [List.flatMap_append, List.length_append]
        show _ + (Cnd.mkT ms[k] ++ []).length = _
        rw [List.append_nil]
        rfl
      have em : ((ms.take k).map mkV) ++ [mkV ms[k]] = (ms.take (k + 1)).map mkV := by rw [et, List.map_append]; rfl
      rw [ed]
      generalize hb : ms[k] = b at ep em et
      cases b with
      | true =>
        rw [decide_eq_true (show Cnd.notT <+: Cnd.preT (true :: ms.drop (k + 1)) ++ w0 from ⟨Cnd.preT (ms.drop (k + 1)) ++ w0, by show _ = (Cnd.notT ++ Cnd.preT (ms.drop (k + 1))) ++ w0; rw [List.append_assoc]⟩)]
        refine iteT ?_
        refine ⟨_, rfl, .inl ⟨rfl, _, sqL hL⟩, L, _, _, rfl, rfl, hL, llen, ?_⟩
        refine ⟨_, rfl, _, rfl, (by show 4 ≤ sizeLine; decide), _, _, rfl, rfl, _, rfl, by omega, ?_, same_put s1 nL, ?_⟩
        · show [some (tx xs), some (iv n), some (.ref L), some (V.int (((n + (Cnd.preT (ms.take k)).length : Nat) : Int) + 4))] = _
          rw [ep]
          show _ = [some (tx xs), some (iv n), some (.ref L), some (iv (n + ((Cnd.preT (ms.take k)).length + 4)))]
          rw [show ((n + (Cnd.preT (ms.take k)).length : Nat) : Int) + 4 = ((n + ((Cnd.preT (ms.take k)).length + 4) : Nat) : Int) by omega]
        · rw [upd_same, ← em]; rfl
      | false =>
        rw [decide_eq_false (show ¬ Cnd.notT <+: Cnd.preT (false :: ms.drop (k + 1)) ++ w0 from fun ⟨t, e⟩ => by
          have e : Cnd.notT ++ t = 40 :: (Cnd.preT (ms.drop (k + 1)) ++ w0) := e
          cases e)]
        refine iteF ?_
        refine ⟨_, rfl, rfl, _, rfl, S xs, S [40], _, rfl, rfl, _, rfl, ?_⟩
        rw [sw3 hle, hdk, ed, hb]
        rw [decide_eq_true (show [40] <+: Cnd.preT (false :: ms.drop (k + 1)) ++ w0 from ⟨Cnd.preT (ms.drop (k + 1)) ++ w0, rfl⟩)]
        refine iteT ?_
        refine ⟨_, rfl, .inl ⟨rfl, _, sqL hL⟩, L, _, _, rfl, rfl, hL, llen, ?_⟩
        refine ⟨_, rfl, _, rfl, (by show 1 ≤ sizeLine; decide), _, _, rfl, rfl, _, rfl, by omega, ?_, same_put s1 nL, ?_⟩
        · show [some (tx xs), some (iv n), some (.ref L), some (V.int (((n + (Cnd.preT (ms.take k)).length : Nat) : Int) + 1))] = _
          rw [ep]
          show _ = [some (tx xs), some (iv n), some (.ref L), some (iv (n + ((Cnd.preT (ms.take k)).length + 1)))]
          rw [show ((n + (Cnd.preT (ms.take k)).length : Nat) : Int) + 1 = ((n + ((Cnd.preT (ms.take k)).length + 1) : Nat) : Int) by omega]
        · rw [upd_same, ← em]; rfl
    · have ek : k = ms.length := by omega
      subst ek
      rw [List.drop_length]
      rw [decide_eq_false (show ¬ Cnd.notT <+: Cnd.preT [] ++ w0 from h1)]
      refine iteF ?_
      refine ⟨_, rfl, rfl, _, rfl, S xs, S [40], _, rfl, rfl, _, rfl, ?_⟩
      rw [sw3 hle, hdk, List.drop_length]
      rw [decide_eq_false (show ¬ [40] <+: Cnd.preT [] ++ w0 from h2)]
      refine iteF ?_
      rw [List.take_length] at hL
      refine ⟨_, rfl, _, rfl, (by show 2 ≤ sizeLine; decide), fun T nT => ?_⟩
      have sT := same_new (o := .tup [V.ref L, iv (n + (Cnd.preT (ms.take ms.length)).length)]) nT
      refine q _ T L (s1.trans sT) (none_of s1 nT) nL (sT _ _ hL) ?_
      rw [upd_same, List.take_length]
end
end Own

namespace Own
open PySem PySem.Spec PyProof.Rows L2 SX RZ
section
variable {P : Program} {w : World} {K : PySem.W.Frag} {mg : Str → Option Value} {base : Heap}
def spLnk : Sp := fun vs H Q _ => ∃ (xs z : List Nat) (n : Nat) (b : Bool), vs = [tx xs, iv n] ∧ xs.drop n = 32 :: (Cnd.wdT b ++ (32 :: z)) ∧ n ≤ xs.length ∧ xs.length ≤ 100000 ∧ ∀ H', Same H H' → Q (.str (wdS b)) H'
abbrev sLnk : Stmt := topS 43
abbrev lnkN : List Str := ["text", "at", "word"]
theorem scLnk : FnScope lnkN ["text", "at"] (defScope sLnk) := ⟨rfl, rfl, rfl, by decide +kernel, rfl, by decide +kernel, by decide +kernel⟩
theorem ok_lnk {f : Addr} {fd : FuncData} (F : Fun K "linking_word" "linking_word" sLnk f fd) :
    FnOk P w K mg base CX0 1 f fd ["text", "at"] spLnk := by
  refine F.ok scLnk (fun vs H Q E h => ?_) (fun cdv A outer s H vs Q E hr h => ?_)
  · obtain ⟨xs, z, n, b, rfl, _⟩ := h
    rfl
  · obtain ⟨xs, z, n, b, rfl, hd, hn, hl, q⟩ := h
    refine ⟨_, (pss_cons (ps_for PassesOwn.never rfl (pi_tup (pe_tup (pa_cons pe_str (pa_cons pe_str pa_nil)))) (pg_name (i := 2) scLnk.nd rfl (by first | exact .inl rfl | exact .inr rfl))
        (pss_one (ps_if (pt_val (pe_bm PySem.F.plainAttrs_str PySem.F.slot_str_startswith PySem.F.type_str_startswith mt_startswith3 (pv 0) (pa_cons (pe_joined (.cons pe_str (.cons (pe_fmt (pv 2)) (.cons pe_str .nil)))) (pa_cons (pv 1) pa_nil)))) (pss_one (ps_ret (pv 2))) pss_nil)))
      (pss_one (ps_never))), ?_⟩
    have hz' : (S xs).length ≤ sizeLine := by rw [S_len, sizeLine_eq]; omega
    refine ⟨(by show 2 ≤ sizeLine; decide), fun T nT => ⟨T, rfl, ⟨_, sqT upd_same⟩, ?_⟩⟩
    have sT := same_new (o := .tup [V.str (Str.ofString "and"), V.str (Str.ofString "or")]) nT
    have hT : upd H T (.tup [V.str (Str.ofString "and"), V.str (Str.ofString "or")]) T = some (.tup [V.str (Str.ofString "and"), V.str (Str.ofString "or")]) := upd_same
    generalize upd H T (.tup [V.str (Str.ofString "and"), V.str (Str.ofString "or")]) = H1 at sT hT ⊢
    refine for_it (walk_tup (K := K) (a := T) (xs := [V.str (Str.ofString "and"), V.str (Str.ofString "or")])) (fun i σ H' => ∃ v2 : Option V, σ = [some (tx xs), some (iv n), v2] ∧ Same H H' ∧ Same H1 H' ∧ (i = 0 ∨ (i = 1 ∧ b = false)))
      ⟨none, rfl, sT, Same.refl _, .inl rfl⟩ (fun i σ H' _ h => by obtain ⟨_, _, _, s, _⟩ := h; exact sqT (s _ _ hT)) ?_ ?_
    · rintro i v σ H2 H3 hi ⟨v2, rfl, s2, s12, hib⟩ ⟨rfl, hv⟩
      try dsimp only [gName, tSeq, tAsg, List.set_cons_zero, List.set_cons_succ]
      obtain ⟨wb, rfl, hwi⟩ : ∃ wb : Bool, v = V.str (wdS wb) ∧ (i = if wb then 0 else 1) := by
        match i, hi, hv with
        | 0, _, hv => cases hv; exact ⟨true, rfl, rfl⟩
        | 1, _, hv => cases hv; exact ⟨false, rfl, rfl⟩
      have ew : Str.empty ++ Str.ofString " " ++ wdS wb ++ Str.ofString " " = S (32 :: (Cnd.wdT wb ++ [32])) := by cases wb <;> rfl
      have lw : (wdS wb).length ≤ sizeLine := by cases wb <;> (show _ ≤ sizeLine; decide)
      have l1 : (Str.empty ++ Str.ofString " ").length ≤ sizeLine := by decide
      have l2 : (Str.empty ++ Str.ofString " " ++ wdS wb).length ≤ sizeLine := by cases wb <;> decide
      have l3 : (Str.empty ++ Str.ofString " " ++ wdS wb ++ Str.ofString " ").length ≤ sizeLine := by cases wb <;> decide
      refine ⟨_, rfl, rfl, _, rfl, l1, _, rfl, .inl ⟨_, rfl, lw, _, rfl, l2, _, rfl, l3, _, rfl, S xs, _, _, rfl, rfl, _, rfl, ?_⟩⟩
      rw [ew, sw3 hn, hd]
      have s3 := s2
      by_cases hb : wb = b
      · subst hb
        rw [decide_eq_true (show (32 :: (Cnd.wdT wb ++ [32])) <+: (32 :: (Cnd.wdT wb ++ (32 :: z))) from ⟨z, by show 32 :: ((Cnd.wdT wb ++ [32]) ++ z) = _; rw [List.append_assoc]; rfl⟩)]
        exact iteT ⟨_, rfl, q _ s2⟩
      · rw [decide_eq_false (show ¬ (32 :: (Cnd.wdT wb ++ [32])) <+: (32 :: (Cnd.wdT b ++ (32 :: z))) from fun ⟨t, e⟩ => hb (by
          cases wb <;> cases b
          · rfl
          · simp [Cnd.wdT] at e
          · simp [Cnd.wdT] at e
          · rfl))]
        refine iteF ⟨_, rfl, s2, s12, ?_⟩
        rcases hib with rfl | ⟨rfl, rfl⟩
        · refine .inr ⟨rfl, ?_⟩
          have : wb = true := by cases wb with
            | true => rfl
            | false => cases hwi
          subst this
          cases b with
          | true => exact absurd rfl hb
          | false => rfl
        · have : wb = false := by cases wb with
            | true => cases hwi
            | false => rfl
          exact absurd this hb
    · rintro σ H2 ⟨v2, rfl, s2, s12, hib⟩
      have hib : (2 = 0 ∨ (2 = 1 ∧ b = false)) := hib
      omega
end
end Own

namespace Own
open PySem PySem.Spec PyProof.Rows L2 SX RZ
section
variable {P : Program} {w : World} {K : PySem.W.Frag} {mg : Str → Option Value} {base : Heap}
def FsV (H : Hp) : List Cnd.Fr → List V → Prop
  | [], [] => True
  | f :: fs, v :: vs => FrV H f v ∧ FsV H fs vs
  | _, _ => False
theorem FsV.keep {H H' : Hp} (k : ∀ a xs, H a = some (.tup xs) → H' a = some (.tup xs)) : ∀ {fs : List Cnd.Fr} {vs : List V}, FsV H fs vs → FsV H' fs vs
  | [], [], h => h
  | _ :: _, _ :: _, ⟨h, i⟩ => ⟨h.keep k, i.keep k⟩
  | [], _ :: _, h => h.elim
  | _ :: _, [], h => h.elim
theorem FsV.app {H : Hp} : ∀ {fs : List Cnd.Fr} {vs : List V} {gs : List Cnd.Fr} {ws : List V}, FsV H fs vs → FsV H gs ws → FsV H (fs ++ gs) (vs ++ ws)
  | [], [], _, _, _, h => h
  | _ :: _, _ :: _, _, _, ⟨h, i⟩, j => ⟨h, i.app j⟩
  | [], _ :: _, _, _, h, _ => h.elim
  | _ :: _, [], _, _, h, _ => h.elim
theorem FsV.len {H : Hp} : ∀ {fs : List Cnd.Fr} {vs : List V}, FsV H fs vs → fs.length = vs.length
  | [], [], _ => rfl
  | _ :: _, _ :: _, ⟨_, i⟩ => congrArg (· + 1) i.len
  | [], _ :: _, h => h.elim
  | _ :: _, [], h => h.elim
theorem new_v {H : Hp} : ∀ (c : Cnd.Cd), FsV H (Cnd.newF c).reverse ((Cnd.marks c).map mkV).reverse
  | .no c => by
    show FsV H (Cnd.Fr.no :: Cnd.newF c).reverse (mkV true :: (Cnd.marks c).map mkV).reverse
    rw [List.reverse_cons, List.reverse_cons]
    exact (new_v c).app ⟨rfl, True.intro⟩
  | .two w a b => by
    show FsV H (Cnd.Fr.lft w b :: Cnd.newF a).reverse (mkV false :: (Cnd.marks a).map mkV).reverse
    rw [List.reverse_cons, List.reverse_cons]
    exact (new_v a).app ⟨rfl, True.intro⟩
  | .named _ | .mat _ | .len _ _ | .tpl _ _ _ _ _ => True.intro
theorem dpt_len : ∀ (fs : List Cnd.Fr) (c : Cnd.Cd), fs.length + Cnd.dpt c ≤ Cnd.dpt (Cnd.plug fs c)
  | [], c => Nat.le_of_eq (Nat.zero_add _)
  | .no :: fs, c => by
    have h := dpt_len fs (.no c)
    have : Cnd.dpt (.no c) = Cnd.dpt c + 1 := rfl
    show fs.length + 1 + Cnd.dpt c ≤ Cnd.dpt (Cnd.plug fs (.no c))
    omega
  | .lft w r :: fs, c => by
    have h := dpt_len fs (.two w c r)
    have : Cnd.dpt (.two w c r) = max (Cnd.dpt c) (Cnd.dpt r) + 1 := rfl
    show fs.length + 1 + Cnd.dpt c ≤ Cnd.dpt (Cnd.plug fs (.two w c r))
    omega
  | .rgt w l :: fs, c => by
    have h := dpt_len fs (.two w l c)
    have : Cnd.dpt (.two w l c) = max (Cnd.dpt l) (Cnd.dpt c) + 1 := rfl
    show fs.length + 1 + Cnd.dpt c ≤ Cnd.dpt (Cnd.plug fs (.two w l c))
    omega
theorem fs_app {gs : List Nat} {a b : List Cnd.Fr} (ha : FsOk gs a) (hb : FsOk gs b) : FsOk gs (a ++ b) := fun f hf => (List.mem_append.mp hf).elim (ha f) (hb f)
theorem tup_keep {H : Hp} {B : Addr} {ys : List V} {o : HO} (hB : H B = some (.lst ys)) : ∀ a xs, H a = some (.tup xs) → upd H B o a = some (.tup xs) := fun a xs h => by
  rw [upd_ne (fun e => by rw [e, hB] at h; cases h)]
  exact h
theorem get_last {l : List V} {v : V} : (l ++ [v])[(l ++ [v]).length - 1]? = some v := by
  rw [List.length_append]
  show (l ++ [v])[l.length + 1 - 1]? = some v
  rw [Nat.add_sub_cancel, List.getElem?_append_right (Nat.le_refl _), Nat.sub_self]
  rfl
theorem ixN_last {l : List V} {v : V} : ixN (l ++ [v]).length (-1) = some l.length := by
  rw [List.length_append]
  unfold ixN
  rw [if_neg (by decide)]
  rw [if_pos (by show -(((l.length + 1 : Nat)) : Int) ≤ -1; omega)]
  congr 1
  show (-1 + ((l.length + 1 : Nat) : Int)).toNat = _
  omega
theorem set_last {l : List V} {v u : V} : (l ++ [v]).set l.length u = l ++ [u] := by
  rw [List.set_append_right _ _ (Nat.le_refl _), Nat.sub_self]
  rfl
theorem shp_pair {w : Bool} {l : Cnd.Cd} (h : Low l) (hd : Cnd.dpt l ≤ 60) : SeqAt.shaped (.tuple [.str (wdS w), cdD l]) = true := by
  have h1 : PyData.canLay0 (.tuple [.str (wdS w), cdD l]) = true := by
    show (PyData.canLay0 (.str (wdS w)) && (PyData.canLay0 (cdD l) && true)) = true
    rw [lay_wd, lay_cd h]
    rfl
  have h2 : PyData.depth (.tuple [.str (wdS w), cdD l]) ≤ 64 := by
    have := dep_cd l
    show max 0 (max (PyData.depth (cdD l)) 0) + 1 ≤ 64
    omega
  unfold SeqAt.shaped
  rw [h1, decide_eq_true h2]
  rfl
def spRdc : Sp := fun vs H Q _ => ∃ (gs xs z : List Nat) (n : Nat) (c : Cnd.Cd), vs = [tx gs, tx xs, iv n] ∧ Good gs ∧ xs.drop n = Cnd.cTx c ++ z ∧ n ≤ xs.length ∧ xs.length ≤ 100000 ∧ OkS gs c ∧ Cnd.dpt c ≤ 60 ∧ (∀ d r, z = d :: r → ¬ (97 ≤ d ∧ d ≤ 122)) ∧
  ∀ H' p v, Same H H' → H p = none → H' p = some (.tup [v, iv (n + (Cnd.cTx c).length)]) → CdH H' c v → Q (.ref p) H'
abbrev sRdc : Stmt := topS 44
abbrev rdcN : List Str := ["letters", "text", "at", "begun", "end", "more", "condition", "last", "word"]
theorem scRdc : FnScope rdcN ["letters", "text", "at"] (defScope sRdc) := ⟨rfl, rfl, rfl, by decide +kernel, rfl, by decide +kernel, by decide +kernel⟩
theorem ok_rdc {f : Addr} {fd : FuncData} (F : Fun K "read_condition" "read_condition" sRdc f fd) (m_len : mg "len" = none) {f1 : Addr} {fd1 : FuncData} (c1 : Cl P w K mg base "begun_conditions" 1 ["text", "at"] spBeg f1 fd1) {f2 : Addr} {fd2 : FuncData} (c2 : Cl P w K mg base "read_simple" 8 ["letters", "text", "at"] spRsm f2 fd2) {f3 : Addr} {fd3 : FuncData} (c3 : Cl P w K mg base "linking_word" 1 ["text", "at"] spLnk f3 fd3) :
    FnOk P w K mg base CX0 9 f fd ["letters", "text", "at"] spRdc := by
  refine F.ok scRdc (fun vs H Q E h => ?_) (fun cdv A outer s H vs Q E hr h => ?_)
  · obtain ⟨gs, xs, z, n, c, rfl, _⟩ := h
    rfl
  · obtain ⟨gs, xs, z, n0, c0, rfl, hg, hd0, hn0, hl, hok0, hdp, hz, q⟩ := h
    refine ⟨_, (pss_cons (ps_set (i := 3) scRdc.nd rfl (by first | exact .inl rfl | exact .inr rfl) (pe_lst pa_nil))
      (pss_cons (ps_set (i := 4) scRdc.nd rfl (by first | exact .inl rfl | exact .inr rfl) (pv 2))
      (pss_one (ps_while PassesOwn.never (pt_val pe_bl)
        (pss_cons (ps_asg (pe_cl c1 hr (by decide) (by rfl) (pa_cons (pv 1) (pa_cons (pv 4) pa_nil))) (pg_tup rfl (pgs_cons (pg_name (i := 5) scRdc.nd rfl (by first | exact .inl rfl | exact .inr rfl)) (pgs_cons (pg_name (i := 4) scRdc.nd rfl (by first | exact .inl rfl | exact .inr rfl)) pgs_nil))))
      (pss_cons (ps_expr (pe_bm PySem.F.plainAttrs_list PySem.F.slot_list_extend PySem.F.type_list_extend mt_extend (pv 3) (pa_cons (pv 5) pa_nil)))
      (pss_cons (ps_asg (pe_cl c2 hr (by decide) (by rfl) (pa_cons (pv 0) (pa_cons (pv 1) (pa_cons (pv 4) pa_nil)))) (pg_tup rfl (pgs_cons (pg_name (i := 6) scRdc.nd rfl (by first | exact .inl rfl | exact .inr rfl)) (pgs_cons (pg_name (i := 4) scRdc.nd rfl (by first | exact .inl rfl | exact .inr rfl)) pgs_nil))))
      (pss_cons (ps_while PassesOwn.never (PW.pt (pw_and (pt_truth (pv 3) (fun _ => rfl)) (pw_and1 (pt_cmpR (op_neD hr.units) (pe_ix (ixL (K := K) rfl) (pv 3) (pe_un un_neg pe_int) (fun _ _ => rfl)) pe_str (nomark _)))))
        (pss_cons (ps_set (i := 7) scRdc.nd rfl (by first | exact .inl rfl | exact .inr rfl) (pe_bm0 PySem.F.plainAttrs_list PySem.F.slot_list_pop PySem.F.type_list_pop mt_pop (pv 3)))
      (pss_one (ps_if (pt_cmpR (op_eqD hr.units) (pv 7) pe_str (nomark _)) (pss_one (ps_set (i := 6) scRdc.nd rfl (by first | exact .inl rfl | exact .inr rfl) (pe_tup (pa_cons pe_str (pa_cons (pv 6) pa_nil))))) (pss_one (ps_if (pt_val (pe_bm PySem.F.plainAttrs_str PySem.F.slot_str_startswith PySem.F.type_str_startswith mt_startswith3 (pv 1) (pa_cons pe_str (pa_cons (pv 4) pa_nil)))) (pss_cons (ps_set (i := 6) scRdc.nd rfl (by first | exact .inl rfl | exact .inr rfl) (pe_tup (pa_cons (pe_ix (ixT (K := K) rfl) (pv 7) pe_int (fun _ _ => rfl)) (pa_cons (pe_ix (ixT (K := K) rfl) (pv 7) pe_int (fun _ _ => rfl)) (pa_cons (pv 6) pa_nil)))))
      (pss_one (ps_aug (i := 4) scRdc.nd rfl (by first | exact .inl rfl | exact .inr rfl) pe_int ip_add))) pss_never))))))
      (pss_cons (ps_if (pt_not (pt_truth (pv 3) (fun _ => rfl))) (pss_one (ps_ret (pe_tup (pa_cons (pv 6) (pa_cons (pv 4) pa_nil))))) pss_nil)
      (pss_cons (ps_set (i := 8) scRdc.nd rfl (by first | exact .inl rfl | exact .inr rfl) (pe_cl c3 hr (by decide) (by rfl) (pa_cons (pv 1) (pa_cons (pv 4) pa_nil))))
      (pss_cons (ps_asg (pe_tup (pa_cons (pv 8) (pa_cons (pv 6) pa_nil))) (pg_sub (pv 3) (pe_un un_neg pe_int) set_list))
      (pss_one (ps_aug (i := 4) scRdc.nd rfl (by first | exact .inl rfl | exact .inr rfl) (pe_op op_add (pe_callB call_len_str (by rfl) m_len PySem.boot_len (pa_cons (pv 8) pa_nil)) pe_int) ip_add))))))))))))), ?_⟩
    have hz' : (S xs).length ≤ sizeLine := by rw [S_len, sizeLine_eq]; omega
    refine ⟨Nat.zero_le _, fun B nB => ?_⟩
    have sB := same_new (o := .lst []) nB
    refine ⟨_, rfl, ?_⟩
    show tWhile _ _ _ [some (tx gs), some (tx xs), some (iv n0), some (.ref B), some (iv n0), none, none, none, none] _
    refine ⟨fun m σ H' => ∃ (fs : List Cnd.Fr) (c : Cnd.Cd) (n : Nat) (vs : List V) (v5 v6 v7 v8 : Option V), σ = [some (tx gs), some (tx xs), some (iv n0), some (.ref B), some (iv n), v5, v6, v7, v8] ∧ Same H H' ∧ H' B = some (.lst vs.reverse) ∧ FsV H' fs vs ∧ n ≤ xs.length ∧ xs.drop n = Cnd.cTx c ++ Cnd.rest z fs ∧ Cnd.plug fs c = c0 ∧ FsOk gs fs ∧ OkS gs c ∧ m = Cnd.size c + Cnd.left fs,
      ⟨_, [], c0, n0, [], none, none, none, none, rfl, sB, upd_same, True.intro, hn0, hd0, rfl, fun _ h => (nomatch h), hok0, rfl⟩, ?_⟩
    rintro m σ H1 ⟨fs, c, n, vs, v5, v6, v7, v8, rfl, s1, hB, hF, hn, hd, hpl, hfo, hco, rfl⟩
    refine ⟨true, rfl, ?_⟩
    refine ⟨_, fun _ _ h => h, ?_⟩
    have hto := Cnd.text_of (z := z) c fs
    have hlf := Cnd.leaf_of c
    have hld := Cnd.lead hlf (Cnd.rest z ((Cnd.newF c).reverse ++ fs))
    have hml : (Cnd.preT (Cnd.marks c)).length + (Cnd.cTx (Cnd.leafOf c) ++ Cnd.rest z ((Cnd.newF c).reverse ++ fs)).length = xs.length - n := by
      have := congrArg List.length (hd.trans hto)
      rw [List.length_drop, List.length_append] at this
      omega
    refine ⟨_, rfl, _, rfl, xs, _, n, Cnd.marks c, rfl, hd.trans hto, hn, hl, hld.1, hld.2, fun H2 p l s2 np nl hL hp => ?_⟩
    refine ⟨p, _, rfl, sqT hp, rfl, _, _, rfl, _, _, rfl, rfl, ?_⟩
    try dsimp only [gName, tSeq, tAsg, List.set_cons_zero, List.set_cons_succ]
    have hB2 : H2 B = some (.lst vs.reverse) := s2 _ _ hB
    have hlen := dpt_len ((Cnd.newF c).reverse ++ fs) (Cnd.leafOf c)
    rw [Cnd.plug_of, hpl, List.length_append, List.length_reverse] at hlen
    have hmn : (Cnd.marks c).length = (Cnd.newF c).length := by rw [Cnd.marks_new, List.length_map]
    have hfl := hF.len
    refine ⟨_, rfl, .inl ⟨rfl, _, sqL hB2⟩, _, rfl, B, l, _, _, rfl, rfl, hB2, hL, by rw [List.length_reverse, List.length_map, sizeLine_eq]; omega, ?_⟩
    obtain ⟨H3, eH3⟩ : ∃ H3, H3 = upd H2 B (.lst (vs.reverse ++ (Cnd.marks c).map mkV)) := ⟨_, rfl⟩
    rw [← eH3]
    have s3 : Same H H3 := by rw [eH3]; exact same_put (s1.trans s2) nB
    have hB3 : H3 B = some (.lst (vs.reverse ++ (Cnd.marks c).map mkV)) := by rw [eH3]; exact upd_same
    have hF3 : FsV H3 ((Cnd.newF c).reverse ++ fs) (((Cnd.marks c).map mkV).reverse ++ vs) := (new_v c).app (by rw [eH3]; exact (hF.keep fun a xs e => s2 _ _ e).keep (tup_keep hB2))
    have hn1 : n + (Cnd.preT (Cnd.marks c)).length ≤ xs.length := by omega
    have hd1 : xs.drop (n + (Cnd.preT (Cnd.marks c)).length) = Cnd.cTx (Cnd.leafOf c) ++ Cnd.rest z ((Cnd.newF c).reverse ++ fs) := by
      rw [← List.drop_drop, hd, hto, List.drop_left]
    refine ⟨_, rfl, _, rfl, _, rfl, gs, xs, _, _, Cnd.leafOf c, rfl, hg, hd1, hn1, hl, hlf, (new_ok hco).2, Cnd.rest_head hz _, fun H4 p2 v s4 np2 hp2 hv => ?_⟩
    refine ⟨p2, _, rfl, sqT hp2, rfl, _, _, rfl, _, _, rfl, rfl, ?_⟩
    try dsimp only [gName, tSeq, tAsg, List.set_cons_zero, List.set_cons_succ]
    have hlc := Cnd.left_new c
    have eapp := Cnd.left_app (Cnd.newF c).reverse fs
    have hcl : (Cnd.cTx (Cnd.leafOf c)).length + (Cnd.rest z ((Cnd.newF c).reverse ++ fs)).length = (Cnd.cTx (Cnd.leafOf c) ++ Cnd.rest z ((Cnd.newF c).reverse ++ fs)).length := (List.length_append).symm
    refine ⟨fun m σ H' => ∃ (fs1 : List Cnd.Fr) (c1 : Cnd.Cd) (n1 : Nat) (vs1 : List V) (v1 : V) (v5 v7 v8 : Option V), σ = [some (tx gs), some (tx xs), some (iv n0), some (.ref B), some (iv n1), v5, some v1, v7, v8] ∧ Same H H' ∧ H' B = some (.lst vs1.reverse) ∧ FsV H' fs1 vs1 ∧ CdH H' c1 v1 ∧ n1 ≤ xs.length ∧ xs.drop n1 = Cnd.rest z fs1 ∧ Cnd.plug fs1 c1 = c0 ∧ FsOk gs fs1 ∧ OkS gs c1 ∧ Cnd.left fs1 < Cnd.size c + Cnd.left fs ∧ m = fs1.length,
      ⟨_, (Cnd.newF c).reverse ++ fs, Cnd.leafOf c, n + (Cnd.preT (Cnd.marks c)).length + (Cnd.cTx (Cnd.leafOf c)).length, ((Cnd.marks c).map mkV).reverse ++ vs, v, _, _, _, rfl, s3.trans s4, ?_, hF3.keep (fun a xs e => s4 _ _ e), hv, by omega, ?_, (Cnd.plug_of c fs).trans hpl, fs_app (fun f hf => (new_ok hco).1 f (List.mem_reverse.mp hf)) hfo, (new_ok hco).2, by omega, rfl⟩, ?_⟩
    · rw [List.reverse_append, List.reverse_reverse]
      exact s4 _ _ hB3
    · rw [← List.drop_drop, hd1, List.drop_left]
    rintro m σ H5 ⟨fs1, c1, n1, vs1, v1, v5, v7, v8, rfl, s5, hB5, hF5, hv5, hn5, hd5, hp5, hfo5, hco5, hlt, rfl⟩
    have hcd5 : Cnd.dpt c1 ≤ 60 := Nat.le_trans (Nat.le_trans (Cnd.dpt_plug fs1 c1) (Nat.le_of_eq (congrArg Cnd.dpt hp5))) hdp
    refine ⟨_, rfl, !vs1.reverse.isEmpty, .inl ⟨_, sqL hB5, rfl⟩, ?_⟩
    match fs1, vs1, hF5 with
    | [], [], _ =>
      refine iteF ?_
      refine iteF ?_
      refine ⟨_, rfl, false, .inl ⟨_, sqL hB5, rfl⟩, ?_⟩
      refine iteT ?_
      refine ⟨_, rfl, _, rfl, (by show 2 ≤ sizeLine; decide), fun T nT => ?_⟩
      have sT := same_new (o := .tup [v1, iv n1]) nT
      have hp5 : c1 = c0 := hp5
      subst hp5
      refine q _ T v1 (s5.trans sT) (none_of s5 nT) ?_ (hv5.same sT)
      rw [upd_same]
      have h1 := congrArg List.length hd5
      have h2 := congrArg List.length hd0
      rw [List.length_drop] at h1 h2
      rw [List.length_append] at h2
      have h1 : xs.length - n1 = z.length := h1
      rw [show n1 = n0 + (Cnd.cTx c1).length by omega]
    | f :: fs1, v0 :: vs1, ⟨hf, hF5⟩ =>
      rw [show (!(v0 :: vs1).reverse.isEmpty) = true by rw [List.reverse_cons]; cases vs1.reverse <;> rfl]
      refine iteT ?_
      rw [List.reverse_cons] at hB5
      refine ⟨_, rfl, 1, rfl, B, _, -1, v0, rfl, rfl, sqL hB5, atI_last _ _, ?_⟩
      cases f with
      | no =>
        have hf : v0 = .str (Str.ofString "not") := hf
        subst hf
        refine ⟨.str (Str.ofString "not"), .str (Str.ofString "("), .str _, .str _, by decide +kernel, by decide +kernel, _, rfl, ?_⟩
        refine iteT ?_
        refine ⟨_, fun _ _ h => h, ?_⟩
        refine ⟨_, rfl, .inl ⟨rfl, _, sqL hB5⟩, B, _, _, rfl, rfl, hB5, get_last, ?_⟩
        rw [List.dropLast_concat]
        obtain ⟨H6, eH6⟩ : ∃ H6, H6 = upd H5 B (.lst vs1.reverse) := ⟨_, rfl⟩
        rw [← eH6]
        have s6 : Same H H6 := by rw [eH6]; exact same_put s5 nB
        have hB6 : H6 B = some (.lst vs1.reverse) := by rw [eH6]; exact upd_same
        have hF6 : FsV H6 fs1 vs1 := by rw [eH6]; exact hF5.keep (tup_keep hB5)
        have hv6 : CdH H6 c1 v1 := by rw [eH6]; exact hv5.keep (tup_keep hB5)
        try dsimp only [gName, tSeq, tAsg, List.set_cons_zero, List.set_cons_succ]
        refine ⟨_, rfl, .str (Str.ofString "not"), .str (Str.ofString "not"), .str _, .str _, by decide +kernel, by decide +kernel, _, rfl, ?_⟩
        refine iteT ?_
        refine ⟨_, rfl, (by show 2 ≤ sizeLine; decide), fun T nT => ?_⟩
        have sT := same_new (o := .tup [V.str (Str.ofString "not"), v1]) nT
        exact ⟨_, Nat.lt_succ_self _, fs1, .no c1, n1, vs1, .ref T, _, _, _, rfl, s6.trans sT, sT _ _ hB6, hF6.keep (fun a xs e => sT _ _ e), ⟨T, v1, rfl, upd_same, hv6.same sT⟩, hn5, hd5, hp5, fun f hf => hfo5 f (.tail _ hf), .no hco5, hlt, rfl⟩
      | lft w r =>
        have hf : v0 = .str (Str.ofString "(") := hf
        subst hf
        refine ⟨.str (Str.ofString "("), .str (Str.ofString "("), .str _, .str _, by decide +kernel, by decide +kernel, _, rfl, ?_⟩
        refine iteF ?_
        refine ⟨_, rfl, true, .inl ⟨_, sqL hB5, by cases vs1.reverse <;> rfl⟩, ?_⟩
        refine iteF ?_
        have hd5 : xs.drop n1 = 32 :: (Cnd.wdT w ++ (32 :: (Cnd.cTx r ++ (41 :: Cnd.rest z fs1)))) := hd5
        have hr := hfo5 _ (List.mem_cons_self ..)
        refine ⟨_, rfl, _, rfl, xs, _, n1, w, rfl, hd5, hn5, hl, fun H6 s6 => ?_⟩
        have hB6 := s6 _ _ hB5
        refine ⟨_, rfl, _, rfl, (by show 2 ≤ sizeLine; decide), fun T nT => ?_⟩
        have sT := same_new (o := .tup [V.str (wdS w), v1]) nT
        refine ⟨_, rfl, 1, rfl, B, _, -1, _, rfl, rfl, sT _ _ hB6, ixN_last, ?_⟩
        rw [set_last]
        obtain ⟨H7, eH7⟩ : ∃ H7, H7 = upd (upd H6 T (.tup [V.str (wdS w), v1])) B (.lst (vs1.reverse ++ [V.ref T])) := ⟨_, rfl⟩
        rw [← eH7]
        have kT : ∀ a xs, H5 a = some (.tup xs) → H7 a = some (.tup xs) := fun a xs e => by rw [eH7]; exact tup_keep (sT _ _ hB6) _ _ (sT _ _ (s6 _ _ e))
        have s7 : Same H H7 := by rw [eH7]; exact same_put (s5.trans (s6.trans sT)) nB
        have hT7 : H7 T = some (.tup [V.str (wdS w), v1]) := by rw [eH7]; exact tup_keep (sT _ _ hB6) _ _ upd_same
        have lw : (wdS w).length ≤ sizeLine := by cases w <;> (show _ ≤ sizeLine; decide)
        show tAug 4 _ _ _ _ _
        refine ⟨_, rfl, _, rfl, _, rfl, lw, _, _, rfl, rfl, _, _, rfl, rfl, ?_⟩
        have hlen5 := congrArg List.length hd5
        rw [List.length_drop, List.length_cons, List.length_append, List.length_cons] at hlen5
        have elw : (wdS w).length = (Cnd.wdT w).length := by rw [wdS_T, S_len]
        have ed : xs.drop (n1 + ((Cnd.wdT w).length + 2)) = Cnd.cTx r ++ Cnd.rest z (.rgt w c1 :: fs1) := by
          rw [← List.drop_drop, hd5]
          show (32 :: (Cnd.wdT w ++ (32 :: (Cnd.cTx r ++ (41 :: Cnd.rest z fs1))))).drop ((Cnd.wdT w).length + 1 + 1) = _
          rw [List.drop_succ_cons, ← List.drop_drop, List.drop_left]
          rfl
        refine ⟨_, hlt, .rgt w c1 :: fs1, r, n1 + ((Cnd.wdT w).length + 2), .ref T :: vs1, v5, some v1, v7, some (.str (wdS w)), ?_, s7, ?_, ⟨⟨T, v1, rfl, hT7, hv5.keep kT⟩, hF5.keep kT⟩, by omega, ed, hp5, ?_, hr, rfl⟩
        · show [some (tx gs), some (tx xs), some (iv n0), some (V.ref B), some (V.int ((n1 : Int) + ((wdS w).length + 2))), v5, some v1, v7, some (V.str (wdS w))] = _
          rw [elw, show ((n1 : Int) + (((Cnd.wdT w).length : Nat) + 2)) = ((n1 + ((Cnd.wdT w).length + 2) : Nat) : Int) by omega]
        · rw [eH7, upd_same, List.reverse_cons]
        · intro f hf
          rcases List.mem_cons.mp hf with e | h2
          · subst e
            exact hco5
          · exact hfo5 f (.tail _ h2)
      | rgt w l =>
        obtain ⟨a, x, rfl, ha, hx⟩ := hf
        have hl5 : OkS gs l := hfo5 _ (List.mem_cons_self ..)
        have hll := hl5.low hg
        have hdl : Cnd.dpt l ≤ 60 := Nat.le_trans (Nat.le_trans (Cnd.dpt_rgt (c := c1) (List.mem_cons_self ..)) (Nat.le_of_eq (congrArg Cnd.dpt hp5))) hdp
        refine ⟨.tuple [.str (wdS w), cdD l], .str (Str.ofString "("), .tup (sqT ha) (.cons (.str _) (.cons (dp_cd hx) .nil)), .str _, shp_pair hll hdl, by decide +kernel, _, rfl, ?_⟩
        refine iteT ?_
        refine ⟨_, fun _ _ h => h, ?_⟩
        refine ⟨_, rfl, .inl ⟨rfl, _, sqL hB5⟩, B, _, _, rfl, rfl, hB5, get_last, ?_⟩
        rw [List.dropLast_concat]
        obtain ⟨H6, eH6⟩ : ∃ H6, H6 = upd H5 B (.lst vs1.reverse) := ⟨_, rfl⟩
        rw [← eH6]
        have s6 : Same H H6 := by rw [eH6]; exact same_put s5 nB
        have hB6 : H6 B = some (.lst vs1.reverse) := by rw [eH6]; exact upd_same
        have hF6 : FsV H6 fs1 vs1 := by rw [eH6]; exact hF5.keep (tup_keep hB5)
        have hv6 : CdH H6 c1 v1 := by rw [eH6]; exact hv5.keep (tup_keep hB5)
        have ha6 : H6 a = some (.tup [.str (wdS w), x]) := by rw [eH6]; exact tup_keep hB5 _ _ ha
        have hx6 : CdH H6 l x := by rw [eH6]; exact hx.keep (tup_keep hB5)
        try dsimp only [gName, tSeq, tAsg, List.set_cons_zero, List.set_cons_succ]
        refine ⟨_, rfl, .tuple [.str (wdS w), cdD l], .str (Str.ofString "not"), .tup (sqT ha6) (.cons (.str _) (.cons (dp_cd hx6) .nil)), .str _, shp_pair hll hdl, by decide +kernel, _, rfl, ?_⟩
        refine iteF ?_
        have hd5 : xs.drop n1 = 41 :: Cnd.rest z fs1 := hd5
        refine ⟨_, rfl, rfl, _, rfl, S xs, S [41], _, rfl, rfl, _, rfl, ?_⟩
        rw [sw3 hn5, hd5]
        rw [decide_eq_true (show [41] <+: 41 :: Cnd.rest z fs1 from ⟨Cnd.rest z fs1, rfl⟩)]
        refine iteT ?_
        refine ⟨_, rfl, a, _, 0, _, rfl, rfl, sqT ha6, atI_nat (j := 0) rfl, _, rfl, a, _, 1, _, rfl, rfl, sqT ha6, atI_nat (j := 1) rfl, _, rfl, (by show 3 ≤ sizeLine; decide), fun T nT => ?_⟩
        have sT := same_new (o := .tup [V.str (wdS w), x, v1]) nT
        have hlen5 := congrArg List.length hd5
        rw [List.length_drop, List.length_cons] at hlen5
        refine ⟨_, rfl, _, _, rfl, rfl, ?_⟩
        refine ⟨_, Nat.lt_succ_self _, fs1, .two w l c1, n1 + 1, vs1, .ref T, _, _, _, rfl, s6.trans sT, sT _ _ hB6, hF6.keep (fun a xs e => sT _ _ e), ⟨T, x, v1, rfl, upd_same, hx6.same sT, hv6.same sT⟩, by omega, by rw [← List.drop_drop, hd5]; rfl, hp5, fun f hf => hfo5 f (.tail _ hf), .two hl5 hco5, hlt, rfl⟩
end
end Own

namespace Own
open PySem PySem.Spec PyProof.Rows L2 SX RZ
section
variable {P : Program} {w : World} {K : PySem.W.Frag} {mg : Str → Option Value} {base : Heap}
def spPrs : Sp := fun vs H Q _ => ∃ (gs : List Nat) (c : Cnd.Cd), vs = [tx gs, tx (Cnd.cTx c)] ∧ Good gs ∧ (Cnd.cTx c).length ≤ 100000 ∧ OkS gs c ∧ Cnd.dpt c ≤ 60 ∧ ∀ H' v, Same H H' → CdH H' c v → Q v H'
abbrev sPrs : Stmt := topS 45
abbrev prsN : List Str := ["letters", "text", "condition", "end"]
theorem scPrs : FnScope prsN ["letters", "text"] (defScope sPrs) := ⟨rfl, rfl, rfl, by decide +kernel, rfl, by decide +kernel, by decide +kernel⟩
theorem ok_prs {f : Addr} {fd : FuncData} (F : Fun K "parse_condition" "parse_condition" sPrs f fd) (m_len : mg "len" = none) {f1 : Addr} {fd1 : FuncData} (c1 : Cl P w K mg base "read_condition" 9 ["letters", "text", "at"] spRdc f1 fd1) :
    FnOk P w K mg base CX0 10 f fd ["letters", "text"] spPrs := by
  refine F.ok scPrs (fun vs H Q E h => ?_) (fun cdv A outer s H vs Q E hr h => ?_)
  · obtain ⟨gs, c, rfl, _⟩ := h
    rfl
  · obtain ⟨gs, c, rfl, hg, hl, hok, hdp, q⟩ := h
    refine ⟨_, (pss_cons (ps_asg (pe_cl c1 hr (by decide) (by rfl) (pa_cons (pv 0) (pa_cons (pv 1) (pa_cons pe_int pa_nil)))) (pg_tup rfl (pgs_cons (pg_name (i := 2) scPrs.nd rfl (by first | exact .inl rfl | exact .inr rfl)) (pgs_cons (pg_name (i := 3) scPrs.nd rfl (by first | exact .inl rfl | exact .inr rfl)) pgs_nil))))
      (pss_cons (ps_if (pt_cmpR op_ne (pv 3) (pe_callB call_len_str (by rfl) m_len PySem.boot_len (pa_cons (pv 1) pa_nil)) (nomark _)) pss_never pss_nil)
      (pss_one (ps_ret (pv 2))))), ?_⟩
    have hd : (Cnd.cTx c).drop 0 = Cnd.cTx c ++ [] := (List.append_nil _).symm
    refine ⟨_, rfl, _, rfl, gs, Cnd.cTx c, [], 0, c, rfl, hg, hd, Nat.zero_le _, hl, hok, hdp, fun _ _ h => (nomatch h), fun H1 p v s1 np hp hv => ?_⟩
    refine ⟨p, _, rfl, sqT hp, rfl, _, _, rfl, _, _, rfl, rfl, ?_⟩
    try dsimp only [gName, tSeq, tAsg, List.set_cons_zero, List.set_cons_succ]
    rw [Nat.zero_add]
    have lz : (S (Cnd.cTx c)).length ≤ sizeLine := by rw [S_len, sizeLine_eq]; omega
    refine ⟨_, rfl, _, rfl, _, rfl, lz, ?_⟩
    rw [S_len]
    refine ⟨rfl, _, rfl, ?_⟩
    rw [decide_eq_true rfl]
    refine iteF ?_
    exact ⟨_, rfl, q _ v s1 hv⟩
end
end Own

namespace Own
open PySem PySem.Spec PyProof.Rows L2 SX RZ
section
variable {P : Program} {w : World} {K : PySem.W.Frag} {mg : Str → Option Value} {base : Heap}
theorem lenS {l : List Nat} {s : Str} (e : s = S l) (h : l.length ≤ 100100) : s.length ≤ sizeLine := by rw [e, S_len, sizeLine_eq]; omega
/-- the parts of a leaf, and their texts -/
def Prt : List V → List (List Nat) → Prop
  | [], [] => True
  | v :: vs, t :: ts => (v = tx t ∨ ∃ r : Nat, r ≤ 60 ∧ v = iv r ∧ t = Cnd.dec r) ∧ Prt vs ts
  | _, _ => False
theorem Prt.at : ∀ {vs : List V} {ts : List (List Nat)} {i : Nat} {v : V}, Prt vs ts → vs[i]? = some v → ∃ t, ts[i]? = some t ∧ (v = tx t ∨ ∃ r : Nat, r ≤ 60 ∧ v = iv r ∧ t = Cnd.dec r)
  | _ :: _, t :: _, 0, _, ⟨h, _⟩, e => ⟨t, rfl, by cases e; exact h⟩
  | _ :: vs, _ :: ts, i + 1, _, ⟨_, h⟩, e => by
    rw [List.getElem?_cons_succ] at e ⊢
    exact Prt.at h e
  | [], [], _, _, _, e => by cases e
  | [], _ :: _, _, _, h, _ => h.elim
  | _ :: _, [], _, _, h, _ => h.elim
theorem jn1 (a : List Nat) : Txt.join (S [44]) ([a].map S) = S a := rfl
theorem jn2 (a b : List Nat) : Txt.join (S [44]) ([a, b].map S) = S (a ++ 44 :: b) := by
  have e : Txt.join (S [44]) ([a, b].map S) = S a ++ S [44] ++ S b := rfl
  rw [e, S_cat, S_cat, List.append_assoc]
  rfl
theorem leaf_parts {H : Hp} {gs : List Nat} : ∀ {c : Cnd.Cd} {v : V}, CdH H c v → OkC gs c → Cnd.leaf c = true → Cnd.isNamed c = false → ∃ a els ts, v = .ref a ∧ H a = some (.tup (.str (S (Cnd.kd c)) :: els)) ∧ Prt els ts ∧ els.length = ts.length ∧ 0 < ts.length ∧ ts.length ≤ 2 ∧ Txt.join (S [44]) (ts.map S) = S (Cnd.inn c) ∧ ts.flatten.length ≤ (Cnd.inn c).length
  | .mat p, _, ⟨a, e, h⟩, _, _, _ => ⟨a, _, [p], e, h, ⟨.inl rfl, True.intro⟩, rfl, Nat.one_pos, Nat.le_succ 1, jn1 p, by show ([p].flatten).length ≤ p.length; simp⟩
  | .len r m, _, ⟨a, e, h⟩, ok, _, _ => ⟨a, _, [Cnd.dec r, Cnd.dec m], e, h, by cases ok with
    | len h1 h2 => exact ⟨.inr ⟨r, by omega, rfl, rfl⟩, .inr ⟨m, h2, rfl, rfl⟩, True.intro⟩, rfl, Nat.succ_pos _, Nat.le_refl 2, jn2 _ _, by show ([Cnd.dec r, Cnd.dec m].flatten).length ≤ (Cnd.dec r ++ 44 :: Cnd.dec m).length; simp⟩
  | .tpl k x y x2 y2, _, ⟨a, e, h⟩, ok, _, _ => by
    cases ok with
    | @tpl _ i j hk hi hj li lj =>
      refine ⟨a, [tx (rTx gs i), tx (rTx gs j)], [rTx gs i, rTx gs j], e, ?_, ⟨.inl rfl, .inl rfl, True.intro⟩, rfl, Nat.succ_pos _, Nat.le_refl 2, jn2 _ _, ?_⟩
      · rw [h]
        match k with
        | 0 | 1 | 2 | _ + 3 => rfl
      · show ([rTx gs i, rTx gs j].flatten).length ≤ (rTx gs i ++ 44 :: rTx gs j).length
        simp
  | .named _, _, _, _, _, h => by cases h
  | .no _, _, _, _, h, _ => by cases h
  | .two _ _ _, _, _, _, h, _ => by cases h
theorem cut_tl {x : V} {els : List V} : cutV (x :: els) (some 1) none = els := by
  unfold cutV
  rw [show (some (1 : Int)) = some ((1 : Nat) : Int) from rfl, HT.sIx_nat, HT.sIx_none, List.length_cons, Nat.min_eq_left (Nat.succ_le_succ (Nat.zero_le _))]
  show (List.drop 1 (x :: els)).take (els.length + 1 - 1) = els
  rw [Nat.add_sub_cancel]
  exact List.take_length
theorem kd_facts : ∀ {c : Cnd.Cd}, Cnd.leaf c = true → Cnd.isNamed c = false → V.str (S (Cnd.kd c)) ≠ .str (Str.ofString "named") ∧ V.str (S (Cnd.kd c)) ≠ .str (Str.ofString "not") ∧ inV (.str (S (Cnd.kd c))) [.str (Str.ofString "and"), .str (Str.ofString "or")] = false
  | .mat _, _, _ => (by decide +kernel : V.str (S Cnd.matT) ≠ .str (Str.ofString "named") ∧ V.str (S Cnd.matT) ≠ .str (Str.ofString "not") ∧ inV (.str (S Cnd.matT)) [.str (Str.ofString "and"), .str (Str.ofString "or")] = false)
  | .len _ _, _, _ => (by decide +kernel : V.str (S Cnd.lenT) ≠ .str (Str.ofString "named") ∧ V.str (S Cnd.lenT) ≠ .str (Str.ofString "not") ∧ inV (.str (S Cnd.lenT)) [.str (Str.ofString "and"), .str (Str.ofString "or")] = false)
  | .tpl 0 _ _ _ _, _, _ => (by decide +kernel : V.str (S (Cnd.kwT 0)) ≠ .str (Str.ofString "named") ∧ V.str (S (Cnd.kwT 0)) ≠ .str (Str.ofString "not") ∧ inV (.str (S (Cnd.kwT 0))) [.str (Str.ofString "and"), .str (Str.ofString "or")] = false)
  | .tpl 1 _ _ _ _, _, _ => (by decide +kernel : V.str (S (Cnd.kwT 1)) ≠ .str (Str.ofString "named") ∧ V.str (S (Cnd.kwT 1)) ≠ .str (Str.ofString "not") ∧ inV (.str (S (Cnd.kwT 1))) [.str (Str.ofString "and"), .str (Str.ofString "or")] = false)
  | .tpl 2 _ _ _ _, _, _ => (by decide +kernel : V.str (S (Cnd.kwT 2)) ≠ .str (Str.ofString "named") ∧ V.str (S (Cnd.kwT 2)) ≠ .str (Str.ofString "not") ∧ inV (.str (S (Cnd.kwT 2))) [.str (Str.ofString "and"), .str (Str.ofString "or")] = false)
  | .tpl (_ + 3) _ _ _ _, _, _ => (by decide +kernel : V.str (S (Cnd.kwT 3)) ≠ .str (Str.ofString "named") ∧ V.str (S (Cnd.kwT 3)) ≠ .str (Str.ofString "not") ∧ inV (.str (S (Cnd.kwT 3))) [.str (Str.ofString "and"), .str (Str.ofString "or")] = false)
  | .named _, _, h => by cases h
  | .no _, h, _ => by cases h
  | .two _ _ _, h, _ => by cases h
theorem dpt_pos : ∀ c : Cnd.Cd, 0 < Cnd.dpt c
  | .no _ | .two _ _ _ => Nat.succ_pos _
  | .named _ | .mat _ | .len _ _ | .tpl _ _ _ _ _ => Nat.one_pos
def spFmt (n : Nat) : Sp := fun vs H Q _ => ∃ (gs : List Nat) (c : Cnd.Cd) (v : V), vs = [v] ∧ Good gs ∧ OkC gs c ∧ CdH H c v ∧ Cnd.dpt c ≤ n ∧ (Cnd.cTx c).length ≤ 100000 ∧ ∀ H', Same H H' → Q (tx (Cnd.cTx c)) H'
abbrev sFmt : Stmt := topS 46
abbrev fmtN : List Str := ["condition", "kind", "inner", "part"]
theorem scFmt : FnScope fmtN ["condition"] (defScope sFmt) := ⟨rfl, rfl, rfl, by decide +kernel, rfl, by decide +kernel, by decide +kernel⟩
theorem ok_fmt {f : Addr} {fd : FuncData} (F : Fun K "format_condition" "format_condition" sFmt f fd) {n : Nat} {f1 : Addr} {fd1 : FuncData} (c1 : Cl P w K mg base "format_condition" n ["condition"] (spFmt n) f1 fd1) (m_str : mg "str" = none) :
    FnOk P w K mg base CX0 (n + 1) f fd ["condition"] (spFmt (n + 1)) := by
  refine F.ok scFmt (fun vs H Q E h => ?_) (fun cdv A outer s H vs Q E hr h => ?_)
  · obtain ⟨gs, c, v, rfl, _⟩ := h
    rfl
  · obtain ⟨gs, c, v, rfl, hg, hok, hv, hdp, hl, q⟩ := h
    refine ⟨_, (pss_cons (ps_set (i := 1) scFmt.nd rfl (by first | exact .inl rfl | exact .inr rfl) (pe_ix (ixT (K := K) rfl) (pv 0) pe_int (fun _ _ => rfl)))
      (pss_cons (ps_if (pt_cmpR op_eq (pv 1) pe_str (nomark _)) (pss_one (ps_ret (pe_joined (.cons pe_str (.cons (pe_fmt (pe_ix (ixT (K := K) rfl) (pv 0) pe_int (fun _ _ => rfl))) .nil))))) pss_nil)
      (pss_cons (ps_if (pt_cmpR op_eq (pv 1) pe_str (nomark _)) (pss_one (ps_ret (pe_joined (.cons pe_str (.cons (pe_fmt (pe_cl c1 hr (by omega) (by rfl) (pa_cons (pe_ix (ixT (K := K) rfl) (pv 0) pe_int (fun _ _ => rfl)) pa_nil))) .nil))))) pss_nil)
      (pss_cons (ps_if (pt_cmpR op_in_seq (pv 1) (pe_tup (pa_cons pe_str (pa_cons pe_str pa_nil))) (by rfl)) (pss_one (ps_ret (pe_joined (.cons pe_str (.cons (pe_fmt (pe_cl c1 hr (by omega) (by rfl) (pa_cons (pe_ix (ixT (K := K) rfl) (pv 0) pe_int (fun _ _ => rfl)) pa_nil))) (.cons pe_str (.cons (pe_fmt (pv 1)) (.cons pe_str (.cons (pe_fmt (pe_cl c1 hr (by omega) (by rfl) (pa_cons (pe_ix (ixT (K := K) rfl) (pv 0) pe_int (fun _ _ => rfl)) pa_nil))) (.cons pe_str .nil)))))))))) pss_nil)
      (pss_cons (ps_set (i := 2) scFmt.nd rfl (by first | exact .inl rfl | exact .inr rfl) (pe_join pe_str (pe_lc (own := [("part", 3)]) (g := gName 3) (tt := tYes)  rfl scFmt.nd (pi_tup (pe_slice sl_tup (pv 0) (po_some pe_int) po_none)) (blkOk_by (N := fmtN) (sc := defScope sFmt) (by decide +kernel)) (fun _ _ _ _ _ => pg_name (i := 3) scFmt.nd rfl (Or.inl rfl)) (fun _ _ _ _ _ => pts_nil) (fun _ _ _ _ _ => (pe_callTy (call_str_int.or SkE.call_str_str) (by rfl) m_str (by decide +kernel) (pa_cons (pv 3) pa_nil))))))
      (pss_one (ps_ret (pe_joined (.cons (pe_fmt (pv 1)) (.cons pe_str (.cons (pe_fmt (pv 2)) (.cons pe_str .nil)))))))))))), ?_⟩
    have em : Str.empty = S [] := rfl
    have e6 : Str.ofString "named " = S Cnd.namT := rfl
    have e4 : Str.ofString "not " = S Cnd.notT := rfl
    have e1 : Str.ofString "(" = S [40] := rfl
    have e2 : Str.ofString ")" = S [41] := rfl
    have e3 : Str.ofString " " = S [32] := rfl
    have e5 : Str.ofString "," = S [44] := rfl
    by_cases hlf : Cnd.leaf c = true
    · by_cases hnm : Cnd.isNamed c = true
      · cases c with
        | named nm =>
          cases hok with
          | named h0 h8 hn =>
            obtain ⟨a, rfl, ha⟩ := hv
            refine ⟨_, rfl, a, _, 0, _, rfl, rfl, sqT ha, atI_nat (j := 0) rfl, ?_⟩
            try dsimp only [gName, tSeq, tAsg, List.set_cons_zero, List.set_cons_succ]
            refine ⟨_, rfl, rfl, _, rfl, ?_⟩
            rw [decide_eq_true rfl]
            refine iteT ?_
            rw [em, e6]
            refine ⟨_, rfl, lenS (S_cat _ _) (by show 0 + 6 ≤ _; omega), _, rfl, a, _, 1, _, rfl, rfl, sqT ha, atI_nat (j := 1) rfl, .inl ⟨_, rfl, lenS rfl (by omega), _, rfl, lenS (by rw [S_cat, S_cat]) (by show ([] ++ Cnd.namT ++ nm).length ≤ _; rw [List.length_append]; show 6 + _ ≤ _; omega), ?_⟩⟩
            rw [S_cat, S_cat]
            exact q _ (Same.refl _)
        | mat p => cases hnm
        | len r m => cases hnm
        | tpl k a b x y => cases hnm
        | no c => cases hnm
        | two w a b => cases hnm
      · have hnm : Cnd.isNamed c = false := by cases e : Cnd.isNamed c with
          | true => exact absurd e hnm
          | false => rfl
        obtain ⟨a, els, ts, rfl, ha, hP, hel, h1, h2, hj, hfl⟩ := leaf_parts hv hok hlf hnm
        obtain ⟨k1, k2, k3⟩ := kd_facts hlf hnm
        refine ⟨_, rfl, a, _, 0, _, rfl, rfl, sqT ha, atI_nat (j := 0) rfl, ?_⟩
        try dsimp only [gName, tSeq, tAsg, List.set_cons_zero, List.set_cons_succ]
        refine ⟨_, rfl, rfl, _, rfl, ?_⟩
        rw [decide_eq_false k1]
        refine iteF ?_
        refine ⟨_, rfl, rfl, _, rfl, ?_⟩
        rw [decide_eq_false k2]
        refine iteF ?_
        refine ⟨_, rfl, (by show 2 ≤ sizeLine; decide), fun T nT => ⟨T, _, rfl, .inr (sqT upd_same), rfl, rfl, _, rfl, ?_⟩⟩
        have sT := same_new (o := .tup [V.str (Str.ofString "and"), V.str (Str.ofString "or")]) nT
        have haT := sT _ _ ha
        generalize upd H T _ = H1 at sT haT ⊢
        rw [show (if false = true then !inV (.str (S (Cnd.kd c))) [.str (Str.ofString "and"), .str (Str.ofString "or")] else inV (.str (S (Cnd.kd c))) [.str (Str.ofString "and"), .str (Str.ofString "or")]) = false from k3]
        refine iteF ?_
        refine ⟨⟨_, rfl⟩, _, rfl, _, rfl, a, _, rfl, sqT haT, ?_, fun U nU => ?_⟩
        · intro h
          have := h.1
          rw [show (some (1 : Int)) = some ((1 : Nat) : Int) from rfl, HT.sIx_nat, List.length_cons] at this
          omega
        have sU := same_new (o := .tup (cutV (V.str (S (Cnd.kd c)) :: els) (some 1) none)) nU
        rw [show cutV (V.str (S (Cnd.kd c)) :: els) (some 1) none = els from cut_tl] at sU ⊢
        refine ⟨U, rfl, ⟨_, sqT upd_same⟩, fun D nD => ?_⟩
        have hU : upd H1 U (.tup els) U = some (.tup els) := upd_same
        generalize upd H1 U (.tup els) = H2 at sU hU nD ⊢
        have sH2 := sT.trans sU
        refine lc_tup (K := K) (a := U) (xs := els) (fun i H' => Same H2 H' ∧ H' D = some (.lst ((ts.take i).map tx))) ⟨same_new nD, upd_same⟩ (fun _ _ _ h => sqT (h.1 _ _ hU)) ?_ ?_
        · rintro i y H' hy ⟨s1, hD⟩
          obtain ⟨t, ht, hyt⟩ := hP.at hy
          have dl : ((ts.take i).map tx).length < sizeLine := by
            rw [List.length_map, List.length_take, sizeLine_eq]
            omega
          have fin : ∃ acc, H' D = some (.lst acc) ∧ acc.length < sizeLine ∧ (Same H2 (upd H' D (.lst (acc ++ [tx t]))) ∧ upd H' D (.lst (acc ++ [tx t])) D = some (.lst ((ts.take (i + 1)).map tx))) := by
            refine ⟨_, hD, dl, same_put s1 nD, ?_⟩
            rw [upd_same, List.take_add_one, ht]
            simp
          rcases hyt with rfl | ⟨r, hr60, rfl, rfl⟩
          · exact ⟨rfl, _, rfl, .inr ⟨_, rfl, fin⟩⟩
          · refine ⟨rfl, _, rfl, .inl ⟨_, rfl, ?_, ?_⟩⟩
            · exact (by decide +kernel : ∀ r : Nat, r ≤ 60 → ((r : Int)).natAbs.log2 < 1920) r hr60
            · rw [dec_to r hr60]
              exact fin
        · rintro H' ⟨s1, hD⟩
          rw [hel, List.take_length] at hD
          refine ⟨_, D, ts.map S, rfl, rfl, .inl (.inl (.inl ?_)), ?_, ?_⟩
          · rw [hD, List.map_map]
            rfl
          · rw [sum_len, e5, S_len, List.length_map]
            show _ + _ * 1 ≤ _
            have : (Cnd.inn c).length ≤ (Cnd.cTx c).length := by rw [Cnd.leaf_text hlf hnm]; simp; omega
            omega
          · rw [e5, hj, em, e1, e2]
            have hcl : (Cnd.cTx c).length = (Cnd.kd c).length + (1 + ((Cnd.inn c).length + 1)) := by
              rw [Cnd.leaf_text hlf hnm, List.length_append, List.length_cons, List.length_append]
              show _ + (_ + 1 + 1) = _
              omega
            refine ⟨_, rfl, .inl ⟨_, rfl, lenS rfl (by omega), _, rfl, lenS (S_cat _ _) (by show (Cnd.kd c).length ≤ _; omega), _, rfl, lenS (by rw [S_cat, S_cat]) (by rw [List.length_append]; show (Cnd.kd c).length + 1 ≤ _; omega),
              _, rfl, .inl ⟨_, rfl, lenS rfl (by omega), _, rfl, lenS (by rw [S_cat, S_cat, S_cat]) (by rw [List.length_append, List.length_append]; show (Cnd.kd c).length + 1 + _ ≤ _; omega), _, rfl, lenS (by rw [S_cat, S_cat, S_cat, S_cat]) (by rw [List.length_append, List.length_append, List.length_append]; show (Cnd.kd c).length + 1 + _ + 1 ≤ _; omega), ?_⟩⟩⟩
            rw [S_cat, S_cat, S_cat, S_cat]
            have et := Cnd.leaf_text hlf hnm
            have := q H' (sH2.trans s1)
            rw [et] at this
            rw [show [] ++ Cnd.kd c ++ [40] ++ Cnd.inn c ++ [41] = Cnd.kd c ++ 40 :: (Cnd.inn c ++ [41]) by simp]
            exact this
    · cases c with
      | named nm => exact absurd rfl hlf
      | mat p => exact absurd rfl hlf
      | len r m => exact absurd rfl hlf
      | tpl k a b x y => exact absurd rfl hlf
      | no c =>
        cases hok with
        | no hc =>
          obtain ⟨a, x, rfl, ha, hx⟩ := hv
          refine ⟨_, rfl, a, _, 0, _, rfl, rfl, sqT ha, atI_nat (j := 0) rfl, ?_⟩
          try dsimp only [gName, tSeq, tAsg, List.set_cons_zero, List.set_cons_succ]
          refine ⟨_, rfl, rfl, _, rfl, ?_⟩
          rw [decide_eq_false (by decide +kernel)]
          refine iteF ?_
          refine ⟨_, rfl, rfl, _, rfl, ?_⟩
          rw [decide_eq_true rfl]
          refine iteT ?_
          rw [em, e4]
          have hdc : Cnd.dpt c + 1 ≤ n + 1 := hdp
          have hcl : (Cnd.cTx (.no c)).length = 4 + (Cnd.cTx c).length := by show (Cnd.notT ++ Cnd.cTx c).length = _; rw [List.length_append]; rfl
          refine ⟨_, rfl, lenS (S_cat _ _) (by show 0 + 4 ≤ _; omega), _, rfl, a, _, 1, _, rfl, rfl, sqT ha, atI_nat (j := 1) rfl, gs, c, x, rfl, hg, hc, hx, by omega, by omega, fun H1 s1 => .inl ⟨_, rfl, lenS rfl (by omega), _, rfl, lenS (by rw [S_cat, S_cat]) (by rw [List.length_append]; show 4 + _ ≤ _; omega), ?_⟩⟩
          rw [S_cat, S_cat]
          exact q _ s1
      | two w c d =>
        cases hok with
        | two hc hd =>
          obtain ⟨a, x, y, rfl, ha, hx, hy⟩ := hv
          refine ⟨_, rfl, a, _, 0, _, rfl, rfl, sqT ha, atI_nat (j := 0) rfl, ?_⟩
          try dsimp only [gName, tSeq, tAsg, List.set_cons_zero, List.set_cons_succ]
          refine ⟨_, rfl, rfl, _, rfl, ?_⟩
          rw [decide_eq_false (by cases w <;> decide +kernel)]
          refine iteF ?_
          refine ⟨_, rfl, rfl, _, rfl, ?_⟩
          rw [decide_eq_false (by cases w <;> decide +kernel)]
          refine iteF ?_
          refine ⟨_, rfl, (by show 2 ≤ sizeLine; decide), fun T nT => ⟨T, _, rfl, .inr (sqT upd_same), rfl, rfl, _, rfl, ?_⟩⟩
          have sT := same_new (o := .tup [V.str (Str.ofString "and"), V.str (Str.ofString "or")]) nT
          have haT := sT _ _ ha
          have hxT := hx.same sT
          have hyT := hy.same sT
          generalize upd H T _ = H1 at sT haT hxT hyT ⊢
          rw [show (if false = true then !inV (.str (wdS w)) [.str (Str.ofString "and"), .str (Str.ofString "or")] else inV (.str (wdS w)) [.str (Str.ofString "and"), .str (Str.ofString "or")]) = true by cases w <;> decide +kernel]
          refine iteT ?_
          rw [em, e1, e2, e3]
          have hdc : max (Cnd.dpt c) (Cnd.dpt d) + 1 ≤ n + 1 := hdp
          have hcl : (Cnd.cTx (.two w c d)).length = 1 + ((Cnd.cTx c).length + (1 + ((Cnd.wdT w).length + (1 + ((Cnd.cTx d).length + 1))))) := by
            show (40 :: (Cnd.cTx c ++ (32 :: (Cnd.wdT w ++ (32 :: (Cnd.cTx d ++ [41])))))).length = _
            simp only [List.length_cons, List.length_append, List.length_nil]
            omega
          refine ⟨_, rfl, lenS (S_cat _ _) (by show 0 + 1 ≤ _; omega), _, rfl, a, _, 1, _, rfl, rfl, sqT haT, atI_nat (j := 1) rfl, gs, c, x, rfl, hg, hc, hxT, by omega, by omega, fun H2 s2 => .inl ⟨_, rfl, lenS rfl (by omega), _, rfl, lenS (by rw [S_cat, S_cat]) (by simp only [List.length_cons, List.length_append, List.length_nil]; omega), ?_⟩⟩
          refine ⟨_, rfl, lenS (by rw [S_cat, S_cat, S_cat]) (by simp only [List.length_cons, List.length_append, List.length_nil]; omega), _, rfl, .inl ⟨_, rfl, lenS (wdS_T w) (by omega), _, rfl, lenS (by rw [wdS_T, S_cat, S_cat, S_cat, S_cat]) (by simp only [List.length_cons, List.length_append, List.length_nil]; omega), ?_⟩⟩
          refine ⟨_, rfl, lenS (by rw [wdS_T, S_cat, S_cat, S_cat, S_cat, S_cat]) (by simp only [List.length_cons, List.length_append, List.length_nil]; omega), _, rfl, a, _, 2, _, rfl, rfl, sqT (s2 _ _ haT), atI_nat (j := 2) rfl, gs, d, y, rfl, hg, hd, hyT.same s2, by omega, by omega, fun H3 s3 => .inl ⟨_, rfl, lenS rfl (by omega), _, rfl, lenS (by rw [wdS_T, S_cat, S_cat, S_cat, S_cat, S_cat, S_cat]) (by simp only [List.length_cons, List.length_append, List.length_nil]; omega), ?_⟩⟩
          refine ⟨_, rfl, lenS (by rw [wdS_T, S_cat, S_cat, S_cat, S_cat, S_cat, S_cat, S_cat]) (by simp only [List.length_cons, List.length_append, List.length_nil]; omega), ?_⟩
          rw [wdS_T, S_cat, S_cat, S_cat, S_cat, S_cat, S_cat, S_cat]
          have := q _ (sT.trans (s2.trans s3))
          rw [show [] ++ [40] ++ Cnd.cTx c ++ [32] ++ Cnd.wdT w ++ [32] ++ Cnd.cTx d ++ [41] = Cnd.cTx (.two w c d) by show _ = 40 :: (Cnd.cTx c ++ (32 :: (Cnd.wdT w ++ (32 :: (Cnd.cTx d ++ [41]))))); simp]
          exact this
theorem fmt_all {f : Addr} {fd : FuncData} (F : Fun K "format_condition" "format_condition" sFmt f fd) (b : Binds K fd ["condition"] []) (g : mg "format_condition" = some (.ref f)) (m_str : mg "str" = none) : ∀ n, FnOk P w K mg base CX0 n f fd ["condition"] (spFmt n)
  | 0 => ⟨fun vs H Q E h => (by obtain ⟨gs, c, v, _, _, _, _, h, _⟩ := h; exact absurd (dpt_pos c) (by omega)), fun A outer s H args us vs Q E _ _ _ _ h => (by obtain ⟨gs, c, v, _, _, _, _, h, _⟩ := h; exact absurd (dpt_pos c) (by omega))⟩
  | n + 1 => ok_fmt F ⟨fmt_all F b g m_str n, g, F.kp, b⟩ m_str
end
end Own

namespace Own
open PySem PySem.Spec PyProof.Rows L2 SX RZ
section
variable {P : Program} {w : World} {K : PySem.W.Frag} {mg : Str → Option Value} {base : Heap}
def addN (acc : List (List Nat)) (n : List Nat) : List (List Nat) := if n ∈ acc then acc else acc ++ [n]
def raw : Cnd.Cd → List (List Nat)
  | .named n => [n]
  | .no c => raw c
  | .two _ a b => raw a ++ raw b
  | _ => []
def nms : Cnd.Cd → List (List Nat)
  | .named n => [n]
  | .no c => nms c
  | .two _ a b => nms a ++ (nms b).filter (fun x => decide (x ∉ nms a))
  | _ => []
theorem raw_nms : ∀ (c : Cnd.Cd) (acc : List (List Nat)), (raw c).foldl addN acc = acc ++ (nms c).filter (fun x => decide (x ∉ acc))
  | .named n, acc => by
    show addN acc n = acc ++ [n].filter (fun x => decide (x ∉ acc))
    unfold addN
    by_cases h : n ∈ acc
    · rw [if_pos h, List.filter_cons_of_neg (by simpa using h)]
      simp
    · rw [if_neg h, List.filter_cons_of_pos (by simpa using h)]
      rfl
  | .no c, acc => raw_nms c acc
  | .two _ a b, acc => by
    show (raw a ++ raw b).foldl addN acc = acc ++ (nms a ++ (nms b).filter (fun x => decide (x ∉ nms a))).filter (fun x => decide (x ∉ acc))
    rw [List.foldl_append, raw_nms a, raw_nms b, List.filter_append, List.filter_filter, List.append_assoc]
    congr 2
    refine List.filter_congr fun x _ => ?_
    by_cases h : x ∈ acc
    · simp [h]
    · by_cases h2 : x ∈ nms a
      · simp [h, h2]
      · simp [h, h2]
  | .mat _, acc | .len _ _, acc | .tpl _ _ _ _ _, acc => by
    show acc = acc ++ []
    rw [List.append_nil]
theorem raw_all (c : Cnd.Cd) : (raw c).foldl addN [] = nms c := by
  rw [raw_nms]
  show (nms c).filter (fun x => decide (x ∉ [])) = nms c
  exact List.filter_eq_self.mpr fun x _ => by simp
abbrev nmV (l : List (List Nat)) : List (L2.Key × V) := l.map fun n => (Sum.inr (S n), V.bl true)
theorem put_nm (acc : List (List Nat)) (n : List Nat) : putK (nmV acc) (Sum.inr (S n)) (.bl true) = nmV (addN acc n) := by
  have e : ∀ x : List Nat, ((Sum.inr (S x) : L2.Key) = Sum.inr (S n)) ↔ x = n := fun x => ⟨fun e => S_inj (Sum.inr.inj e), fun e => by rw [e]⟩
  unfold addN putK
  by_cases h : n ∈ acc
  · rw [if_pos h, if_pos]
    · show (acc.map _).map _ = _
      rw [List.map_map]
      refine List.map_congr_left fun x hx => ?_
      show (if (Sum.inr (S x) : L2.Key) = Sum.inr (S n) then _ else _) = _
      split <;> rfl
    · rw [List.any_map]
      exact List.any_eq_true.mpr ⟨n, h, decide_eq_true rfl⟩
  · rw [if_neg h, if_neg]
    · show _ = (acc ++ [n]).map _
      rw [List.map_append]
      rfl
    · rw [List.any_map]
      intro k
      obtain ⟨x, hx, k⟩ := List.any_eq_true.mp k
      exact h ((e x).mp (of_decide_eq_true k) ▸ hx)
theorem addN_len (acc : List (List Nat)) (n : List Nat) : (addN acc n).length ≤ acc.length + 1 := by
  unfold addN
  split
  · omega
  · rw [List.length_append]; exact Nat.le_refl _
theorem walk_revT {K : PySem.W.Frag} {a : Addr} {xs : List V} : Walk (RT.ItvT K a xs.length) xs.length (fun H => SqT K H a xs) (fun i H x H' => H' = H ∧ xs[xs.length - 1 - i]? = some x) :=
  ⟨fun i _ hi q => ⟨hi, xs, xs[xs.length - 1 - i]'(by omega), q, by simp [show xs.length - 1 - i < xs.length by omega]⟩, fun _ _ => Nat.le_refl _, fun _ _ _ _ _ q y => ⟨y.1, y.2 _ q⟩⟩
def CsV (H : Hp) : List Cnd.Cd → List V → Prop
  | [], [] => True
  | c :: cs, v :: vs => CdH H c v ∧ CsV H cs vs
  | _, _ => False
theorem CsV.keep {H H' : Hp} (k : ∀ a xs, H a = some (.tup xs) → H' a = some (.tup xs)) : ∀ {cs : List Cnd.Cd} {vs : List V}, CsV H cs vs → CsV H' cs vs
  | [], [], h => h
  | _ :: _, _ :: _, ⟨h, i⟩ => ⟨h.keep k, i.keep k⟩
  | [], _ :: _, h => h.elim
  | _ :: _, [], h => h.elim
theorem CsV.len {H : Hp} : ∀ {cs : List Cnd.Cd} {vs : List V}, CsV H cs vs → cs.length = vs.length
  | [], [], _ => rfl
  | _ :: _, _ :: _, ⟨_, i⟩ => congrArg (· + 1) i.len
  | [], _ :: _, h => h.elim
  | _ :: _, [], h => h.elim
def csz (cs : List Cnd.Cd) : Nat := (cs.map Cnd.size).sum
theorem csz_len : ∀ cs : List Cnd.Cd, cs.length ≤ csz cs
  | [] => Nat.le_refl _
  | c :: cs => by
    have := csz_len cs
    have := Cnd.size_pos c
    show cs.length + 1 ≤ Cnd.size c + csz cs
    omega
theorem CsV.app {H : Hp} : ∀ {cs : List Cnd.Cd} {vs : List V} {ds : List Cnd.Cd} {ws : List V}, CsV H cs vs → CsV H ds ws → CsV H (cs ++ ds) (vs ++ ws)
  | [], [], _, _, _, h => h
  | _ :: _, _ :: _, _, _, ⟨h, i⟩, j => ⟨h, i.app j⟩
  | [], _ :: _, _, _, h, _ => h.elim
  | _ :: _, [], _, _, h, _ => h.elim
theorem tup_keepD {H : Hp} {B : Addr} {ys : List (L2.Key × V)} {o : HO} (hB : H B = some (.dK ys)) : ∀ a xs, H a = some (.tup xs) → upd H B o a = some (.tup xs) := fun a xs h => by
  rw [upd_ne (fun e => by rw [e, hB] at h; cases h)]
  exact h
abbrev kws3 : List V := [.str (Str.ofString "not"), .str (Str.ofString "and"), .str (Str.ofString "or")]
theorem kids {H : Hp} : ∀ {c : Cnd.Cd} {v : V}, CdH H c v → ∃ a k els, v = .ref a ∧ H a = some (.tup (.str k :: els)) ∧
    ((∃ n, c = .named n ∧ k = Str.ofString "named" ∧ els = [tx n]) ∨ (V.str k ≠ .str (Str.ofString "named") ∧ inV (.str k) kws3 = false ∧ raw c = []) ∨
      (V.str k ≠ .str (Str.ofString "named") ∧ inV (.str k) kws3 = true ∧ ∃ ds, CsV H ds els ∧ raw c = ds.flatMap raw ∧ csz ds < Cnd.size c ∧ 0 < els.length ∧ els.length ≤ 2))
  | .named n, _, ⟨a, e, h⟩ => ⟨a, _, _, e, h, .inl ⟨n, rfl, rfl, rfl⟩⟩
  | .mat p, _, ⟨a, e, h⟩ => ⟨a, _, _, e, h, .inr (.inl ⟨by decide +kernel, by decide +kernel, rfl⟩)⟩
  | .len r m, _, ⟨a, e, h⟩ => ⟨a, _, _, e, h, .inr (.inl ⟨by decide +kernel, by decide +kernel, rfl⟩)⟩
  | .tpl k _ _ x y, _, ⟨a, e, h⟩ => ⟨a, _, _, e, h, .inr (.inl (by
    match k with
    | 0 | 1 | 2 => exact ⟨by decide +kernel, by decide +kernel, rfl⟩
    | _ + 3 => exact ⟨(by decide +kernel : V.str (Str.ofString "less") ≠ .str (Str.ofString "named")), (by decide +kernel : inV (.str (Str.ofString "less")) kws3 = false), rfl⟩))⟩
  | .no c, _, ⟨a, x, e, h, i⟩ => ⟨a, _, _, e, h, .inr (.inr ⟨by decide +kernel, by decide +kernel, [c], ⟨i, True.intro⟩, (List.append_nil _).symm, Nat.lt_succ_self _, Nat.succ_pos _, Nat.le_succ _⟩)⟩
  | .two w c d, _, ⟨a, x, y, e, h, i, j⟩ => ⟨a, _, _, e, h, .inr (.inr ⟨by cases w <;> decide +kernel, by cases w <;> decide +kernel, [c, d], ⟨i, j, True.intro⟩, by show raw c ++ raw d = raw c ++ (raw d ++ []); rw [List.append_nil], by show Cnd.size c + (Cnd.size d + 0) < Cnd.size c + Cnd.size d + 1; omega, Nat.succ_pos _, Nat.le_refl _⟩)⟩
def spNms : Sp := fun vs H Q _ => ∃ (c : Cnd.Cd) (v : V), vs = [v] ∧ CdH H c v ∧ Cnd.size c ≤ 100000 ∧ ∀ H' p, Same H H' → H p = none → H' p = some (.lst ((nms c).map tx)) → Q (.ref p) H'
abbrev sNms : Stmt := topS 47
abbrev nmsN : List Str := ["condition", "names", "waiting", "now", "part"]
theorem scNms : FnScope nmsN ["condition"] (defScope sNms) := ⟨rfl, rfl, rfl, by decide +kernel, rfl, by decide +kernel, by decide +kernel⟩
theorem ok_nms {f : Addr} {fd : FuncData} (F : Fun K "condition_names" "condition_names" sNms f fd) (m_reversed : mg "reversed" = none) (m_list : mg "list" = none) :
    FnOk P w K mg base CX0 1 f fd ["condition"] spNms := by
  refine F.ok scNms (fun vs H Q E h => ?_) (fun cdv A outer s H vs Q E hr h => ?_)
  · obtain ⟨c, v, rfl, _⟩ := h
    rfl
  · obtain ⟨c0, v0, rfl, hv0, hsz, q⟩ := h
    have hu := hu_of hr
    refine ⟨_, (pss_cons (ps_set (i := 1) scNms.nd rfl (by first | exact .inl rfl | exact .inr rfl) pe_dnewK)
      (pss_cons (ps_set (i := 2) scNms.nd rfl (by first | exact .inl rfl | exact .inr rfl) (pe_lst (pa_cons (pv 0) pa_nil)))
      (pss_cons (ps_while PassesOwn.never (pt_truth (pv 2) (fun _ => rfl))
        (pss_cons (ps_set (i := 3) scNms.nd rfl (by first | exact .inl rfl | exact .inr rfl) (pe_bm0 PySem.F.plainAttrs_list PySem.F.slot_list_pop PySem.F.type_list_pop mt_pop (pv 2)))
      (pss_cons (ps_if (pt_cmpR op_eq (pe_ix (ixT (K := K) rfl) (pv 3) pe_int (fun _ _ => rfl)) pe_str (nomark _)) (pss_one (ps_dput hu (pv 1) (pe_ix (ixT (K := K) rfl) (pv 3) pe_int (fun _ _ => rfl)) pe_bl rfl)) pss_nil)
      (pss_one (ps_if (pt_cmpR op_in_seq (pe_ix (ixT (K := K) rfl) (pv 3) pe_int (fun _ _ => rfl)) (pe_tup (pa_cons pe_str (pa_cons pe_str (pa_cons pe_str pa_nil)))) (by rfl)) (pss_one (ps_for PassesOwn.never rfl (RT.pi_revA (by rfl) m_reversed (pe_slice sl_tup (pv 3) (po_some pe_int) po_none)) (pg_name (i := 4) scNms.nd rfl (by first | exact .inl rfl | exact .inr rfl))
        (pss_one (ps_expr (pe_bm PySem.F.plainAttrs_list PySem.F.slot_list_append PySem.F.type_list_append mt_append (pv 2) (pa_cons (pv 4) pa_nil)))))) pss_nil)))))
      (pss_one (ps_ret (pe_callTy (call_list_dK rfl) (by rfl) m_list (by decide +kernel) (pa_cons (pv 1) pa_nil))))))), ?_⟩
    refine fun D nD => ?_
    have sD := same_new (o := .dK []) nD
    have hD0 : upd H D (.dK []) D = some (.dK []) := upd_same
    generalize upd H D (.dK []) = HD at sD hD0 ⊢
    refine ⟨_, rfl, Nat.succ_le_of_lt (by decide), fun B nB => ?_⟩
    have sB := same_new (o := .lst [v0]) nB
    have nB0 := none_of sD nB
    have hBD : D ≠ B := fun e => by rw [e, nB] at hD0; cases hD0
    try dsimp only [gName, tSeq, tAsg, List.set_cons_zero, List.set_cons_succ]
    show tWhile _ _ _ [some v0, some (.ref D), some (.ref B), none, none] _
    refine ⟨fun m σ H' => ∃ (cs : List Cnd.Cd) (vs : List V) (acc : List (List Nat)) (v3 v4 : Option V), σ = [some v0, some (.ref D), some (.ref B), v3, v4] ∧ Same H H' ∧ H' D = some (.dK (nmV acc)) ∧ H' B = some (.lst vs.reverse) ∧ CsV H' cs vs ∧ (cs.flatMap raw).foldl addN acc = nms c0 ∧ acc.length + csz cs ≤ 100000 ∧ m = csz cs,
      ⟨_, [c0], [v0], [], none, none, rfl, sD.trans sB, sB _ _ hD0, upd_same, ⟨hv0.same (sD.trans sB), True.intro⟩, by show (raw c0 ++ []).foldl addN [] = _; rw [List.append_nil]; exact raw_all c0, by show 0 + (Cnd.size c0 + 0) ≤ _; omega, rfl⟩, ?_⟩
    rintro m σ H1 ⟨cs, vs, acc, v3, v4, rfl, s1, hD, hB, hC, hf, hz, rfl⟩
    refine ⟨_, rfl, !vs.reverse.isEmpty, .inl ⟨_, sqL hB, rfl⟩, ?_⟩
    match cs, vs, hC with
    | [], [], _ =>
      refine iteF ?_
      have hf : acc = nms c0 := hf
      subst hf
      refine ⟨_, rfl, D, _, rfl, hD, fun p np => ?_⟩
      have sp := same_new (o := .lst ((nmV (nms c0)).map fun kv => kV kv.1)) np
      refine q _ p (s1.trans sp) (none_of s1 np) ?_
      rw [upd_same, List.map_map]
      rfl
    | c :: cs, v :: vs, ⟨hc, hC⟩ =>
      rw [show (!(v :: vs).reverse.isEmpty) = true by rw [List.reverse_cons]; cases vs.reverse <;> rfl]
      refine iteT ?_
      rw [List.reverse_cons] at hB
      refine ⟨_, fun _ _ h => h, ?_⟩
      refine ⟨_, rfl, .inl ⟨rfl, _, sqL hB⟩, B, _, _, rfl, rfl, hB, get_last, ?_⟩
      rw [List.dropLast_concat]
      obtain ⟨H2, eH2⟩ : ∃ H2, H2 = upd H1 B (.lst vs.reverse) := ⟨_, rfl⟩
      rw [← eH2]
      have s2 : Same H H2 := by rw [eH2]; exact same_put s1 nB0
      have hB2 : H2 B = some (.lst vs.reverse) := by rw [eH2]; exact upd_same
      have hD2 : H2 D = some (.dK (nmV acc)) := by rw [eH2, upd_ne hBD]; exact hD
      have hC2 : CsV H2 cs vs := by rw [eH2]; exact hC.keep (tup_keep hB)
      have hc2 : CdH H2 c v := by rw [eH2]; exact hc.keep (tup_keep hB)
      clear hB hD hC hc eH2 s1
      have hsz0 : acc.length + (Cnd.size c + csz cs) ≤ 100000 := hz
      have hpos := Cnd.size_pos c
      have hcl := csz_len cs
      have hfl : (raw c ++ cs.flatMap raw).foldl addN acc = nms c0 := hf
      try dsimp only [gName, tSeq, tAsg, List.set_cons_zero, List.set_cons_succ]
      obtain ⟨a, k, els, rfl, ha, hk⟩ := kids hc2
      refine ⟨_, rfl, a, _, 0, _, rfl, rfl, sqT ha, atI_nat (j := 0) rfl, rfl, _, rfl, ?_⟩
      rcases hk with ⟨n, rfl, rfl, rfl⟩ | ⟨k1, k2, hr0⟩ | ⟨k1, k2, ds, hds, hr0, hlt, he0, he2⟩
      · rw [decide_eq_true rfl]
        refine iteT ?_
        refine ⟨_, rfl, _, rfl, a, _, 1, _, rfl, rfl, sqT ha, atI_nat (j := 1) rfl, D, _, rfl, DPut.k (k := Sum.inr (S n)) hD2 (by rw [List.length_map, sizeLine_eq]; omega), ?_⟩
        rw [put_nm]
        obtain ⟨H3, eH3⟩ : ∃ H3, H3 = upd H2 D (.dK (nmV (addN acc n))) := ⟨_, rfl⟩
        rw [← eH3]
        have s3 : Same H H3 := by rw [eH3]; exact same_put s2 nD
        have ha3 : H3 a = some (.tup [.str (Str.ofString "named"), tx n]) := by rw [eH3]; exact tup_keepD hD2 _ _ ha
        have hB3 : H3 B = some (.lst vs.reverse) := by rw [eH3, upd_ne (fun e => hBD e.symm)]; exact hB2
        have hC3 : CsV H3 cs vs := by rw [eH3]; exact hC2.keep (tup_keepD hD2)
        have hD3 : H3 D = some (.dK (nmV (addN acc n))) := by rw [eH3]; exact upd_same
        refine ⟨_, rfl, a, _, 0, _, rfl, rfl, sqT ha3, atI_nat (j := 0) rfl, (by show 3 ≤ sizeLine; decide), fun T nT => ⟨T, _, rfl, .inr (sqT upd_same), rfl, rfl, _, rfl, ?_⟩⟩
        have sT := same_new (o := .tup kws3) nT
        rw [show (if false = true then !inV (.str (Str.ofString "named")) kws3 else inV (.str (Str.ofString "named")) kws3) = false by decide +kernel]
        refine iteF ?_
        have hal := addN_len acc n
        exact ⟨_, by show csz cs < 1 + csz cs; omega, cs, vs, addN acc n, _, _, rfl, s3.trans sT, sT _ _ hD3, sT _ _ hB3, hC3.keep (fun a xs e => sT _ _ e), hfl, by have : acc.length + (1 + csz cs) ≤ 100000 := hsz0; omega, rfl⟩
      · rw [decide_eq_false k1]
        refine iteF ?_
        refine ⟨_, rfl, a, _, 0, _, rfl, rfl, sqT ha, atI_nat (j := 0) rfl, (by show 3 ≤ sizeLine; decide), fun T nT => ⟨T, _, rfl, .inr (sqT upd_same), rfl, rfl, _, rfl, ?_⟩⟩
        have sT := same_new (o := .tup kws3) nT
        rw [show (if false = true then !inV (.str k) kws3 else inV (.str k) kws3) = false from k2]
        refine iteF ?_
        rw [hr0] at hfl
        exact ⟨_, by show csz cs < Cnd.size c + csz cs; omega, cs, vs, acc, _, _, rfl, s2.trans sT, sT _ _ hD2, sT _ _ hB2, hC2.keep (fun a xs e => sT _ _ e), hfl, by omega, rfl⟩
      · rw [decide_eq_false k1]
        refine iteF ?_
        refine ⟨_, rfl, a, _, 0, _, rfl, rfl, sqT ha, atI_nat (j := 0) rfl, (by show 3 ≤ sizeLine; decide), fun T nT => ⟨T, _, rfl, .inr (sqT upd_same), rfl, rfl, _, rfl, ?_⟩⟩
        have sT := same_new (o := .tup kws3) nT
        rw [show (if false = true then !inV (.str k) kws3 else inV (.str k) kws3) = true from k2]
        refine iteT ?_
        have haT := sT _ _ ha
        have hDT := sT _ _ hD2
        have hBT := sT _ _ hB2
        have hCT := hC2.keep (fun a xs e => sT _ _ e)
        have hdT := hds.keep (fun a xs e => sT _ _ e)
        have s3 := s2.trans sT
        generalize upd H2 T _ = H3 at haT hDT hBT hCT hdT s3 ⊢
        refine ⟨_, rfl, _, rfl, a, _, rfl, sqT haT, ?_, fun U nU => ?_⟩
        · intro h
          have := h.1
          rw [show (some (1 : Int)) = some ((1 : Nat) : Int) from rfl, HT.sIx_nat, List.length_cons] at this
          omega
        rw [show cutV (V.str k :: els) (some 1) none = els from cut_tl]
        have sU := same_new (o := .tup els) nU
        have hU : upd H3 U (.tup els) U = some (.tup els) := upd_same
        have hDU := sU _ _ hDT
        have hBU := sU _ _ hBT
        have hCU := hCT.keep (fun a xs e => sU _ _ e)
        have hdU := hdT.keep (fun a xs e => sU _ _ e)
        have s4 := s3.trans sU
        generalize upd H3 U (.tup els) = H4 at hU hDU hBU hCU hdU s4 ⊢
        refine ⟨U, _, rfl, .inr ⟨sqT hU, ?_⟩⟩
        have nB4 := nB0
        have hUB : U ≠ B := fun e => by rw [e, hBU] at hU; cases hU
        refine for_it (walk_revT (K := K) (a := U) (xs := els)) (fun i σ H' => ∃ v4 : Option V, σ = [some v0, some (.ref D), some (.ref B), some (.ref a), v4] ∧ Same H H' ∧ H' D = some (.dK (nmV acc)) ∧ H' U = some (.tup els) ∧ H' B = some (.lst (vs.reverse ++ els.reverse.take i)) ∧ CsV H' cs vs ∧ CsV H' ds els)
          ⟨_, rfl, s4, hDU, hU, by rw [hBU, List.take_zero, List.append_nil], hCU, hdU⟩ (fun i σ H' _ h => by obtain ⟨_, _, _, _, h, _⟩ := h; exact sqT h) ?_ ?_
        · rintro i x σ H5 H6 hi ⟨v5, rfl, s5, hD5, hU5, hB5, hC5, hd5⟩ ⟨rfl, hx⟩
          have hvl : vs.length ≤ csz cs := by rw [← hC5.len]; exact csz_len cs
          have hxr : els.reverse[i]? = some x := by
            rw [List.getElem?_reverse hi]
            exact hx
          refine ⟨_, rfl, .inl ⟨rfl, _, sqL hB5⟩, _, rfl, B, _, _, rfl, rfl, hB5, by rw [List.length_append, List.length_reverse, List.length_take, sizeLine_eq]; omega, ?_⟩
          refine ⟨_, rfl, same_put s5 nB0, by rw [upd_ne hBD]; exact hD5, by rw [upd_ne hUB]; exact hU5, ?_, hC5.keep (tup_keep hB5), hd5.keep (tup_keep hB5)⟩
          rw [upd_same, List.take_add_one, hxr, List.append_assoc]
          rfl
        · rintro σ H5 ⟨v5, rfl, s5, hD5, hU5, hB5, hC5, hd5⟩
          rw [List.take_of_length_le (by rw [List.length_reverse]; exact Nat.le_refl _), ← List.reverse_append] at hB5
          have esz : csz (ds ++ cs) = csz ds + csz cs := by unfold csz; rw [List.map_append, List.sum_append]
          rw [hr0, ← List.flatMap_append] at hfl
          exact ⟨_, by show csz (ds ++ cs) < Cnd.size c + csz cs; omega, ds ++ cs, els ++ vs, acc, _, _, rfl, s5, hD5, hB5, hd5.app hC5, hfl, by omega, rfl⟩
end
end Own

namespace Own
open PySem PySem.Spec PyProof.Rows L2 SX RZ
section
variable {P : Program} {w : World} {K : PySem.W.Frag} {mg : Str → Option Value} {base : Heap}
def spPtn (n : Nat) : Sp := fun vs H Q _ => ∃ (r : Addr) (gs : List Nat) (d : Nat), vs = [.ref r, tx gs, iv d] ∧ Good gs ∧ d < n ∧ n ≤ 10 ∧ Rng H r ∧ ∀ H' p, Go r H H' → Cnd.Pat gs p → p.length + 3 ≤ 4 * 2 ^ d → Q (tx p) H'
abbrev sPtn : Stmt := topS 57
abbrev ptnN : List Str := ["_law_rng", "_law_signs", "_law_deep", "_law_way", "_law_inner"]
theorem scPtn : FnScope ptnN ["_law_rng", "_law_signs", "_law_deep"] (defScope sPtn) := ⟨rfl, rfl, rfl, by decide +kernel, rfl, by decide +kernel, by decide +kernel⟩
theorem ok_ptn {f : Addr} {fd : FuncData} (F : Fun K "_law_pattern" "_law_pattern" sPtn f fd) {n : Nat} {f1 : Addr} {fd1 : FuncData} (c1 : Cl P w K mg base "_law_draw" 1 ["_law_rng", "_law_sides"] spDraw f1 fd1) {f2 : Addr} {fd2 : FuncData} (c2 : Cl P w K mg base "_law_pick" 2 ["_law_rng", "_law_things"] (spPick K) f2 fd2) {f3 : Addr} {fd3 : FuncData} (c3 : Cl P w K mg base "_law_pattern" (n + 2) ["_law_rng", "_law_signs", "_law_deep"] (spPtn n) f3 fd3) :
    FnOk P w K mg base CX0 (n + 1 + 2) f fd ["_law_rng", "_law_signs", "_law_deep"] (spPtn (n + 1)) := by
  refine F.ok scPtn (fun vs H Q E h => ?_) (fun cdv A outer s H vs Q E hr h => ?_)
  · obtain ⟨r, gs, d, rfl, _⟩ := h
    rfl
  · obtain ⟨r, gs, d, rfl, hg, hd, hn10, R, q⟩ := h
    refine ⟨_, (pss_cons (ps_set (i := 3) scPtn.nd rfl (by first | exact .inl rfl | exact .inr rfl) (pe_cl c1 hr (by omega) (by rfl) (pa_cons (pv 0) (pa_cons pe_int pa_nil))))
      (pss_cons (ps_if (PW.pt (pw_or (pt_cmpR op_eq (pv 2) pe_int (nomark _)) (pw_or1 (pt_cmpR op_eq (pv 3) pe_int (nomark _))))) (pss_one (ps_ret (pe_cl c2 hr (by omega) (by rfl) (pa_cons (pv 0) (pa_cons (pe_lst (pa_cons (pe_cl c2 hr (by omega) (by rfl) (pa_cons (pv 0) (pa_cons (pv 1) pa_nil))) (pa_cons (pe_cl c2 hr (by omega) (by rfl) (pa_cons (pv 0) (pa_cons (pv 1) pa_nil))) (pa_cons pe_str (pa_cons pe_str pa_nil))))) pa_nil))))) pss_nil)
      (pss_cons (ps_if (pt_cmpR op_lt (pv 3) pe_int (nomark _)) (pss_one (ps_ret (pe_op op_add_str (pe_cl c3 hr (by omega) (by rfl) (pa_cons (pv 0) (pa_cons (pv 1) (pa_cons (pe_op op_sub (pv 2) pe_int) pa_nil)))) (pe_cl c3 hr (by omega) (by rfl) (pa_cons (pv 0) (pa_cons (pv 1) (pa_cons (pe_op op_sub (pv 2) pe_int) pa_nil))))))) pss_nil)
      (pss_cons (ps_if (pt_cmpR op_eq (pv 3) pe_int (nomark _)) (pss_one (ps_ret (pe_op op_add_str (pe_op op_add_str pe_str (pe_cl c3 hr (by omega) (by rfl) (pa_cons (pv 0) (pa_cons (pv 1) (pa_cons (pe_op op_sub (pv 2) pe_int) pa_nil))))) pe_str))) pss_nil)
      (pss_cons (ps_if (pt_cmpR op_eq (pv 3) pe_int (nomark _)) (pss_one (ps_ret (pe_op op_add_str (pe_op op_add_str (pe_cl c2 hr (by omega) (by rfl) (pa_cons (pv 0) (pa_cons (pe_op op_add_str (pv 1) pe_str) pa_nil))) pe_str) (pe_cl c3 hr (by omega) (by rfl) (pa_cons (pv 0) (pa_cons (pv 1) (pa_cons (pe_op op_sub (pv 2) pe_int) pa_nil))))))) pss_nil)
      (pss_cons (ps_set (i := 4) scPtn.nd rfl (by first | exact .inl rfl | exact .inr rfl) (pe_op op_add_str (pe_op op_add_str (pe_cl c3 hr (by omega) (by rfl) (pa_cons (pv 0) (pa_cons (pv 1) (pa_cons (pe_op op_sub (pv 2) pe_int) pa_nil)))) pe_str) (pe_cl c3 hr (by omega) (by rfl) (pa_cons (pv 0) (pa_cons (pv 1) (pa_cons (pe_op op_sub (pv 2) pe_int) pa_nil))))))
      (pss_one (ps_ret (pe_ifExp (pt_cmpR op_eq (pv 3) pe_int (nomark _)) (pv 4) (pe_op op_add_str (pe_op op_add_str pe_str (pv 4)) pe_str)))))))))), ?_⟩
    refine ⟨_, rfl, r, 7, rfl, by decide, by decide, R, fun H1 w g1 w0 w7 => ?_⟩
    try dsimp only [gName, tSeq, tAsg, List.set_cons_zero, List.set_cons_succ]
    refine ⟨_, rfl, rfl, _, rfl, ?_⟩
    by_cases hd0 : d = 0
    · rw [decide_eq_true (show V.int ((d : Nat) : Int) = V.int 0 by rw [hd0]; rfl)]
      refine iteT ?_
      refine iteT ?_

      refine ⟨_, rfl, _, rfl, _, rfl, r, _, rfl, g1.rng, .inr ⟨gs, rfl, by have := hg.lo; omega, by have := hg.hi; omega, fun H2 a g2 ha => ?_⟩⟩
      refine ⟨_, rfl, _, rfl, r, _, rfl, g2.rng, .inr ⟨gs, rfl, by have := hg.lo; omega, by have := hg.hi; omega, fun H3 b g3 hb => ?_⟩⟩
      refine ⟨(by show 4 ≤ sizeLine; decide), fun L nL => ?_⟩
      have sL := same_new (o := .lst [tx [a], tx [b], .str (Str.ofString "."), .str (Str.ofString "")]) nL
      have gA := (g1.trans g2).trans g3
      have hLr : L ≠ r := (ne_of_none gA.rng.ex.choose_spec nL).symm
      refine ⟨r, _, rfl, gA.rng.same sL, .inl ⟨L, _, rfl, hLr, sqL upd_same, Nat.succ_pos _, by show 4 ≤ 1000; decide, fun H4 v g4 hv => ?_⟩⟩
      have gF : Go r H H4 := gA.trans (Go.after gA.rng sL g4)
      have hbd : ∀ k : Nat, k ≤ 1 → k + 3 ≤ 4 * 2 ^ d := fun k hk => by have := Nat.one_le_two_pow (n := d); omega
      simp only [List.mem_cons, List.not_mem_nil, or_false] at hv
      rcases hv with rfl | rfl | rfl | rfl
      · exact q H4 [a] gF (Cnd.Pat.one hg.az (.inl ha)) (hbd 1 (Nat.le_refl _))
      · exact q H4 [b] gF (Cnd.Pat.one hg.az (.inl hb)) (hbd 1 (Nat.le_refl _))
      · exact q H4 [46] gF (Cnd.Pat.one hg.az (.inr (.inl rfl))) (hbd 1 (Nat.le_refl _))
      · exact q H4 [] gF Cnd.Pat.nil (hbd 0 (Nat.zero_le _))
    rw [decide_eq_false (show ¬ V.int ((d : Nat) : Int) = V.int 0 from fun e => hd0 (by have := V.int.inj e; omega))]
    refine iteF ?_
    refine ⟨_, rfl, rfl, _, rfl, ?_⟩
    have hveq : [V.ref r, tx gs, V.int (((d : Nat) : Int) - 1)] = [.ref r, tx gs, iv (d - 1)] := by rw [show ((d : Nat) : Int) - 1 = ((d - 1 : Nat) : Int) by omega]
    have hpw : 4 * 2 ^ d = 2 * (4 * 2 ^ (d - 1)) := by
      obtain ⟨e, rfl⟩ : ∃ e, d = e + 1 := ⟨d - 1, by omega⟩
      rw [Nat.add_sub_cancel, Nat.pow_succ]; omega
    have hp1 : 4 * 2 ^ (d - 1) ≤ 4 * 2 ^ 10 := Nat.mul_le_mul_left _ (Nat.pow_le_pow_right (by decide) (by omega))
    have lz : ∀ k : Nat, k ≤ 100000 → k ≤ sizeLine := fun k hk => by rw [sizeLine_eq]; omega
    have e1 : Str.ofString "(" = S [40] := rfl
    have e2 : Str.ofString ")*" = S [41, 42] := rfl
    have e3 : Str.ofString "*" = S [42] := rfl
    have e4 : Str.ofString "|" = S [124] := rfl
    have e5 : Str.ofString ")" = S [41] := rfl
    have e6 : Str.ofString "." = S [46] := rfl
    by_cases hw0 : w = 0
    · subst hw0
      rw [decide_eq_true rfl]
      refine iteT ?_

      refine ⟨_, rfl, _, rfl, _, rfl, r, _, rfl, g1.rng, .inr ⟨gs, rfl, by have := hg.lo; omega, by have := hg.hi; omega, fun H2 a g2 ha => ?_⟩⟩
      refine ⟨_, rfl, _, rfl, r, _, rfl, g2.rng, .inr ⟨gs, rfl, by have := hg.lo; omega, by have := hg.hi; omega, fun H3 b g3 hb => ?_⟩⟩
      refine ⟨(by show 4 ≤ sizeLine; decide), fun L nL => ?_⟩
      have sL := same_new (o := .lst [tx [a], tx [b], .str (Str.ofString "."), .str (Str.ofString "")]) nL
      have gA := (g1.trans g2).trans g3
      have hLr : L ≠ r := (ne_of_none gA.rng.ex.choose_spec nL).symm
      refine ⟨r, _, rfl, gA.rng.same sL, .inl ⟨L, _, rfl, hLr, sqL upd_same, Nat.succ_pos _, by show 4 ≤ 1000; decide, fun H4 v g4 hv => ?_⟩⟩
      have gF : Go r H H4 := gA.trans (Go.after gA.rng sL g4)
      have hbd : ∀ k : Nat, k ≤ 1 → k + 3 ≤ 4 * 2 ^ d := fun k hk => by have := Nat.one_le_two_pow (n := d); omega
      simp only [List.mem_cons, List.not_mem_nil, or_false] at hv
      rcases hv with rfl | rfl | rfl | rfl
      · exact q H4 [a] gF (Cnd.Pat.one hg.az (.inl ha)) (hbd 1 (Nat.le_refl _))
      · exact q H4 [b] gF (Cnd.Pat.one hg.az (.inl hb)) (hbd 1 (Nat.le_refl _))
      · exact q H4 [46] gF (Cnd.Pat.one hg.az (.inr (.inl rfl))) (hbd 1 (Nat.le_refl _))
      · exact q H4 [] gF Cnd.Pat.nil (hbd 0 (Nat.zero_le _))
    rw [decide_eq_false (fun e => hw0 (V.int.inj e))]
    refine iteF ?_
    refine ⟨_, rfl, _, _, rfl, rfl, _, rfl, ?_⟩
    by_cases hw3 : w < 3
    · rw [decide_eq_true hw3]
      refine iteT ?_
      refine ⟨_, rfl, _, rfl, _, rfl, _, _, rfl, rfl, r, gs, d - 1, hveq, hg, by omega, by omega, g1.rng, fun H2 p g2 hp lp => ⟨_, rfl, _, rfl, _, rfl, _, _, rfl, rfl, r, gs, d - 1, hveq, hg, by omega, by omega, g2.rng, fun H3 p2 g3 hp2 lp2 => ⟨_, _, rfl, rfl, by rw [S_len, S_len]; exact lz _ (by omega), ?_⟩⟩⟩
      rw [S_cat]
      exact q _ _ ((g1.trans g2).trans g3) (hp.app hp2) (by rw [List.length_append]; omega)
    rw [decide_eq_false hw3]
    refine iteF ?_
    refine ⟨_, rfl, rfl, _, rfl, ?_⟩
    by_cases h3 : w = 3
    · subst h3
      rw [decide_eq_true rfl]
      refine iteT ?_
      refine ⟨_, rfl, _, rfl, _, rfl, _, _, rfl, rfl, r, gs, d - 1, hveq, hg, by omega, by omega, g1.rng, fun H2 p g2 hp lp => ⟨_, _, rfl, rfl, by rw [e1, S_len, S_len]; exact lz _ (by show 1 + _ ≤ _; omega), _, _, rfl, rfl, by rw [e1, e2, S_cat, S_len, S_len, List.length_append]; exact lz _ (by show 1 + _ + 2 ≤ _; omega), ?_⟩⟩
      rw [e1, e2, S_cat, S_cat]
      have := q _ _ (g1.trans g2) hp.star (by rw [List.length_append, List.length_cons, List.length_append]; show _ + 1 + 1 + 1 + 3 ≤ _; omega)
      rw [show [40] ++ p ++ [41, 42] = (40 :: (p ++ [41])) ++ [42] by simp]
      exact this
    rw [decide_eq_false (fun e => h3 (V.int.inj e))]
    refine iteF ?_
    refine ⟨_, rfl, rfl, _, rfl, ?_⟩
    by_cases h4 : w = 4
    · subst h4
      rw [decide_eq_true rfl]
      refine iteT ?_
      have hgl := hg.hi
      refine ⟨_, rfl, _, rfl, _, _, rfl, rfl, by rw [e6, S_len, S_len]; exact lz _ (by show _ + 1 ≤ _; omega), ?_⟩
      rw [e6, S_cat]
      refine ⟨r, _, rfl, g1.rng, .inr ⟨gs ++ [46], rfl, by rw [List.length_append]; exact Nat.succ_pos _, by rw [List.length_append]; show _ + 1 ≤ _; omega, fun H2 c g2 hc => ?_⟩⟩
      have hc : c ∈ gs ∨ c = 46 := (List.mem_append.mp hc).imp id fun h => List.mem_singleton.mp h
      refine ⟨_, _, rfl, rfl, by rw [e3, S_len, S_len]; exact lz _ (by show 1 + 1 ≤ _; omega), _, rfl, _, rfl, _, rfl, _, _, rfl, rfl, r, gs, d - 1, hveq, hg, by omega, by omega, g2.rng, fun H3 p g3 hp lp => ⟨_, _, rfl, rfl, by rw [e3, S_cat, S_len, S_len]; exact lz _ (by show 2 + _ ≤ _; omega), ?_⟩⟩
      rw [e3, S_cat, S_cat]
      exact q _ _ ((g1.trans g2).trans g3) ((Cnd.Pat.lstar hg.az hc).app hp) (by rw [List.length_append]; show 2 + _ + 3 ≤ _; omega)
    rw [decide_eq_false (fun e => h4 (V.int.inj e))]
    refine iteF ?_
    refine ⟨_, rfl, _, rfl, _, rfl, _, _, rfl, rfl, r, gs, d - 1, hveq, hg, by omega, by omega, g1.rng, fun H2 p g2 hp lp => ⟨_, _, rfl, rfl, by rw [e4, S_len, S_len]; exact lz _ (by show _ + 1 ≤ _; omega), _, rfl, _, rfl, _, rfl, _, _, rfl, rfl, r, gs, d - 1, hveq, hg, by omega, by omega, g2.rng, fun H3 p2 g3 hp2 lp2 => ⟨_, _, rfl, rfl, by rw [e4, S_cat, S_len, S_len, List.length_append]; exact lz _ (by show _ + 1 + _ ≤ _; omega), ?_⟩⟩⟩
    rw [e4, S_cat, S_cat]
    try dsimp only [gName, tSeq, tAsg, List.set_cons_zero, List.set_cons_succ]
    have hin : Cnd.Pat gs (p ++ [124] ++ p2) := (hp.app (Cnd.Pat.one hg.az (.inr (.inr rfl)))).app hp2
    have gA := (g1.trans g2).trans g3
    have hil : (p ++ [124] ++ p2).length = p.length + 1 + p2.length := by rw [List.length_append, List.length_append]; rfl
    refine ⟨_, rfl, rfl, _, rfl, ?_⟩
    by_cases h5 : w = 5
    · subst h5
      rw [decide_eq_true rfl]
      refine iteT ?_
      exact ⟨_, rfl, q _ _ gA hin (by omega)⟩
    rw [decide_eq_false (fun e => h5 (V.int.inj e))]
    refine iteF ?_
    refine ⟨_, rfl, _, _, rfl, rfl, by rw [e1, S_len, S_len]; exact lz _ (by show 1 + _ ≤ _; omega), _, _, rfl, rfl, by rw [e1, e5, S_cat, S_len, S_len, List.length_append]; exact lz _ (by show 1 + _ + 1 ≤ _; omega), ?_⟩
    rw [e1, e5, S_cat, S_cat]
    have := q _ _ gA hin.par (by rw [List.length_cons, List.length_append]; show _ + 1 + 1 + 3 ≤ _; omega)
    rw [show [40] ++ (p ++ [124] ++ p2) ++ [41] = 40 :: ((p ++ [124] ++ p2) ++ [41]) by simp]
    exact this
theorem ptn_all {f f1 f2 : Addr} {fd fd1 fd2 : FuncData} (F : Fun K "_law_pattern" "_law_pattern" sPtn f fd) (c1 : Cl P w K mg base "_law_draw" 1 ["_law_rng", "_law_sides"] spDraw f1 fd1) (c2 : Cl P w K mg base "_law_pick" 2 ["_law_rng", "_law_things"] (spPick K) f2 fd2) (b : Binds K fd ["_law_rng", "_law_signs", "_law_deep"] []) (g : mg "_law_pattern" = some (.ref f)) : ∀ n, FnOk P w K mg base CX0 (n + 2) f fd ["_law_rng", "_law_signs", "_law_deep"] (spPtn n)
  | 0 => ⟨fun vs H Q E h => (by obtain ⟨r, gs, d, _, _, h, _⟩ := h; omega), fun A outer s H args us vs Q E _ _ _ _ h => (by obtain ⟨r, gs, d, _, _, h, _⟩ := h; omega)⟩
  | n + 1 => ok_ptn F c1 c2 ⟨ptn_all F c1 c2 b g n, g, F.kp, b⟩
end
end Own

namespace Own
open PySem PySem.Spec PyProof.Rows L2 SX RZ
section
variable {P : Program} {w : World} {K : PySem.W.Frag} {mg : Str → Option Value} {base : Heap}
def spLef : Sp := fun vs H Q _ => ∃ (r : Addr) (gs : List Nat) (m : Nat), vs = [.ref r, tx gs, iv m] ∧ Good gs ∧ m ≤ 100 ∧ Rng H r ∧ ∀ H' v c, Go r H H' → CdH H' c v → OkC gs c → Cnd.leaf c = true → Q v H'
abbrev sLef : Stmt := topS 58
abbrev lefN : List Str := ["_law_rng", "_law_signs", "_law_most", "_law_way", "_law_modulus", "_law_mine", "_law_yours"]
theorem scLef : FnScope lefN ["_law_rng", "_law_signs", "_law_most"] (defScope sLef) := ⟨rfl, rfl, rfl, by decide +kernel, rfl, by decide +kernel, by decide +kernel⟩
theorem ok_lef {f : Addr} {fd : FuncData} (F : Fun K "_law_leaf" "_law_leaf" sLef f fd) {f1 : Addr} {fd1 : FuncData} (c1 : Cl P w K mg base "_law_draw" 1 ["_law_rng", "_law_sides"] spDraw f1 fd1) {f2 : Addr} {fd2 : FuncData} (c2 : Cl P w K mg base "_law_pattern" (5 + 2) ["_law_rng", "_law_signs", "_law_deep"] (spPtn 5) f2 fd2) {f3 : Addr} {fd3 : FuncData} (c3 : Cl P w K mg base "_law_items" 3 ["_law_rng", "_law_signs", "_law_most"] spItems f3 fd3) {f4 : Addr} {fd4 : FuncData} (c4 : Cl P w K mg base "_law_text" 1 ["_law_signs", "_law_items_here"] (spLx K) f4 fd4) :
    FnOk P w K mg base CX0 8 f fd ["_law_rng", "_law_signs", "_law_most"] spLef := by
  refine F.ok scLef (fun vs H Q E h => ?_) (fun cdv A outer s H vs Q E hr h => ?_)
  · obtain ⟨r, gs, m, rfl, _⟩ := h
    rfl
  · obtain ⟨r, gs, m, rfl, hg, hm, R, q⟩ := h
    refine ⟨_, (pss_cons (ps_set (i := 3) scLef.nd rfl (by first | exact .inl rfl | exact .inr rfl) (pe_cl c1 hr (by decide) (by rfl) (pa_cons (pv 0) (pa_cons pe_int pa_nil))))
      (pss_cons (ps_if (pt_cmpR op_eq (pv 3) pe_int (nomark _)) (pss_one (ps_ret (pe_tup (pa_cons pe_str (pa_cons (pe_cl c2 hr (by decide) (by rfl) (pa_cons (pv 0) (pa_cons (pv 1) (pa_cons pe_int pa_nil)))) pa_nil))))) pss_nil)
      (pss_cons (ps_if (pt_cmpR op_eq (pv 3) pe_int (nomark _)) (pss_cons (ps_set (i := 4) scLef.nd rfl (by first | exact .inl rfl | exact .inr rfl) (pe_op op_add pe_int (pe_cl c1 hr (by decide) (by rfl) (pa_cons (pv 0) (pa_cons pe_int pa_nil)))))
      (pss_one (ps_ret (pe_tup (pa_cons pe_str (pa_cons (pe_cl c1 hr (by decide) (by rfl) (pa_cons (pv 0) (pa_cons (pv 4) pa_nil))) (pa_cons (pv 4) pa_nil))))))) pss_nil)
      (pss_cons (ps_par (i := 5) (j := 6) (by rfl) scLef.nd rfl rfl (by decide) rfl rfl (pa_cons (pe_cl c3 hr (by decide) (by rfl) (pa_cons (pv 0) (pa_cons (pv 1) (pa_cons (pv 2) pa_nil)))) (pa_cons (pe_cl c3 hr (by decide) (by rfl) (pa_cons (pv 0) (pa_cons (pv 1) (pa_cons (pv 2) pa_nil)))) pa_nil)) (by rfl))
      (pss_one (ps_ret (pe_tup (pa_cons (pe_ix (ixL (K := K) rfl) (pe_lst (pa_cons pe_str (pa_cons pe_str (pa_cons pe_str (pa_cons pe_str pa_nil))))) (pe_op op_sub (pv 3) pe_int) (fun _ _ => rfl)) (pa_cons (pe_cl c4 hr (by decide) (by rfl) (pa_cons (pv 1) (pa_cons (pv 5) pa_nil))) (pa_cons (pe_cl c4 hr (by decide) (by rfl) (pa_cons (pv 1) (pa_cons (pv 6) pa_nil))) pa_nil)))))))))), ?_⟩
    refine ⟨_, rfl, r, 6, rfl, by decide, by decide, R, fun H1 w g1 w0 w6 => ?_⟩
    try dsimp only [gName, tSeq, tAsg, List.set_cons_zero, List.set_cons_succ]
    refine ⟨_, rfl, rfl, _, rfl, ?_⟩
    by_cases h0 : w = 0
    · subst h0
      rw [decide_eq_true rfl]
      refine iteT ?_
      refine ⟨_, rfl, _, rfl, r, gs, 2, rfl, hg, by decide, by decide, g1.rng, fun H2 p g2 hp hl => ⟨(by show 2 ≤ sizeLine; decide), fun T nT => ?_⟩⟩
      have gA := g1.trans g2
      exact q _ (.ref T) (.mat p) (gA.same (same_new nT)) ⟨T, rfl, upd_same⟩ (.mat hp (by have : 4 * 2 ^ 2 = 16 := rfl; omega)) rfl
    rw [decide_eq_false (fun e => h0 (V.int.inj e))]
    refine iteF ?_
    refine ⟨_, rfl, rfl, _, rfl, ?_⟩
    by_cases h1 : w = 1
    · subst h1
      rw [decide_eq_true rfl]
      refine iteT ?_
      refine ⟨_, rfl, r, 4, rfl, by decide, by decide, g1.rng, fun H2 k g2 k0 k4 => ?_⟩
      obtain ⟨j, rfl⟩ := Int.eq_ofNat_of_zero_le k0
      refine ⟨_, _, rfl, rfl, ?_⟩
      try dsimp only [gName, tSeq, tAsg, List.set_cons_zero, List.set_cons_succ]
      have ej : (1 : Int) + Int.ofNat j = ((j + 1 : Nat) : Int) := by show (1 : Int) + (j : Int) = _; omega
      have hj4 : (j : Int) < 4 := k4
      refine ⟨_, rfl, _, rfl, r, _, rfl, by show 0 < (1 : Int) + (j : Int); omega, by show (1 : Int) + (j : Int) < _; omega, g2.rng, fun H3 k2 g3 k20 k24 => ?_⟩
      obtain ⟨i, rfl⟩ := Int.eq_ofNat_of_zero_le k20
      refine ⟨_, rfl, (by show 3 ≤ sizeLine; decide), fun T nT => ?_⟩
      have k24 : (i : Int) < (1 : Int) + (j : Int) := k24
      refine q _ (.ref T) (.len i (j + 1)) (((g1.trans g2).trans g3).same (same_new nT)) ⟨T, rfl, ?_⟩ (.len (by omega) (by omega)) rfl
      rw [upd_same]
      show some (HO.tup [V.str (Str.ofString "length"), V.int (i : Int), V.int ((1 : Int) + (j : Int))]) = _
      rw [show (1 : Int) + (j : Int) = ((j + 1 : Nat) : Int) by omega]
    rw [decide_eq_false (fun e => h1 (V.int.inj e))]
    refine iteF ?_
    refine ⟨_, rfl, _, rfl, _, rfl, r, gs, m, rfl, hg, Int.natCast_nonneg _, by omega, g1.rng, fun H2 p1 i1 g2 n1 hp1 r1 l1 => ⟨_, rfl, _, rfl, _, rfl, r, gs, m, rfl, hg, Int.natCast_nonneg _, by omega, g2.rng, fun H3 p2 i2 g3 n2 hp2 r2 l2 => ?_⟩⟩
    refine ⟨_, _, rfl, ?_⟩
    try dsimp only [gName, tSeq, tAsg, List.set_cons_zero, List.set_cons_succ]
    obtain ⟨xr, er⟩ := g1.rng.ex
    have np1 : p1 ≠ r := (ne_of_none er n1).symm
    have hp13 := g3.1 _ _ np1 hp1
    refine ⟨(by show 4 ≤ sizeLine; decide), fun L nL => ?_⟩
    have sL := same_new (o := .lst [V.str (Str.ofString "same"), .str (Str.ofString "begins"), .str (Str.ofString "ends"), .str (Str.ofString "less")]) nL
    obtain ⟨kk, ek⟩ : ∃ kk : Nat, w = (kk : Int) + 2 ∧ kk < 4 := ⟨(w - 2).toNat, by omega, by omega⟩
    obtain ⟨rfl, hk4⟩ := ek
    have gA := ((g1.trans g2).trans g3).same sL
    refine ⟨_, rfl, _, _, rfl, rfl, L, _, (kk : Int), .str (kwS kk), rfl, by show V.int ((kk : Int) + 2 - 2) = _; rw [Int.add_sub_cancel], sqL upd_same, ?_, ?_⟩
    · match kk, hk4 with
      | 0, _ => exact atI_nat (j := 0) rfl
      | 1, _ => exact atI_nat (j := 1) rfl
      | 2, _ => exact atI_nat (j := 2) rfl
      | 3, _ => exact atI_nat (j := 3) rfl
    refine ⟨_, rfl, _, rfl, gs, p1, i1, rfl, hg, r1, by omega, sqL (sL _ _ hp13), fun H4 s4 => ?_⟩
    refine ⟨_, rfl, _, rfl, gs, p2, i2, rfl, hg, r2, by omega, sqL (s4 _ _ (sL _ _ hp2)), fun H5 s5 => ?_⟩
    refine ⟨(by show 3 ≤ sizeLine; decide), fun T nT => ?_⟩
    exact q _ (.ref T) (.tpl kk (rTx gs i1) (rTx gs i2) (rTx gs i1) (rTx gs i2)) (((gA.same s4).same s5).same (same_new nT)) ⟨T, rfl, upd_same⟩ (.tpl (by omega) r1 r2 (by omega) (by omega)) rfl
end
end Own

namespace Own
open PySem PySem.Spec PyProof.Rows L2 SX RZ
section
variable {P : Program} {w : World} {K : PySem.W.Frag} {mg : Str → Option Value} {base : Heap}
def spCon (n : Nat) : Sp := fun vs H Q _ => ∃ (r : Addr) (gs : List Nat) (d m : Nat), vs = [.ref r, tx gs, iv d, iv m] ∧ Good gs ∧ d < n ∧ m ≤ 100 ∧ Rng H r ∧ ∀ H' v c, Go r H H' → CdH H' c v → OkC gs c → Cnd.dpt c ≤ d + 1 → Cnd.size c + 1 ≤ 2 ^ (d + 1) → Q v H'
theorem leaf_one : ∀ {c : Cnd.Cd}, Cnd.leaf c = true → Cnd.dpt c = 1 ∧ Cnd.size c = 1
  | .named _, _ | .mat _, _ | .len _ _, _ | .tpl _ _ _ _ _, _ => ⟨rfl, rfl⟩
  | .no _, h => by cases h
  | .two _ _ _, h => by cases h
abbrev sCon : Stmt := topS 59
abbrev conN : List Str := ["_law_rng", "_law_signs", "_law_deep", "_law_most", "_law_way", "_law_one"]
theorem scCon : FnScope conN ["_law_rng", "_law_signs", "_law_deep", "_law_most"] (defScope sCon) := ⟨rfl, rfl, rfl, by decide +kernel, rfl, by decide +kernel, by decide +kernel⟩
theorem ok_con {f : Addr} {fd : FuncData} (F : Fun K "_law_condition" "_law_condition" sCon f fd) {n : Nat} {f1 : Addr} {fd1 : FuncData} (c1 : Cl P w K mg base "_law_draw" 1 ["_law_rng", "_law_sides"] spDraw f1 fd1) {f2 : Addr} {fd2 : FuncData} (c2 : Cl P w K mg base "_law_pick" 2 ["_law_rng", "_law_things"] (spPick K) f2 fd2) {f3 : Addr} {fd3 : FuncData} (c3 : Cl P w K mg base "_law_leaf" 8 ["_law_rng", "_law_signs", "_law_most"] spLef f3 fd3) {f4 : Addr} {fd4 : FuncData} (c4 : Cl P w K mg base "_law_condition" (n + 8) ["_law_rng", "_law_signs", "_law_deep", "_law_most"] (spCon n) f4 fd4) :
    FnOk P w K mg base CX0 (n + 1 + 8) f fd ["_law_rng", "_law_signs", "_law_deep", "_law_most"] (spCon (n + 1)) := by
  refine F.ok scCon (fun vs H Q E h => ?_) (fun cdv A outer s H vs Q E hr h => ?_)
  · obtain ⟨r, gs, d, m, rfl, _⟩ := h
    rfl
  · obtain ⟨r, gs, d, m, rfl, hg, hd, hm, R, q⟩ := h
    refine ⟨_, (pss_cons (ps_set (i := 4) scCon.nd rfl (by first | exact .inl rfl | exact .inr rfl) (pe_cl c1 hr (by omega) (by rfl) (pa_cons (pv 0) (pa_cons pe_int pa_nil))))
      (pss_cons (ps_if (PW.pt (pw_or (pt_cmpR op_eq (pv 2) pe_int (nomark _)) (pw_or1 (pt_cmpR op_lt (pv 4) pe_int (nomark _))))) (pss_one (ps_ret (pe_cl c3 hr (by omega) (by rfl) (pa_cons (pv 0) (pa_cons (pv 1) (pa_cons (pv 3) pa_nil)))))) pss_nil)
      (pss_cons (ps_if (pt_cmpR op_eq (pv 4) pe_int (nomark _)) (pss_one (ps_ret (pe_tup (pa_cons pe_str (pa_cons (pe_cl c4 hr (by omega) (by rfl) (pa_cons (pv 0) (pa_cons (pv 1) (pa_cons (pe_op op_sub (pv 2) pe_int) (pa_cons (pv 3) pa_nil))))) pa_nil))))) pss_nil)
      (pss_cons (ps_set (i := 5) scCon.nd rfl (by first | exact .inl rfl | exact .inr rfl) (pe_cl c4 hr (by omega) (by rfl) (pa_cons (pv 0) (pa_cons (pv 1) (pa_cons (pe_op op_sub (pv 2) pe_int) (pa_cons (pv 3) pa_nil))))))
      (pss_one (ps_ret (pe_tup (pa_cons (pe_cl c2 hr (by omega) (by rfl) (pa_cons (pv 0) (pa_cons (pe_lst (pa_cons pe_str (pa_cons pe_str pa_nil))) pa_nil))) (pa_cons (pv 5) (pa_cons (pe_cl c4 hr (by omega) (by rfl) (pa_cons (pv 0) (pa_cons (pv 1) (pa_cons (pe_op op_sub (pv 2) pe_int) (pa_cons (pv 3) pa_nil))))) pa_nil)))))))))), ?_⟩
    refine ⟨_, rfl, r, 6, rfl, by decide, by decide, R, fun H1 w g1 w0 w6 => ?_⟩
    try dsimp only [gName, tSeq, tAsg, List.set_cons_zero, List.set_cons_succ]
    refine ⟨_, rfl, rfl, _, rfl, ?_⟩
    by_cases hd0 : d = 0
    · rw [decide_eq_true (show V.int ((d : Nat) : Int) = V.int 0 by rw [hd0]; rfl)]
      refine iteT ?_
      refine iteT ?_
      refine ⟨_, rfl, _, rfl, _, rfl, r, gs, m, rfl, hg, hm, g1.rng, fun H2 v c g2 hv hok hlf => ?_⟩
      obtain ⟨l1, l2⟩ := leaf_one hlf
      exact q _ _ _ (g1.trans g2) hv hok (by omega) (by rw [l2]; have := Nat.one_le_two_pow (n := d); rw [Nat.pow_succ]; omega)
    rw [decide_eq_false (show ¬ V.int ((d : Nat) : Int) = V.int 0 from fun e => hd0 (by have := V.int.inj e; omega))]
    refine iteF ?_
    refine ⟨_, rfl, _, _, rfl, rfl, _, rfl, ?_⟩
    by_cases hw3 : w < 3
    · rw [decide_eq_true hw3]
      refine iteT ?_
      refine ⟨_, rfl, _, rfl, _, rfl, r, gs, m, rfl, hg, hm, g1.rng, fun H2 v c g2 hv hok hlf => ?_⟩
      obtain ⟨l1, l2⟩ := leaf_one hlf
      exact q _ _ _ (g1.trans g2) hv hok (by omega) (by rw [l2]; have := Nat.one_le_two_pow (n := d); rw [Nat.pow_succ]; omega)
    rw [decide_eq_false hw3]
    refine iteF ?_
    have hveq : [V.ref r, tx gs, V.int (((d : Nat) : Int) - 1), iv m] = [.ref r, tx gs, iv (d - 1), iv m] := by rw [show ((d : Nat) : Int) - 1 = ((d - 1 : Nat) : Int) by omega]
    have hpw : 2 ^ (d + 1) = 2 * 2 ^ (d - 1 + 1) := by rw [show d - 1 + 1 = d by omega, Nat.pow_succ]; omega
    have hpw1 : 2 ≤ 2 ^ (d - 1 + 1) := by rw [Nat.pow_succ]; have := Nat.one_le_two_pow (n := d - 1); omega
    refine ⟨_, rfl, rfl, _, rfl, ?_⟩
    by_cases h3 : w = 3
    · subst h3
      rw [decide_eq_true rfl]
      refine iteT ?_
      refine ⟨_, rfl, _, rfl, _, rfl, _, _, rfl, rfl, _, rfl, r, gs, d - 1, m, hveq, hg, by omega, hm, g1.rng, fun H2 v c g2 hv1 ho1 hd1 hs1 => ⟨(by show 2 ≤ sizeLine; decide), fun T nT => ?_⟩⟩
      have sT := same_new (o := .tup [V.str (Str.ofString "not"), v]) nT
      exact q _ (.ref T) (.no c) ((g1.trans g2).same sT) ⟨T, v, rfl, upd_same, hv1.same sT⟩ (.no ho1) (by show Cnd.dpt c + 1 ≤ _; omega) (by show Cnd.size c + 1 + 1 ≤ _; omega)
    rw [decide_eq_false (fun e => h3 (V.int.inj e))]
    refine iteF ?_
    refine ⟨_, rfl, _, rfl, _, rfl, _, _, rfl, rfl, _, rfl, r, gs, d - 1, m, hveq, hg, by omega, hm, g1.rng, fun H2 v c g2 hv1 ho1 hd1 hs1 => ?_⟩
    try dsimp only [gName, tSeq, tAsg, List.set_cons_zero, List.set_cons_succ]
    refine ⟨_, rfl, (by show 2 ≤ sizeLine; decide), fun L nL => ?_⟩
    have sL := same_new (o := .lst [V.str (Str.ofString "and"), .str (Str.ofString "or")]) nL
    have gA := g1.trans g2
    obtain ⟨xr, er⟩ := gA.rng.ex
    have hLr : L ≠ r := (ne_of_none er nL).symm
    refine ⟨r, _, rfl, gA.rng.same sL, .inl ⟨L, _, rfl, hLr, sqL upd_same, Nat.succ_pos _, by show 2 ≤ 1000; decide, fun H3 wd g3 hwd => ?_⟩⟩
    have hv1L := (hv1.same sL).go (gA.rng.same sL) g3
    have gB := (gA.same sL).trans g3
    obtain ⟨b, rfl⟩ : ∃ b : Bool, wd = .str (wdS b) := by
      simp only [List.mem_cons, List.not_mem_nil, or_false] at hwd
      rcases hwd with rfl | rfl
      · exact ⟨true, rfl⟩
      · exact ⟨false, rfl⟩
    refine ⟨_, rfl, _, rfl, _, rfl, _, rfl, _, _, rfl, rfl, _, rfl, r, gs, d - 1, m, hveq, hg, by omega, hm, gB.rng, fun H4 v2 c2 g4 hv2 ho2 hd2 hs2 => ⟨(by show 3 ≤ sizeLine; decide), fun T nT => ?_⟩⟩
    have sT := same_new (o := .tup [V.str (wdS b), v, v2]) nT
    have hv1F := hv1L.go gB.rng g4
    exact q _ (.ref T) (.two b c c2) ((gB.trans g4).same sT) ⟨T, v, v2, rfl, upd_same, hv1F.same sT, hv2.same sT⟩ (.two ho1 ho2) (by show max (Cnd.dpt c) (Cnd.dpt c2) + 1 ≤ _; omega) (by show Cnd.size c + Cnd.size c2 + 1 + 1 ≤ _; omega)
theorem con_all {f f1 f2 f3 : Addr} {fd fd1 fd2 fd3 : FuncData} (F : Fun K "_law_condition" "_law_condition" sCon f fd) (c1 : Cl P w K mg base "_law_draw" 1 ["_law_rng", "_law_sides"] spDraw f1 fd1) (c2 : Cl P w K mg base "_law_pick" 2 ["_law_rng", "_law_things"] (spPick K) f2 fd2) (c3 : Cl P w K mg base "_law_leaf" 8 ["_law_rng", "_law_signs", "_law_most"] spLef f3 fd3) (b : Binds K fd ["_law_rng", "_law_signs", "_law_deep", "_law_most"] []) (g : mg "_law_condition" = some (.ref f)) : ∀ n, FnOk P w K mg base CX0 (n + 8) f fd ["_law_rng", "_law_signs", "_law_deep", "_law_most"] (spCon n)
  | 0 => ⟨fun vs H Q E h => (by obtain ⟨r, gs, d, m, _, _, h, _⟩ := h; omega), fun A outer s H args us vs Q E _ _ _ _ h => (by obtain ⟨r, gs, d, m, _, _, h, _⟩ := h; omega)⟩
  | n + 1 => ok_con F c1 c2 c3 ⟨con_all F c1 c2 c3 b g n, g, F.kp, b⟩
end
end Own

namespace Own
open PySem PySem.Spec PyProof.Rows L2 SX RZ
section
variable {P : Program} {w : World} {K : PySem.W.Frag} {mg : Str → Option Value} {base : Heap}
def spCtx (n : Nat) : Sp := fun vs H Q _ => ∃ (gs : List Nat) (c : Cnd.Cd) (v : V), vs = [v] ∧ OkC gs c ∧ CdH H c v ∧ Cnd.dpt c ≤ n ∧ (Cnd.cTx c).length ≤ 100000 ∧ ∀ H', Same H H' → Q (tx (Cnd.cTx c)) H'
abbrev sCtx : Stmt := topS 60
abbrev ctxN : List Str := ["_law_my_condition", "_law_word", "_law_parts"]
theorem scCtx : FnScope ctxN ["_law_my_condition"] (defScope sCtx) := ⟨rfl, rfl, rfl, by decide +kernel, rfl, by decide +kernel, by decide +kernel⟩
theorem ok_ctx {f : Addr} {fd : FuncData} (F : Fun K "_law_condition_text" "_law_condition_text" sCtx f fd) {n : Nat} {f1 : Addr} {fd1 : FuncData} (c1 : Cl P w K mg base "_law_condition_text" n ["_law_my_condition"] (spCtx n) f1 fd1) (m_str : mg "str" = none) :
    FnOk P w K mg base CX0 (n + 1) f fd ["_law_my_condition"] (spCtx (n + 1)) := by
  refine F.ok scCtx (fun vs H Q E h => ?_) (fun cdv A outer s H vs Q E hr h => ?_)
  · obtain ⟨gs, c, v, rfl, _⟩ := h
    rfl
  · obtain ⟨gs, c, v, rfl, hok, hv, hdp, hl, q⟩ := h
    refine ⟨_, (pss_cons (ps_set (i := 1) scCtx.nd rfl (by first | exact .inl rfl | exact .inr rfl) (pe_ix (ixT (K := K) rfl) (pv 0) pe_int (fun _ _ => rfl)))
      (pss_cons (ps_if (pt_cmpR op_eq (pv 1) pe_str (nomark _)) (pss_one (ps_ret (pe_op op_add_str pe_str (pe_cl c1 hr (by omega) (by rfl) (pa_cons (pe_ix (ixT (K := K) rfl) (pv 0) pe_int (fun _ _ => rfl)) pa_nil))))) pss_nil)
      (pss_cons (ps_if (pt_cmpR op_eq (pv 1) pe_str (nomark _)) (pss_one (ps_ret (pe_op op_add_str pe_str (pe_ix (ixT (K := K) rfl) (pv 0) pe_int (fun _ _ => rfl))))) pss_nil)
      (pss_cons (ps_if (pt_cmpR op_eq (pv 1) pe_str (nomark _)) (pss_one (ps_ret (pe_op op_add_str (pe_op op_add_str pe_str (pe_ix (ixT (K := K) rfl) (pv 0) pe_int (fun _ _ => rfl))) pe_str))) pss_nil)
      (pss_cons (ps_if (pt_cmpR op_in_seq (pv 1) (pe_tup (pa_cons pe_str (pa_cons pe_str pa_nil))) (by rfl)) (pss_cons (ps_set (i := 2) scCtx.nd rfl (by first | exact .inl rfl | exact .inr rfl) (pe_lst (pa_cons (pe_cl c1 hr (by omega) (by rfl) (pa_cons (pe_ix (ixT (K := K) rfl) (pv 0) pe_int (fun _ _ => rfl)) pa_nil)) (pa_cons (pe_cl c1 hr (by omega) (by rfl) (pa_cons (pe_ix (ixT (K := K) rfl) (pv 0) pe_int (fun _ _ => rfl)) pa_nil)) pa_nil))))
      (pss_one (ps_ret (pe_op op_add_str (pe_op op_add_str (pe_op op_add_str (pe_op op_add_str (pe_op op_add_str (pe_op op_add_str pe_str (pe_ix (ixL (K := K) rfl) (pv 2) pe_int (fun _ _ => rfl))) pe_str) (pv 1)) pe_str) (pe_ix (ixL (K := K) rfl) (pv 2) pe_int (fun _ _ => rfl))) pe_str)))) pss_nil)
      (pss_one (ps_ret (pe_op op_add_str (pe_op op_add_str (pe_op op_add_str (pe_op op_add_str (pe_op op_add_str (pv 1) pe_str) (pe_callTy (call_str_int.or SkE.call_str_str) (by rfl) m_str (by decide +kernel) (pa_cons (pe_ix (ixT (K := K) rfl) (pv 0) pe_int (fun _ _ => rfl)) pa_nil))) pe_str) (pe_callTy (call_str_int.or SkE.call_str_str) (by rfl) m_str (by decide +kernel) (pa_cons (pe_ix (ixT (K := K) rfl) (pv 0) pe_int (fun _ _ => rfl)) pa_nil))) pe_str)))))))), ?_⟩
    have e4 : Str.ofString "not " = S [110, 111, 116, 32] := rfl
    have e6 : Str.ofString "named " = S [110, 97, 109, 101, 100, 32] := rfl
    have e7 : Str.ofString "match(" = S [109, 97, 116, 99, 104, 40] := rfl
    have e1 : Str.ofString "(" = S [40] := rfl
    have e2 : Str.ofString ")" = S [41] := rfl
    have e3 : Str.ofString " " = S [32] := rfl
    have e5 : Str.ofString "," = S [44] := rfl
    have lz : ∀ k : Nat, k ≤ 100100 → k ≤ sizeLine := fun k hk => by rw [sizeLine_eq]; omega
    have go : ∀ (a : Addr) (k : Str) (els : List V), v = .ref a → H a = some (.tup (.str k :: els)) → True := fun _ _ _ _ _ => True.intro
    cases hok with
    | @named nm h0 h8 hn =>
      obtain ⟨a, rfl, ha⟩ := hv
      refine ⟨_, rfl, a, _, 0, _, rfl, rfl, sqT ha, atI_nat (j := 0) rfl, ?_⟩
      try dsimp only [gName, tSeq, tAsg, List.set_cons_zero, List.set_cons_succ]
      refine ⟨_, rfl, rfl, _, rfl, ?_⟩
      rw [decide_eq_false (by decide +kernel)]
      refine iteF ?_
      refine ⟨_, rfl, rfl, _, rfl, ?_⟩
      rw [decide_eq_true rfl]
      refine iteT ?_
      have hcl : (Cnd.cTx (.named nm)).length = 6 + nm.length := by show (Cnd.namT ++ nm).length = _; rw [List.length_append]; rfl
      rw [e6]
      refine ⟨_, rfl, a, _, 1, _, rfl, rfl, sqT ha, atI_nat (j := 1) rfl, _, _, rfl, rfl, (by simp only [S_cat, S_len, List.length_cons, List.length_append, List.length_nil]; exact lz _ (by omega)), ?_⟩
      rw [S_cat]
      exact q _ (Same.refl _)
    | @mat p hp hl1 =>
      obtain ⟨a, rfl, ha⟩ := hv
      refine ⟨_, rfl, a, _, 0, _, rfl, rfl, sqT ha, atI_nat (j := 0) rfl, ?_⟩
      try dsimp only [gName, tSeq, tAsg, List.set_cons_zero, List.set_cons_succ]
      refine ⟨_, rfl, rfl, _, rfl, ?_⟩
      rw [decide_eq_false (by decide +kernel)]
      refine iteF ?_
      refine ⟨_, rfl, rfl, _, rfl, ?_⟩
      rw [decide_eq_false (by decide +kernel)]
      refine iteF ?_
      refine ⟨_, rfl, rfl, _, rfl, ?_⟩
      rw [decide_eq_true rfl]
      refine iteT ?_
      rw [e7, e2]
      refine ⟨_, rfl, a, _, 1, _, rfl, rfl, sqT ha, atI_nat (j := 1) rfl, _, _, rfl, rfl, (by simp only [S_cat, S_len, List.length_cons, List.length_append, List.length_nil]; exact lz _ (by omega)), _, _, rfl, rfl, (by simp only [S_cat, S_len, List.length_cons, List.length_append, List.length_nil]; exact lz _ (by omega)), ?_⟩
      rw [S_cat, S_cat]
      have := q H (Same.refl _)
      rw [show [109, 97, 116, 99, 104, 40] ++ p ++ [41] = Cnd.cTx (.mat p) by show _ = Cnd.matT ++ (40 :: (p ++ [41])); simp]
      exact this
    | @len r m h1 h2 =>
      obtain ⟨a, rfl, ha⟩ := hv
      refine ⟨_, rfl, a, _, 0, _, rfl, rfl, sqT ha, atI_nat (j := 0) rfl, ?_⟩
      try dsimp only [gName, tSeq, tAsg, List.set_cons_zero, List.set_cons_succ]
      refine ⟨_, rfl, rfl, _, rfl, ?_⟩
      rw [decide_eq_false (by decide +kernel)]
      refine iteF ?_
      refine ⟨_, rfl, rfl, _, rfl, ?_⟩
      rw [decide_eq_false (by decide +kernel)]
      refine iteF ?_
      refine ⟨_, rfl, rfl, _, rfl, ?_⟩
      rw [decide_eq_false (by decide +kernel)]
      refine iteF ?_
      refine ⟨_, rfl, (by show 2 ≤ sizeLine; decide), fun T nT => ⟨T, _, rfl, .inr (sqT upd_same), rfl, rfl, _, rfl, ?_⟩⟩
      have sT := same_new (o := .tup [V.str (Str.ofString "and"), V.str (Str.ofString "or")]) nT
      have ha1 := sT _ _ ha
      generalize upd H T _ = H1 at sT ha1 ⊢
      rw [show (if false = true then !inV (.str (Str.ofString "length")) [.str (Str.ofString "and"), .str (Str.ofString "or")] else inV (.str (Str.ofString "length")) [.str (Str.ofString "and"), .str (Str.ofString "or")]) = false by decide +kernel]
      refine iteF ?_
      rw [e1, e2, e5]
      have hlog : ∀ r : Nat, r ≤ 60 → ((r : Int)).natAbs.log2 < 1920 := by decide +kernel
      have hdl : ∀ r : Nat, r ≤ 60 → (Cnd.dec r).length ≤ 2 := by decide +kernel
      have hr2 := hdl r (by omega)
      have hm2 := hdl m h2
      rw [show Str.ofString "length" = S Cnd.lenT from rfl]
      refine ⟨_, rfl, _, _, rfl, rfl, (by simp only [S_cat, S_len, List.length_cons, List.length_append, List.length_nil]; exact lz _ (by show _ ≤ 100100; have : Cnd.lenT.length = 6 := rfl; omega)), _, rfl, a, _, 1, _, rfl, rfl, sqT ha1, atI_nat (j := 1) rfl, .inl ⟨_, rfl, hlog r (by omega), ?_⟩⟩
      rw [dec_to r (by omega)]
      refine ⟨_, _, rfl, rfl, (by simp only [S_cat, S_len, List.length_cons, List.length_append, List.length_nil]; exact lz _ (by show _ ≤ 100100; have : Cnd.lenT.length = 6 := rfl; omega)), _, _, rfl, rfl, (by simp only [S_cat, S_len, List.length_cons, List.length_append, List.length_nil]; exact lz _ (by show _ ≤ 100100; have : Cnd.lenT.length = 6 := rfl; omega)), _, rfl, a, _, 2, _, rfl, rfl, sqT ha1, atI_nat (j := 2) rfl, .inl ⟨_, rfl, hlog m h2, ?_⟩⟩
      rw [dec_to m h2]
      refine ⟨_, _, rfl, rfl, (by simp only [S_cat, S_len, List.length_cons, List.length_append, List.length_nil]; exact lz _ (by show _ ≤ 100100; have : Cnd.lenT.length = 6 := rfl; omega)), _, _, rfl, rfl, (by simp only [S_cat, S_len, List.length_cons, List.length_append, List.length_nil]; exact lz _ (by show _ ≤ 100100; have : Cnd.lenT.length = 6 := rfl; omega)), ?_⟩
      rw [S_cat, S_cat, S_cat, S_cat, S_cat]
      have := q _ sT
      rw [show Cnd.lenT ++ [40] ++ Cnd.dec r ++ [44] ++ Cnd.dec m ++ [41] = Cnd.cTx (.len r m) by show _ = Cnd.lenT ++ (40 :: ((Cnd.dec r ++ 44 :: Cnd.dec m) ++ [41])); simp]
      exact this
    | @tpl k i j hk hi hj li lj =>
      obtain ⟨a, rfl, ha⟩ := hv
      obtain ⟨kk1, kk2, kk3, kk4, kk5⟩ : V.str (kwS k) ≠ .str (Str.ofString "not") ∧ V.str (kwS k) ≠ .str (Str.ofString "named") ∧ V.str (kwS k) ≠ .str (Str.ofString "match") ∧ inV (.str (kwS k)) [.str (Str.ofString "and"), .str (Str.ofString "or")] = false ∧ kwS k = S (Cnd.kwT k) := by
        match k, hk with
        | 0, _ | 1, _ | 2, _ | 3, _ => exact ⟨by decide +kernel, by decide +kernel, by decide +kernel, by decide +kernel, by decide +kernel⟩
      refine ⟨_, rfl, a, _, 0, _, rfl, rfl, sqT ha, atI_nat (j := 0) rfl, ?_⟩
      try dsimp only [gName, tSeq, tAsg, List.set_cons_zero, List.set_cons_succ]
      refine ⟨_, rfl, rfl, _, rfl, ?_⟩
      rw [decide_eq_false kk1]
      refine iteF ?_
      refine ⟨_, rfl, rfl, _, rfl, ?_⟩
      rw [decide_eq_false kk2]
      refine iteF ?_
      refine ⟨_, rfl, rfl, _, rfl, ?_⟩
      rw [decide_eq_false kk3]
      refine iteF ?_
      refine ⟨_, rfl, (by show 2 ≤ sizeLine; decide), fun T nT => ⟨T, _, rfl, .inr (sqT upd_same), rfl, rfl, _, rfl, ?_⟩⟩
      have sT := same_new (o := .tup [V.str (Str.ofString "and"), V.str (Str.ofString "or")]) nT
      have ha1 := sT _ _ ha
      generalize upd H T _ = H1 at sT ha1 ⊢
      rw [show (if false = true then !inV (.str (kwS k)) [.str (Str.ofString "and"), .str (Str.ofString "or")] else inV (.str (kwS k)) [.str (Str.ofString "and"), .str (Str.ofString "or")]) = false from kk4]
      refine iteF ?_
      have hcl : (Cnd.cTx (.tpl k (rTx gs i) (rTx gs j) (rTx gs i) (rTx gs j))).length = (Cnd.kwT k).length + (1 + ((rTx gs i).length + (1 + ((rTx gs j).length + 1)))) := by
        show (Cnd.kwT k ++ (40 :: ((rTx gs i ++ 44 :: rTx gs j) ++ [41]))).length = _
        simp only [List.length_cons, List.length_append, List.length_nil]
        omega
      rw [e1, e2, e5, kk5]
      refine ⟨_, rfl, _, _, rfl, rfl, (by simp only [S_cat, S_len, List.length_cons, List.length_append, List.length_nil]; exact lz _ (by omega)), _, rfl, a, _, 1, _, rfl, rfl, sqT ha1, atI_nat (j := 1) rfl, .inr ⟨_, rfl, ?_⟩⟩
      refine ⟨_, _, rfl, rfl, (by simp only [S_cat, S_len, List.length_cons, List.length_append, List.length_nil]; exact lz _ (by omega)), _, _, rfl, rfl, (by simp only [S_cat, S_len, List.length_cons, List.length_append, List.length_nil]; exact lz _ (by omega)), _, rfl, a, _, 2, _, rfl, rfl, sqT ha1, atI_nat (j := 2) rfl, .inr ⟨_, rfl, ?_⟩⟩
      refine ⟨_, _, rfl, rfl, (by simp only [S_cat, S_len, List.length_cons, List.length_append, List.length_nil]; exact lz _ (by omega)), _, _, rfl, rfl, (by simp only [S_cat, S_len, List.length_cons, List.length_append, List.length_nil]; exact lz _ (by omega)), ?_⟩
      rw [S_cat, S_cat, S_cat, S_cat, S_cat]
      have := q _ sT
      rw [show Cnd.kwT k ++ [40] ++ rTx gs i ++ [44] ++ rTx gs j ++ [41] = Cnd.cTx (.tpl k (rTx gs i) (rTx gs j) (rTx gs i) (rTx gs j)) by show _ = Cnd.kwT k ++ (40 :: ((rTx gs i ++ 44 :: rTx gs j) ++ [41])); simp]
      exact this
    | @no c hc =>
      obtain ⟨a, x, rfl, ha, hx⟩ := hv
      have hdc : Cnd.dpt c + 1 ≤ n + 1 := hdp
      have hcl : (Cnd.cTx (.no c)).length = 4 + (Cnd.cTx c).length := by show (Cnd.notT ++ Cnd.cTx c).length = _; rw [List.length_append]; rfl
      refine ⟨_, rfl, a, _, 0, _, rfl, rfl, sqT ha, atI_nat (j := 0) rfl, ?_⟩
      try dsimp only [gName, tSeq, tAsg, List.set_cons_zero, List.set_cons_succ]
      refine ⟨_, rfl, rfl, _, rfl, ?_⟩
      rw [decide_eq_true rfl]
      refine iteT ?_
      rw [e4]
      refine ⟨_, rfl, a, _, 1, _, rfl, rfl, sqT ha, atI_nat (j := 1) rfl, gs, c, x, rfl, hc, hx, by omega, by omega, fun H1 s1 => ⟨_, _, rfl, rfl, (by simp only [S_cat, S_len, List.length_cons, List.length_append, List.length_nil]; exact lz _ (by omega)), ?_⟩⟩
      rw [S_cat]
      exact q _ s1
    | @two w c d hc hd =>
      obtain ⟨a, x, y, rfl, ha, hx, hy⟩ := hv
      have hdc : max (Cnd.dpt c) (Cnd.dpt d) + 1 ≤ n + 1 := hdp
      have hcl : (Cnd.cTx (.two w c d)).length = 1 + ((Cnd.cTx c).length + (1 + ((Cnd.wdT w).length + (1 + ((Cnd.cTx d).length + 1))))) := by
        show (40 :: (Cnd.cTx c ++ (32 :: (Cnd.wdT w ++ (32 :: (Cnd.cTx d ++ [41])))))).length = _
        simp only [List.length_cons, List.length_append, List.length_nil]
        omega
      refine ⟨_, rfl, a, _, 0, _, rfl, rfl, sqT ha, atI_nat (j := 0) rfl, ?_⟩
      try dsimp only [gName, tSeq, tAsg, List.set_cons_zero, List.set_cons_succ]
      refine ⟨_, rfl, rfl, _, rfl, ?_⟩
      rw [decide_eq_false (by cases w <;> decide +kernel)]
      refine iteF ?_
      refine ⟨_, rfl, rfl, _, rfl, ?_⟩
      rw [decide_eq_false (by cases w <;> decide +kernel)]
      refine iteF ?_
      refine ⟨_, rfl, rfl, _, rfl, ?_⟩
      rw [decide_eq_false (by cases w <;> decide +kernel)]
      refine iteF ?_
      refine ⟨_, rfl, (by show 2 ≤ sizeLine; decide), fun T nT => ⟨T, _, rfl, .inr (sqT upd_same), rfl, rfl, _, rfl, ?_⟩⟩
      have sT := same_new (o := .tup [V.str (Str.ofString "and"), V.str (Str.ofString "or")]) nT
      have ha1 := sT _ _ ha
      have hx1 := hx.same sT
      have hy1 := hy.same sT
      generalize upd H T _ = H1 at sT ha1 hx1 hy1 ⊢
      rw [show (if false = true then !inV (.str (wdS w)) [.str (Str.ofString "and"), .str (Str.ofString "or")] else inV (.str (wdS w)) [.str (Str.ofString "and"), .str (Str.ofString "or")]) = true by cases w <;> decide +kernel]
      refine iteT ?_
      refine ⟨_, rfl, a, _, 1, _, rfl, rfl, sqT ha1, atI_nat (j := 1) rfl, gs, c, x, rfl, hc, hx1, by omega, by omega, fun H2 s2 => ⟨_, rfl, a, _, 2, _, rfl, rfl, sqT (s2 _ _ ha1), atI_nat (j := 2) rfl, gs, d, y, rfl, hd, hy1.same s2, by omega, by omega, fun H3 s3 => ⟨(by show 2 ≤ sizeLine; decide), fun L nL => ?_⟩⟩⟩
      have sL := same_new (o := .lst [tx (Cnd.cTx c), tx (Cnd.cTx d)]) nL
      have hL : upd H3 L (.lst [tx (Cnd.cTx c), tx (Cnd.cTx d)]) L = some (.lst [tx (Cnd.cTx c), tx (Cnd.cTx d)]) := upd_same
      try dsimp only [gName, tSeq, tAsg, List.set_cons_zero, List.set_cons_succ]
      rw [e1, e2, e3, wdS_T]
      refine ⟨_, rfl, L, _, 0, _, rfl, rfl, sqL hL, atI_nat (j := 0) rfl, _, _, rfl, rfl, (by simp only [S_cat, S_len, List.length_cons, List.length_append, List.length_nil]; exact lz _ (by omega)), _, _, rfl, rfl, (by simp only [S_cat, S_len, List.length_cons, List.length_append, List.length_nil]; exact lz _ (by omega)), _, rfl, _, _, rfl, rfl, (by simp only [S_cat, S_len, List.length_cons, List.length_append, List.length_nil]; exact lz _ (by omega)), _, _, rfl, rfl, (by simp only [S_cat, S_len, List.length_cons, List.length_append, List.length_nil]; exact lz _ (by omega)), _, rfl, L, _, 1, _, rfl, rfl, sqL hL, atI_nat (j := 1) rfl, _, _, rfl, rfl, (by simp only [S_cat, S_len, List.length_cons, List.length_append, List.length_nil]; exact lz _ (by omega)), _, _, rfl, rfl, (by simp only [S_cat, S_len, List.length_cons, List.length_append, List.length_nil]; exact lz _ (by omega)), ?_⟩
      rw [S_cat, S_cat, S_cat, S_cat, S_cat, S_cat]
      have := q _ (sT.trans (s2.trans (s3.trans sL)))
      rw [show [40] ++ Cnd.cTx c ++ [32] ++ Cnd.wdT w ++ [32] ++ Cnd.cTx d ++ [41] = Cnd.cTx (.two w c d) by show _ = 40 :: (Cnd.cTx c ++ (32 :: (Cnd.wdT w ++ (32 :: (Cnd.cTx d ++ [41]))))); simp]
      exact this
theorem ctx_all {f : Addr} {fd : FuncData} (F : Fun K "_law_condition_text" "_law_condition_text" sCtx f fd) (b : Binds K fd ["_law_my_condition"] []) (g : mg "_law_condition_text" = some (.ref f)) (m_str : mg "str" = none) : ∀ n, FnOk P w K mg base CX0 n f fd ["_law_my_condition"] (spCtx n)
  | 0 => ⟨fun vs H Q E h => (by obtain ⟨gs, c, v, _, _, _, h, _⟩ := h; exact absurd (dpt_pos c) (by omega)), fun A outer s H args us vs Q E _ _ _ _ h => (by obtain ⟨gs, c, v, _, _, _, h, _⟩ := h; exact absurd (dpt_pos c) (by omega))⟩
  | n + 1 => ok_ctx F ⟨ctx_all F b g m_str n, g, F.kp, b⟩ m_str
end
end Own

namespace Own
open PySem PySem.Spec PyProof.Rows L2 SX RZ
section
variable {P : Program} {w : World} {K : PySem.W.Frag} {mg : Str → Option Value} {base : Heap}
def Nm (n : List Nat) : Prop := 0 < n.length ∧ n.length ≤ 8 ∧ ∀ c ∈ n, 97 ≤ c ∧ c ≤ 122
def spNam : Sp := fun vs H Q _ => ∃ (r : Addr) (m : Nat), vs = [.ref r, iv m] ∧ m ≤ 20 ∧ Rng H r ∧ ∀ H' p (l : List (List Nat)), Go r H H' → H p = none → H' p = some (.lst (l.map tx)) → l.length = m → (∀ n ∈ l, Nm n) → Q (.ref p) H'
abbrev sNam : Stmt := topS 61
abbrev namN : List Str := ["_law_rng", "_law_many", "_law_stem", "_law_first", "_law_front", "_law_found", "_law_sign", "_law_k"]
theorem scNam : FnScope namN ["_law_rng", "_law_many"] (defScope sNam) := ⟨rfl, rfl, rfl, by decide +kernel, rfl, by decide +kernel, by decide +kernel⟩
theorem ok_nam {f : Addr} {fd : FuncData} (F : Fun K "_law_names" "_law_names" sNam f fd) (m_int : mg "int" = none) (m_range : mg "range" = none) {f1 : Addr} {fd1 : FuncData} (c1 : Cl P w K mg base "_law_draw" 1 ["_law_rng", "_law_sides"] spDraw f1 fd1) {f2 : Addr} {fd2 : FuncData} (c2 : Cl P w K mg base "_law_pick" 2 ["_law_rng", "_law_things"] (spPick K) f2 fd2) :
    FnOk P w K mg base CX0 3 f fd ["_law_rng", "_law_many"] spNam := by
  refine F.ok scNam (fun vs H Q E h => ?_) (fun cdv A outer s H vs Q E hr h => ?_)
  · obtain ⟨r, m, rfl, _⟩ := h
    rfl
  · obtain ⟨r, m, rfl, hm, R, q⟩ := h
    refine ⟨_, (pss_cons (ps_set (i := 2) scNam.nd rfl (by first | exact .inl rfl | exact .inr rfl) (pe_join pe_str (pe_lc (own := [("_law_k", 7)]) (g := gName 7) (tt := tYes)  rfl scNam.nd (pi_range1 rfl m_range (pa_cons (pe_cl c1 hr (by decide) (by rfl) (pa_cons (pv 0) (pa_cons pe_int pa_nil))) pa_nil)) (blkOk_by (N := namN) (sc := defScope sNam) (by decide +kernel)) (fun _ _ _ _ _ => pg_name (i := 7) scNam.nd rfl (Or.inl rfl)) (fun _ _ _ _ _ => pts_nil) (fun _ _ _ _ _ => (pe_cl c2 hr (by decide) (by rfl) (pa_cons (pv 0) (pa_cons pe_str pa_nil)))))))
      (pss_cons (ps_par (i := 3) (j := 4) (by rfl) scNam.nd rfl rfl (by decide) rfl rfl (pa_cons (pe_cl c1 hr (by decide) (by rfl) (pa_cons (pv 0) (pa_cons pe_int pa_nil))) (pa_cons (pe_cl c1 hr (by decide) (by rfl) (pa_cons (pv 0) (pa_cons pe_int pa_nil))) pa_nil)) (by rfl))
      (pss_cons (ps_set (i := 5) scNam.nd rfl (by first | exact .inl rfl | exact .inr rfl) (pe_lst pa_nil))
      (pss_cons (ps_for PassesOwn.never rfl (pi_range1 rfl m_range (pa_cons (pv 1) pa_nil)) (pg_name (i := 7) scNam.nd rfl (by first | exact .inl rfl | exact .inr rfl))
        (pss_cons (ps_set (i := 6) scNam.nd rfl (by first | exact .inl rfl | exact .inr rfl) (pe_ix ix_str pe_str (pe_op op_mod (pe_callTy call_int1 (by rfl) m_int (by decide +kernel) (pa_cons (pe_op op_add (pv 3) (pe_op op_mul pe_int (pv 7))) pa_nil)) pe_int) (fun _ _ => rfl)))
      (pss_one (ps_expr (pe_bm PySem.F.plainAttrs_list PySem.F.slot_list_append PySem.F.type_list_append mt_append (pv 5) (pa_cons (pe_ifExp (pt_cmpR op_eq (pv 4) pe_int (nomark _)) (pe_op op_add_str (pv 6) (pv 2)) (pe_op op_add_str (pv 2) (pv 6))) pa_nil))))))
      (pss_one (ps_ret (pv 5))))))), ?_⟩
    have azL : Str.ofString "abcdefghijklmnopqrstuvwxyz" = S (List.range' 97 26) := by decide +kernel
    have azm : ∀ c ∈ List.range' 97 26, 97 ≤ c ∧ c ≤ 122 := fun c hc => by
      rw [List.mem_range'_1] at hc
      omega
    refine ⟨⟨_, rfl⟩, _, rfl, r, 8, rfl, by decide, by decide, R, fun H1 k g1 k0 k1 => ?_⟩
    obtain ⟨n, rfl⟩ := Int.eq_ofNat_of_zero_le k0
    refine ⟨_, rfl, by omega, by omega, fun D nD => ?_⟩
    obtain ⟨xr, er⟩ := g1.rng.ex
    have nDr : D ≠ r := (ne_of_none er nD).symm
    refine lc_range (lo := 0) (n := (n : Int).toNat)
      (fun i H' => ∃ cs : List Nat, H' D = some (.lst (cs.map fun c => V.str (S [c]))) ∧ (∀ c ∈ cs, 97 ≤ c ∧ c ≤ 122) ∧ cs.length = i ∧ Go r H1 H')
      ⟨[], upd_same, (fun c hc => nomatch hc), rfl, (Go.refl g1.rng).same (same_new nD)⟩ ?_ ?_
    · rintro i H' hi ⟨cs, hD, hc, hn, g⟩
      refine ⟨rfl, _, rfl, r, _, rfl, g.rng, .inr ⟨List.range' 97 26, by rw [azL], by decide, by decide, fun H2 c g2 hcm => ?_⟩⟩
      refine ⟨_, g2.1 _ _ nDr hD, ?_, ?_⟩
      · rw [List.length_map]
        exact small1000 (by omega)
      · refine ⟨cs ++ [c], ?_, fun x hx => ?_, by rw [List.length_append, hn]; rfl, ?_⟩
        · rw [upd_same, List.map_append]
          rfl
        · rcases List.mem_append.mp hx with h | h
          · exact hc x h
          · rw [List.mem_singleton.mp h]; exact azm c hcm
        · exact (g.trans g2).put nD
    rintro H2 ⟨st, hD, hst, hsn, g2⟩
    have hs7 : st.length ≤ 7 := by omega
    refine ⟨_, D, st.map (fun c => S [c]), rfl, rfl, .inl (.inl (.inl ?_)), ?_, ?_⟩
    · rw [hD, List.map_map]
      rfl
    · rw [one_len]
      show st.length + _ * 0 ≤ _
      omega
    rw [joinC]
    have g02 := g1.trans g2
    try dsimp only [gName, tSeq, tAsg, List.set_cons_zero, List.set_cons_succ]
    refine ⟨_, rfl, r, 26, rfl, by decide, by decide, g02.rng, fun H3 f g3 f0 f1 => ⟨_, rfl, r, 2, rfl, by decide, by decide, g3.rng, fun H4 fr g4 _ _ => ⟨_, _, rfl, ?_⟩⟩⟩
    obtain ⟨f, rfl⟩ := Int.eq_ofNat_of_zero_le f0
    have g04 := (g02.trans g3).trans g4
    try dsimp only [gName, tSeq, tAsg, List.set_cons_zero, List.set_cons_succ]
    refine ⟨Nat.zero_le _, fun L nL => ?_⟩
    obtain ⟨xr2, er2⟩ := g04.rng.ex
    have nLr : L ≠ r := (ne_of_none er2 nL).symm
    have nL0 : H L = none := by
      cases e : H L with
      | none => rfl
      | some o => rw [g04.1 _ _ nLr e] at nL; cases nL
    try dsimp only [gName, tSeq, tAsg, List.set_cons_zero, List.set_cons_succ]
    refine ⟨_, rfl, _, rfl, Int.natCast_nonneg _, by omega, ?_⟩
    refine for_range (lo := 0) (n := ((m : Nat) : Int).toNat) (fun i σ H' => ∃ (l : List (List Nat)) (v6 v7 : Option V), σ = [some (.ref r), some (iv m), some (tx st), some (iv f), some (.int fr), some (.ref L), v6, v7] ∧ H' = upd H4 L (.lst (l.map tx)) ∧ l.length = i ∧ ∀ n ∈ l, Nm n)
      ⟨[], none, none, rfl, rfl, rfl, fun _ h => (nomatch h)⟩ ?_ ?_
    · rintro i σ H' hi ⟨l, v6, v7, rfl, rfl, hll, hln⟩
      have hi20 : i < 20 := by omega
      have ei : ((f : Int) + 3 * (0 + (i : Int))) % 26 = (((f + 3 * i) % 26 : Nat) : Int) := by omega
      have ec : (List.range' 97 26)[(f + 3 * i) % 26]? = some (97 + (f + 3 * i) % 26) := by
        rw [List.getElem?_range' (by omega)]
        simp
      refine ⟨_, rfl, _, rfl, _, _, rfl, rfl, .inl ⟨by omega, by omega⟩, _, _, rfl, rfl, .inl ⟨_, rfl, _, _, rfl, rfl, (by show (0 : Int) < 26; decide), ?_⟩⟩
      refine ⟨_, _, 97 + (f + 3 * i) % 26, rfl, rfl, by decide, ?_, ?_⟩
      · show atI (Str.ofString "abcdefghijklmnopqrstuvwxyz").cps.toList (((f : Int) + 3 * (0 + (i : Int))) % 26) = _
        rw [az, ei]
        exact atI_nat ec
      obtain ⟨sg, hsg⟩ : ∃ sg, sg = 97 + (f + 3 * i) % 26 := ⟨_, rfl⟩
      rw [← hsg]
      have hsg2 : 97 ≤ sg ∧ sg ≤ 122 := by omega
      try dsimp only [gName, tSeq, tAsg, List.set_cons_zero, List.set_cons_succ]
      have fin : ∀ nm : List Nat, Nm nm → ∀ ws : List V, ws = [tx nm] → rAppend (.ref L) ws (upd H4 L (.lst (l.map tx))) fun _ H1 => ∃ (l' : List (List Nat)) (v6 v7 : Option V), [some (V.ref r), some (iv m), some (tx st), some (iv f), some (.int fr), some (.ref L), some (tx [sg]), some (.int (0 + (i : Int)))] = [some (.ref r), some (iv m), some (tx st), some (iv f), some (.int fr), some (.ref L), v6, v7] ∧ H1 = upd H4 L (.lst (l'.map tx)) ∧ l'.length = i + 1 ∧ ∀ n ∈ l', Nm n := by
        rintro nm hnm _ rfl
        refine ⟨L, _, _, rfl, rfl, upd_same, by rw [List.length_map]; exact small1000 (by omega), l ++ [nm], _, _, rfl, ?_, by rw [List.length_append, hll]; rfl, fun n hn => ?_⟩
        · rw [upd_upd, List.map_append]
          rfl
        · rcases List.mem_append.mp hn with h | h
          · exact hln n h
          · rw [List.mem_singleton.mp h]; exact hnm
      refine ⟨_, rfl, .inl ⟨rfl, _, sqL upd_same⟩, ?_⟩
      refine ⟨_, rfl, rfl, _, rfl, ?_⟩
      refine ite2 (fun _ => ?_) (fun _ => ?_)
      · refine ⟨_, rfl, _, rfl, _, _, rfl, rfl, by rw [S_len, S_len]; exact small (by show 1 + st.length ≤ 1000; omega), ?_⟩
        rw [S_cat]
        exact fin ([sg] ++ st) ⟨Nat.succ_pos _, by rw [List.length_append]; show 1 + _ ≤ 8; omega, fun c hc => by
          rcases List.mem_append.mp hc with h | h
          · rw [List.mem_singleton.mp h]; exact hsg2
          · exact hst c h⟩ _ rfl
      · refine ⟨_, rfl, _, rfl, _, _, rfl, rfl, by rw [S_len, S_len]; exact small (by show st.length + 1 ≤ 1000; omega), ?_⟩
        rw [S_cat]
        exact fin (st ++ [sg]) ⟨by rw [List.length_append]; exact Nat.succ_pos _, by rw [List.length_append]; show _ + 1 ≤ 8; omega, fun c hc => by
          rcases List.mem_append.mp hc with h | h
          · exact hst c h
          · rw [List.mem_singleton.mp h]; exact hsg2⟩ _ rfl
    · rintro σ H' ⟨l, v6, v7, rfl, rfl, hll, hln⟩
      exact ⟨_, rfl, q _ L l (g04.same (same_new nL)) nL0 upd_same (by omega) hln⟩
end
end Own

namespace Own
open PySem PySem.Spec PyProof.Rows L2 SX RZ
section
variable {P : Program} {w : World} {K : PySem.W.Frag} {mg : Str → Option Value} {base : Heap}
theorem callIsiC {X : Cx} {K : PySem.W.Frag} (h : X.K = K) : CallR X (.builtin "isinstance") (rIsi K) := by subst h; exact call_isi
def WnR (gs : List Nat) (c c' : Cnd.Cd) : Prop := OkC gs c' ∧ Cnd.dpt c' ≤ Cnd.dpt c ∧ Cnd.size c' ≤ Cnd.size c
def PwR (gs : List Nat) : List Cnd.Cd → List Cnd.Cd → Prop
  | [], [] => True
  | c :: cs, d :: ds => WnR gs c d ∧ PwR gs cs ds
  | _, _ => False
theorem PwR.snoc {gs : List Nat} {c d : Cnd.Cd} (h : WnR gs c d) : ∀ {cs ds : List Cnd.Cd}, PwR gs cs ds → PwR gs (cs ++ [c]) (ds ++ [d])
  | [], [], _ => ⟨h, True.intro⟩
  | _ :: _, _ :: _, ⟨a, b⟩ => ⟨a, b.snoc h⟩
  | [], _ :: _, h => h.elim
  | _ :: _, [], h => h.elim
theorem PwR.len {gs : List Nat} : ∀ {cs ds : List Cnd.Cd}, PwR gs cs ds → cs.length = ds.length
  | [], [], _ => rfl
  | _ :: _, _ :: _, ⟨_, b⟩ => congrArg (· + 1) b.len
  | [], _ :: _, h => h.elim
  | _ :: _, [], h => h.elim
theorem CsV.at {H : Hp} : ∀ {cs : List Cnd.Cd} {vs : List V} {i : Nat} {v : V}, CsV H cs vs → vs[i]? = some v → ∃ c, cs[i]? = some c ∧ CdH H c v
  | _ :: _, _ :: _, 0, _, ⟨h, _⟩, e => ⟨_, rfl, by cases e; exact h⟩
  | _ :: _, _ :: _, _ + 1, _, ⟨_, h⟩, e => by
    rw [List.getElem?_cons_succ] at e ⊢
    exact CsV.at h e
  | [], [], _, _, _, e => by cases e
  | [], _ :: _, _, _, h, _ => h.elim
  | _ :: _, [], _, _, h, _ => h.elim
theorem tup_go {H H' : Hp} {r : Addr} (R : Rng H r) (g : Go r H H') : ∀ a xs, H a = some (.tup xs) → H' a = some (.tup xs) := fun a xs e => g.1 _ _ (fun z => by
  obtain ⟨ys, er⟩ := R.ex
  rw [z, er] at e
  cases e) e
theorem kids2 {H : Hp} {gs : List Nat} : ∀ {c : Cnd.Cd} {v : V}, CdH H c v → OkC gs c → ∃ a k els, v = .ref a ∧ H a = some (.tup (.str k :: els)) ∧
    (inV (.str k) kws3 = false ∨ (inV (.str k) kws3 = true ∧ ∃ ds, CsV H ds els ∧ ds.length ≤ 2 ∧ (∀ d ∈ ds, OkC gs d ∧ Cnd.dpt d + 1 ≤ Cnd.dpt c) ∧
      ∀ (H' : Hp) (ds' : List Cnd.Cd) (els' : List V) (T : Addr), PwR gs ds ds' → CsV H' ds' els' → H' T = some (.tup (.str k :: els')) → ∃ c', CdH H' c' (.ref T) ∧ WnR gs c c'))
  | .named n, _, ⟨a, e, h⟩, _ => ⟨a, _, _, e, h, .inl (by decide +kernel)⟩
  | .mat p, _, ⟨a, e, h⟩, _ => ⟨a, _, _, e, h, .inl (by decide +kernel)⟩
  | .len r m, _, ⟨a, e, h⟩, _ => ⟨a, _, _, e, h, .inl (by decide +kernel)⟩
  | .tpl k _ _ x y, _, ⟨a, e, h⟩, _ => ⟨a, _, _, e, h, .inl (by
    match k with
    | 0 | 1 | 2 => decide +kernel
    | _ + 3 => exact (by decide +kernel : inV (.str (Str.ofString "less")) kws3 = false))⟩
  | .no c, _, ⟨a, x, e, h, i⟩, ok => ⟨a, _, _, e, h, .inr ⟨by decide +kernel, [c], ⟨i, True.intro⟩, Nat.le_succ 1, fun d hd => by
      rw [List.mem_singleton.mp hd]
      cases ok with
      | no hc => exact ⟨hc, Nat.le_refl _⟩, fun H' ds' els' T hP hC hT => by
      match ds', els', hP, hC with
      | [d], [y], ⟨⟨w1, w2, w3⟩, _⟩, ⟨hd, _⟩ => exact ⟨.no d, ⟨T, y, rfl, hT, hd⟩, .no w1, Nat.succ_le_succ w2, Nat.succ_le_succ w3⟩
      | _ :: _ :: _, _, ⟨_, h⟩, _ => exact h.elim⟩⟩
  | .two w c1 c2, _, ⟨a, x, y, e, h, i, j⟩, ok => ⟨a, _, _, e, h, .inr ⟨by cases w <;> decide +kernel, [c1, c2], ⟨i, j, True.intro⟩, Nat.le_refl 2, fun d hd => by
      have e : Cnd.dpt (.two w c1 c2) = max (Cnd.dpt c1) (Cnd.dpt c2) + 1 := rfl
      cases ok with
      | two h1 h2 =>
        simp only [List.mem_cons, List.not_mem_nil, or_false] at hd
        rcases hd with rfl | rfl
        · exact ⟨h1, by omega⟩
        · exact ⟨h2, by omega⟩, fun H' ds' els' T hP hC hT => by
      match ds', els', hP, hC with
      | [d1, d2], [y1, y2], ⟨⟨w1, w2, w3⟩, ⟨u1, u2, u3⟩, _⟩, ⟨hd1, hd2, _⟩ =>
        refine ⟨.two w d1 d2, ⟨T, y1, y2, rfl, hT, hd1, hd2⟩, .two w1 u1, ?_, ?_⟩
        · show max (Cnd.dpt d1) (Cnd.dpt d2) + 1 ≤ max (Cnd.dpt c1) (Cnd.dpt c2) + 1
          omega
        · show Cnd.size d1 + Cnd.size d2 + 1 ≤ Cnd.size c1 + Cnd.size c2 + 1
          omega
      | [_], _, ⟨_, h⟩, _ => exact h.elim
      | _ :: _ :: _ :: _, _, ⟨_, _, h⟩, _ => exact h.elim⟩⟩
def spWnm (n : Nat) : Sp := fun vs H Q _ => ∃ (gs : List Nat) (r p : Addr) (c : Cnd.Cd) (v : V) (l : List (List Nat)), vs = [.ref r, v, .ref p] ∧ CdH H c v ∧ OkC gs c ∧ Cnd.dpt c ≤ n ∧ Rng H r ∧ H p = some (.lst (l.map tx)) ∧ p ≠ r ∧ 0 < l.length ∧ l.length ≤ 1000 ∧ (∀ n ∈ l, Nm n) ∧
  ∀ H' v' c', Go r H H' → CdH H' c' v' → WnR gs c c' → Q v' H'
abbrev sWnm : Stmt := topS 62
abbrev wnmN : List Str := ["_law_rng", "_law_my_condition", "_law_names_here", "_law_part"]
theorem scWnm : FnScope wnmN ["_law_rng", "_law_my_condition", "_law_names_here"] (defScope sWnm) := ⟨rfl, rfl, rfl, by decide +kernel, rfl, by decide +kernel, by decide +kernel⟩
theorem ok_wnm {f : Addr} {fd : FuncData} (F : Fun K "_law_with_names" "_law_with_names" sWnm f fd) (m_isinstance : mg "isinstance" = none) (m_str : mg "str" = none) (m_tuple : mg "tuple" = none) {n : Nat} {f1 : Addr} {fd1 : FuncData} (c1 : Cl P w K mg base "_law_draw" 1 ["_law_rng", "_law_sides"] spDraw f1 fd1) {f2 : Addr} {fd2 : FuncData} (c2 : Cl P w K mg base "_law_pick" 2 ["_law_rng", "_law_things"] (spPick K) f2 fd2) {f3 : Addr} {fd3 : FuncData} (c3 : Cl P w K mg base "_law_with_names" (n + 2) ["_law_rng", "_law_my_condition", "_law_names_here"] (spWnm n) f3 fd3) :
    FnOk P w K mg base CX0 (n + 1 + 2) f fd ["_law_rng", "_law_my_condition", "_law_names_here"] (spWnm (n + 1)) := by
  refine F.ok scWnm (fun vs H Q E h => ?_) (fun cdv A outer s H vs Q E hr h => ?_)
  · obtain ⟨gs, r, p, c, v, l, rfl, _⟩ := h
    rfl
  · obtain ⟨gs, r, p, c, v, l, rfl, hv, hok, hdp, R, hp, hpr, hl0, hl1, hln, q⟩ := h
    refine ⟨_, (pss_cons (ps_if (pt_cmpR op_eq (pe_cl c1 hr (by omega) (by rfl) (pa_cons (pv 0) (pa_cons pe_int pa_nil))) pe_int (nomark _)) (pss_one (ps_ret (pe_tup (pa_cons pe_str (pa_cons (pe_cl c2 hr (by omega) (by rfl) (pa_cons (pv 0) (pa_cons (pv 2) pa_nil))) pa_nil))))) pss_nil)
      (pss_cons (ps_if (pt_cmpR op_in_seq (pe_ix (ixT (K := K) rfl) (pv 1) pe_int (fun _ _ => rfl)) (pe_tup (pa_cons pe_str (pa_cons pe_str (pa_cons pe_str pa_nil)))) (by rfl)) (pss_one (ps_ret (pe_callTy call_tuple_of (by rfl) m_tuple (by decide +kernel) (pa_cons (pe_lc (own := [("_law_part", 3)]) (g := gName 3) (tt := tYes)  rfl scWnm.nd (pi_tup (pv 1)) (blkOk_by (N := wnmN) (sc := defScope sWnm) (by decide +kernel)) (fun _ _ _ _ _ => pg_name (i := 3) scWnm.nd rfl (Or.inl rfl)) (fun _ _ _ _ _ => pts_nil) (fun _ _ _ _ _ => (pe_ifExp (pt_val (pe_callB (callIsiC (K := K) rfl) (by rfl) m_isinstance (by decide +kernel) (pa_cons (pv 3) (pa_cons (pe_bltn (v := .ty "str") (u := .type "str") (by rfl) m_str (by decide +kernel) rfl) pa_nil)))) (pv 3) (pe_cl c3 hr (by omega) (by rfl) (pa_cons (pv 0) (pa_cons (pv 3) (pa_cons (pv 2) pa_nil))))))) pa_nil)))) pss_nil)
      (pss_one (ps_ret (pv 1))))), ?_⟩
    refine ⟨_, rfl, r, 4, rfl, by decide, by decide, R, fun H1 k g1 k0 k4 => ⟨rfl, _, rfl, ?_⟩⟩
    have hp1 := g1.1 _ _ hpr hp
    have hv1 := hv.go R g1
    refine ite2 (fun _ => ?_) (fun _ => ?_)
    · refine ⟨_, rfl, _, rfl, r, _, rfl, g1.rng, .inl ⟨p, _, rfl, hpr, sqL hp1, by rw [List.length_map]; exact hl0, by rw [List.length_map]; exact hl1, fun H2 x g2 hx => ⟨(by show 2 ≤ sizeLine; decide), fun T nT => ?_⟩⟩⟩
      obtain ⟨nm, hnm, rfl⟩ := List.mem_map.mp hx
      obtain ⟨a1, a2, a3⟩ := hln nm hnm
      exact q _ (.ref T) (.named nm) ((g1.trans g2).same (same_new nT)) ⟨T, rfl, upd_same⟩ ⟨.named a1 a2 a3, dpt_pos c, Cnd.size_pos c⟩
    obtain ⟨a, k, els, rfl, ha, hk⟩ := kids2 hv1 hok
    refine ⟨_, rfl, a, _, 0, _, rfl, rfl, sqT ha, atI_nat (j := 0) rfl, (by show 3 ≤ sizeLine; decide), fun T nT => ⟨T, _, rfl, .inr (sqT upd_same), rfl, rfl, _, rfl, ?_⟩⟩
    have sT := same_new (o := .tup kws3) nT
    have haT := sT _ _ ha
    have hpT := sT _ _ hp1
    have hvT := hv1.same sT
    have gT := g1.same sT
    rcases hk with k2 | ⟨k2, ds, hds, hdl, hdo, hre⟩
    · rw [show (if false = true then !inV (.str k) kws3 else inV (.str k) kws3) = false from k2]
      refine iteF ?_
      exact ⟨_, rfl, q _ _ c gT hvT ⟨hok, Nat.le_refl _, Nat.le_refl _⟩⟩
    · rw [show (if false = true then !inV (.str k) kws3 else inV (.str k) kws3) = true from k2]
      refine iteT ?_
      have hdT := hds.keep (fun a xs e => sT _ _ e)
      generalize upd H1 T _ = H2 at sT haT hpT hvT gT hdT ⊢
      refine ⟨_, rfl, a, rfl, ⟨_, sqT haT⟩, fun D nD => ?_⟩
      obtain ⟨xr, er⟩ := gT.rng.ex
      have nDr : D ≠ r := (ne_of_none er nD).symm
      have har : a ≠ r := fun e => by rw [e, er] at haT; cases haT
      have hlen := hdT
      refine lc_tup (K := K) (a := a) (xs := .str k :: els) (fun i H' => Go r H2 H' ∧ ∃ (ds' : List Cnd.Cd) (els' : List V), H' D = some (.lst ((V.str k :: els').take i)) ∧ CsV H' ds' els' ∧ PwR gs (ds.take (i - 1)) ds' ∧ els'.length = i - 1)
        ⟨(Go.refl gT.rng).same (same_new nD), [], [], by rw [upd_same]; rfl, True.intro, by rw [Nat.zero_sub, List.take_zero]; exact True.intro, rfl⟩ (fun i H' _ h => sqT (h.1.1 _ _ har haT)) ?_ ?_
      · rintro i x H' hx ⟨g, ds', els', hD, hC, hP, hl⟩
        have hle : els.length ≤ 2 := by rw [← hdT.len]; exact hdl
        cases i with
        | zero =>
          have hx : some (V.str k) = some x := hx
          cases hx
          have hl : els'.length = 0 := hl
          cases els' with
          | cons _ _ => cases hl
          | nil =>
            refine ⟨rfl, _, rfl, .str k, .ty "str", .type "str", .type "str", true, rfl, .ty _, .base (.str k), kit_ty (by decide +kernel), _, rfl, iteT ⟨_, rfl, _, hD, Nat.lt_of_le_of_lt (Nat.zero_le _) (by decide : 0 < sizeLine), g.put nD, ds', [], by rw [upd_same]; rfl, hC.keep (tup_keep hD), hP, rfl⟩⟩
        | succ j =>
          have hx : els[j]? = some x := by rw [List.getElem?_cons_succ] at hx; exact hx
          have hj := (List.getElem?_eq_some_iff.mp hx).1
          obtain ⟨c1, hc1, hx2⟩ := hdT.at hx
          have hx3 := hx2.keep (tup_go gT.rng g)
          obtain ⟨o1, o2⟩ := hdo c1 (List.mem_of_getElem? hc1)
          obtain ⟨b, k3, ys, rfl, hb⟩ := hx3.ref
          refine ⟨rfl, _, rfl, .ref b, .ty "str", .type "tuple", .type "str", false, rfl, .ty _, tyT (sqT hb), kit_ty (by decide +kernel), _, rfl, iteF ?_⟩
          refine ⟨_, rfl, _, rfl, _, rfl, gs, r, p, c1, .ref b, l, rfl, hx3, o1, by omega, g.rng, g.1 _ _ hpr hpT, hpr, hl0, hl1, hln, fun H3 v' c' g3 hv' hw => ?_⟩
          have hD3 := g3.1 _ _ nDr hD
          have hl : els'.length = j := hl
          have ht : (V.str k :: els').take (j + 1) = V.str k :: els' := List.take_of_length_le (by rw [List.length_cons]; omega)
          rw [ht] at hD3
          refine ⟨_, hD3, by rw [List.length_cons, sizeLine_eq]; omega, (g.trans g3).put nD, ds' ++ [c'], els' ++ [v'], ?_, ?_, ?_, ?_⟩
          · rw [upd_same, List.take_of_length_le (by rw [List.length_cons, List.length_append]; show _ + 1 + 1 ≤ _; omega)]
            rfl
          · exact ((hC.keep (tup_go g.rng g3)).keep (tup_keep hD3)).app ⟨hv'.keep (tup_keep hD3), True.intro⟩
          · have et : ds.take (j + 1) = ds.take j ++ [c1] := by rw [List.take_add_one, hc1]; rfl
            show PwR gs (ds.take (j + 1)) _
            rw [et]
            exact hP.snoc hw
          · rw [List.length_append]
            show _ + 1 = j + 1
            omega
      · rintro H' ⟨g, ds', els', hD, hC, hP, hl⟩
        rw [List.length_cons] at hD hP hl
        have hl : els'.length = els.length := hl
        have ht : (V.str k :: els').take (els.length + 1) = V.str k :: els' := List.take_of_length_le (by rw [List.length_cons]; omega)
        rw [ht] at hD
        have hP : PwR gs (ds.take els.length) ds' := hP
        rw [List.take_of_length_le (Nat.le_of_eq hdT.len)] at hP
        refine ⟨_, _, rfl, .inl ⟨sqL hD, fun U nU => ?_⟩⟩
        have sU := same_new (o := .tup (V.str k :: els')) nU
        obtain ⟨c', hc', hw⟩ := hre _ _ _ U hP (hC.keep fun a xs e => sU _ _ e) upd_same
        exact q _ _ c' ((gT.trans g).same sU) hc' hw
theorem wnm_all {f f1 f2 : Addr} {fd fd1 fd2 : FuncData} (F : Fun K "_law_with_names" "_law_with_names" sWnm f fd) (m_isinstance : mg "isinstance" = none) (m_str : mg "str" = none) (m_tuple : mg "tuple" = none) (c1 : Cl P w K mg base "_law_draw" 1 ["_law_rng", "_law_sides"] spDraw f1 fd1) (c2 : Cl P w K mg base "_law_pick" 2 ["_law_rng", "_law_things"] (spPick K) f2 fd2) (b : Binds K fd ["_law_rng", "_law_my_condition", "_law_names_here"] []) (g : mg "_law_with_names" = some (.ref f)) : ∀ n, FnOk P w K mg base CX0 (n + 2) f fd ["_law_rng", "_law_my_condition", "_law_names_here"] (spWnm n)
  | 0 => ⟨fun vs H Q E h => (by obtain ⟨gs, r, p, c, v, l, _, _, _, h, _⟩ := h; exact absurd (dpt_pos c) (by omega)), fun A outer s H args us vs Q E _ _ _ _ h => (by obtain ⟨gs, r, p, c, v, l, _, _, _, h, _⟩ := h; exact absurd (dpt_pos c) (by omega))⟩
  | n + 1 => ok_wnm F m_isinstance m_str m_tuple c1 c2 ⟨wnm_all F m_isinstance m_str m_tuple c1 c2 b g n, g, F.kp, b⟩
end
end Own

namespace Own
open PySem PySem.Spec PyProof.Rows L2 SX RZ
section
variable {P : Program} {w : World} {K : PySem.W.Frag} {mg : Str → Option Value} {base : Heap}
theorem opNotInC {X : Cx} {K : PySem.W.Frag} (h : X.K = K) : OpR X (compareOp .NotIn) (rIn K true) := by subst h; exact op_notIn_seq
def fnd (f : List (List Nat)) : Option Cnd.Cd → List (List Nat)
  | none => f
  | some c => f ++ (nms c).filter (fun x => decide (x ∉ f))
def PtV (H : Hp) : List (Option Cnd.Cd) → List V → Prop
  | [], [] => True
  | none :: os, v :: vs => ((∃ z, v = .str z) ∨ ∃ i, v = .int i) ∧ PtV H os vs
  | some c :: os, v :: vs => CdH H c v ∧ PtV H os vs
  | _, _ => False
theorem PtV.keep {H H' : Hp} (k : ∀ a xs, H a = some (.tup xs) → H' a = some (.tup xs)) : ∀ {os : List (Option Cnd.Cd)} {vs : List V}, PtV H os vs → PtV H' os vs
  | [], [], h => h
  | none :: _, _ :: _, ⟨h, i⟩ => ⟨h, i.keep k⟩
  | some _ :: _, _ :: _, ⟨h, i⟩ => ⟨h.keep k, i.keep k⟩
  | [], _ :: _, h => h.elim
  | none :: _, [], h => h.elim
  | some _ :: _, [], h => h.elim
theorem PtV.at {H : Hp} : ∀ {os : List (Option Cnd.Cd)} {vs : List V} {i : Nat} {v : V}, PtV H os vs → vs[i]? = some v → ∃ o, os[i]? = some o ∧ ((o = none ∧ ((∃ z, v = .str z) ∨ ∃ i, v = .int i)) ∨ ∃ c, o = some c ∧ CdH H c v)
  | none :: _, _ :: _, 0, _, ⟨h, _⟩, e => ⟨_, rfl, .inl ⟨rfl, by cases e; exact h⟩⟩
  | some c :: _, _ :: _, 0, _, ⟨h, _⟩, e => ⟨_, rfl, .inr ⟨c, rfl, by cases e; exact h⟩⟩
  | none :: _, _ :: _, _ + 1, _, ⟨_, h⟩, e => by
    rw [List.getElem?_cons_succ] at e ⊢
    exact PtV.at h e
  | some _ :: _, _ :: _, _ + 1, _, ⟨_, h⟩, e => by
    rw [List.getElem?_cons_succ] at e ⊢
    exact PtV.at h e
  | [], [], _, _, _, e => by cases e
  | [], _ :: _, _, _, h, _ => h.elim
  | none :: _, [], _, _, h, _ => h.elim
  | some _ :: _, [], _, _, h, _ => h.elim
theorem PtV.len {H : Hp} : ∀ {os : List (Option Cnd.Cd)} {vs : List V}, PtV H os vs → os.length = vs.length
  | [], [], _ => rfl
  | none :: _, _ :: _, ⟨_, i⟩ => congrArg (· + 1) i.len
  | some _ :: _, _ :: _, ⟨_, i⟩ => congrArg (· + 1) i.len
  | [], _ :: _, h => h.elim
  | none :: _, [], h => h.elim
  | some _ :: _, [], h => h.elim
theorem nms_len : ∀ c : Cnd.Cd, (nms c).length ≤ Cnd.size c
  | .named _ => Nat.le_refl _
  | .no c => Nat.le_trans (nms_len c) (Nat.le_succ _)
  | .two _ a b => by
    show (nms a ++ (nms b).filter (fun x => decide (x ∉ nms a))).length ≤ Cnd.size a + Cnd.size b + 1
    rw [List.length_append]
    have h1 := nms_len a
    have h2 := nms_len b
    have h3 := List.length_filter_le (fun x => decide (x ∉ nms a)) (nms b)
    omega
  | .mat _ | .len _ _ | .tpl _ _ _ _ _ => Nat.zero_le _
abbrev kws2 : List V := [.str (Str.ofString "named"), .str (Str.ofString "call")]
theorem kids3 {H : Hp} : ∀ {c : Cnd.Cd} {v : V}, CdH H c v → ∃ a k els, v = .ref a ∧ H a = some (.tup (.str k :: els)) ∧
    ((∃ n, c = .named n ∧ k = Str.ofString "named" ∧ els = [tx n]) ∨ (inV (.str k) kws2 = false ∧ 0 < els.length ∧ els.length ≤ 2 ∧ ∃ os, PtV H os els ∧ os.foldl fnd [] = nms c ∧ (∀ d, some d ∈ os → Cnd.dpt d + 1 ≤ Cnd.dpt c ∧ Cnd.size d ≤ Cnd.size c)))
  | .named n, _, ⟨a, e, h⟩ => ⟨a, _, _, e, h, .inl ⟨n, rfl, rfl, rfl⟩⟩
  | .mat p, _, ⟨a, e, h⟩ => ⟨a, _, _, e, h, .inr ⟨by decide +kernel, Nat.succ_pos _, Nat.le_succ 1, [none], ⟨.inl ⟨_, rfl⟩, True.intro⟩, rfl, fun d hd => by simp at hd⟩⟩
  | .len r m, _, ⟨a, e, h⟩ => ⟨a, _, _, e, h, .inr ⟨by decide +kernel, Nat.succ_pos _, Nat.le_refl 2, [none, none], ⟨.inr ⟨_, rfl⟩, .inr ⟨_, rfl⟩, True.intro⟩, rfl, fun d hd => by simp at hd⟩⟩
  | .tpl k _ _ x y, _, ⟨a, e, h⟩ => ⟨a, _, _, e, h, .inr ⟨by
    match k with
    | 0 | 1 | 2 => decide +kernel
    | _ + 3 => exact (by decide +kernel : inV (.str (Str.ofString "less")) kws2 = false), Nat.succ_pos _, Nat.le_refl 2, [none, none], ⟨.inl ⟨_, rfl⟩, .inl ⟨_, rfl⟩, True.intro⟩, rfl, fun d hd => by simp at hd⟩⟩
  | .no c, _, ⟨a, x, e, h, i⟩ => ⟨a, _, _, e, h, .inr ⟨by decide +kernel, Nat.succ_pos _, Nat.le_succ 1, [some c], ⟨i, True.intro⟩, by
      show [] ++ (nms c).filter (fun x => decide (x ∉ [])) = nms c
      exact List.filter_eq_self.mpr fun x _ => by simp, fun d hd => by
      have : d = c := by simpa using hd
      subst this
      exact ⟨Nat.le_refl _, Nat.le_succ _⟩⟩⟩
  | .two w c1 c2, _, ⟨a, x, y, e, h, i, j⟩ => ⟨a, _, _, e, h, .inr ⟨by cases w <;> decide +kernel, Nat.succ_pos _, Nat.le_refl 2, [some c1, some c2], ⟨i, j, True.intro⟩, by
      show fnd ([] ++ (nms c1).filter (fun x => decide (x ∉ []))) (some c2) = nms c1 ++ (nms c2).filter (fun x => decide (x ∉ nms c1))
      rw [show [] ++ (nms c1).filter (fun x => decide (x ∉ [])) = nms c1 from List.filter_eq_self.mpr fun x _ => by simp]
      rfl, fun d hd => by
      have e1 : Cnd.dpt (.two w c1 c2) = max (Cnd.dpt c1) (Cnd.dpt c2) + 1 := rfl
      have e2 : Cnd.size (.two w c1 c2) = Cnd.size c1 + Cnd.size c2 + 1 := rfl
      simp only [List.mem_cons, Option.some.injEq, List.not_mem_nil, or_false] at hd
      rcases hd with rfl | rfl <;> exact ⟨by omega, by omega⟩⟩⟩
def spNof (n : Nat) : Sp := fun vs H Q _ => ∃ (c : Cnd.Cd) (v : V), vs = [v] ∧ CdH H c v ∧ Cnd.dpt c ≤ n ∧ Cnd.size c ≤ 10000 ∧ ∀ H' p, Same H H' → H p = none → H' p = some (.lst ((nms c).map tx)) → Q (.ref p) H'
abbrev sNof : Stmt := topS 63
abbrev nofN : List Str := ["_law_tree", "_law_found", "_law_part", "_law_name"]
theorem scNof : FnScope nofN ["_law_tree"] (defScope sNof) := ⟨rfl, rfl, rfl, by decide +kernel, rfl, by decide +kernel, by decide +kernel⟩
theorem ok_nof {f : Addr} {fd : FuncData} (F : Fun K "_law_names_of" "_law_names_of" sNof f fd) (m_isinstance : mg "isinstance" = none) (m_str : mg "str" = none) (m_tuple : mg "tuple" = none) {n : Nat} {f1 : Addr} {fd1 : FuncData} (c1 : Cl P w K mg base "_law_names_of" n ["_law_tree"] (spNof n) f1 fd1) :
    FnOk P w K mg base CX0 (n + 1) f fd ["_law_tree"] (spNof (n + 1)) := by
  refine F.ok scNof (fun vs H Q E h => ?_) (fun cdv A outer s H vs Q E hr h => ?_)
  · obtain ⟨c, v, rfl, _⟩ := h
    rfl
  · obtain ⟨c, v, rfl, hv, hdp, hsz, q⟩ := h
    refine ⟨_, (pss_cons (ps_if (pt_cmpR op_in_seq (pe_ix (ixT (K := K) rfl) (pv 0) pe_int (fun _ _ => rfl)) (pe_tup (pa_cons pe_str (pa_cons pe_str pa_nil))) (by rfl)) (pss_one (ps_ret (pe_lst (pa_cons (pe_ix (ixT (K := K) rfl) (pv 0) pe_int (fun _ _ => rfl)) pa_nil)))) pss_nil)
      (pss_cons (ps_set (i := 1) scNof.nd rfl (by first | exact .inl rfl | exact .inr rfl) (pe_lst pa_nil))
      (pss_cons (ps_for PassesOwn.never rfl (pi_tup (pe_slice sl_tup (pv 0) (po_some pe_int) po_none)) (pg_name (i := 2) scNof.nd rfl (by first | exact .inl rfl | exact .inr rfl))
        (pss_one (ps_if (pt_val (pe_callB (callIsiC (K := K) rfl) (by rfl) m_isinstance (by decide +kernel) (pa_cons (pv 2) (pa_cons (pe_bltn (v := .ty "tuple") (u := .type "tuple") (by rfl) m_tuple (by decide +kernel) rfl) pa_nil)))) (pss_one (ps_set (i := 1) scNof.nd rfl (by first | exact .inl rfl | exact .inr rfl) (pe_op op_cat (pv 1) (pe_lc (own := [("_law_name", 3)]) (g := gName 3)   rfl scNof.nd (pi_list (pe_cl c1 hr (by omega) (by rfl) (pa_cons (pv 2) pa_nil))) (blkOk_by (N := nofN) (sc := defScope sNof) (by decide +kernel)) (fun _ _ _ _ _ => pg_name (i := 3) scNof.nd rfl (Or.inl rfl)) (fun _ _ _ _ _ => pts_one (pt_cmpR (opNotInC (K := K) rfl) (pv 3) (pv 1) (by rfl))) (fun _ _ _ _ _ => (pv 3)))))) pss_nil)))
      (pss_one (ps_ret (pv 1)))))), ?_⟩
    obtain ⟨a, k, els, rfl, ha, hk⟩ := kids3 hv
    refine ⟨_, rfl, a, _, 0, _, rfl, rfl, sqT ha, atI_nat (j := 0) rfl, (by show 2 ≤ sizeLine; decide), fun T nT => ⟨T, _, rfl, .inr (sqT upd_same), rfl, rfl, _, rfl, ?_⟩⟩
    have sT := same_new (o := .tup kws2) nT
    have haT := sT _ _ ha
    rcases hk with ⟨nm, rfl, rfl, rfl⟩ | ⟨k2, h0, h2, os, hos, hfo, hod⟩
    · rw [show (if false = true then !inV (.str (Str.ofString "named")) kws2 else inV (.str (Str.ofString "named")) kws2) = true by decide +kernel]
      refine iteT ?_
      refine ⟨_, rfl, a, _, 1, _, rfl, rfl, sqT haT, atI_nat (j := 1) rfl, (by show 1 ≤ sizeLine; decide), fun L nL => ?_⟩
      exact q _ L (sT.trans (same_new nL)) (none_of sT nL) upd_same
    rw [show (if false = true then !inV (.str k) kws2 else inV (.str k) kws2) = false from k2]
    refine iteF ?_
    have hosT := hos.keep (fun a xs e => sT _ _ e)
    generalize upd H T _ = H1 at sT haT hosT ⊢
    refine ⟨Nat.zero_le _, fun L nL => ?_⟩
    have sL := same_new (o := .lst []) nL
    have hL : upd H1 L (.lst []) L = some (.lst []) := upd_same
    have haL := sL _ _ haT
    have hosL := hosT.keep (fun a xs e => sL _ _ e)
    have s2 := sT.trans sL
    have nL0 := none_of sT nL
    generalize upd H1 L (.lst []) = H2 at sL hL haL hosL s2 ⊢
    try dsimp only [gName, tSeq, tAsg, List.set_cons_zero, List.set_cons_succ]
    refine ⟨_, rfl, _, rfl, a, _, rfl, sqT haL, ?_, fun U nU => ?_⟩
    · intro h
      have := h.1
      rw [show (some (1 : Int)) = some ((1 : Nat) : Int) from rfl, HT.sIx_nat, List.length_cons] at this
      omega
    rw [show cutV (V.str k :: els) (some 1) none = els from cut_tl]
    have sU := same_new (o := .tup els) nU
    have hU : upd H2 U (.tup els) U = some (.tup els) := upd_same
    have hLU := sU _ _ hL
    have hosU := hosL.keep (fun a xs e => sU _ _ e)
    have s3 := s2.trans sU
    generalize upd H2 U (.tup els) = H3 at sU hU hLU hosU s3 ⊢
    refine ⟨U, rfl, ⟨_, sqT hU⟩, ?_⟩
    refine for_it (walk_tup (K := K) (a := U) (xs := els)) (fun i σ H' => ∃ (L : Addr) (f : List (List Nat)) (v2 v3 : Option V), σ = [some (.ref a), some (.ref L), v2, v3] ∧ Same H H' ∧ Same H3 H' ∧ H L = none ∧ H' L = some (.lst (f.map tx)) ∧ f = (os.take i).foldl fnd [] ∧ f.length ≤ i * 10000)
      ⟨L, [], _, _, rfl, s3, Same.refl _, nL0, hLU, by rw [List.take_zero]; rfl, Nat.zero_le _⟩ (fun i σ H' _ h => by obtain ⟨_, _, _, _, _, _, s, _⟩ := h; exact sqT (s _ _ hU)) ?_ ?_
    · rintro i x σ H4 H5 hi ⟨L1, f, v2, v3, rfl, s4, s34, nL1, hL1, hf, hfl⟩ ⟨rfl, hx⟩
      obtain ⟨o, ho, hcase⟩ := hosU.at hx
      have hfo2 : (os.take (i + 1)).foldl fnd [] = fnd f o := by
        rw [List.take_add_one, ho, List.foldl_append, ← hf]
        rfl
      rcases hcase with ⟨rfl, hso⟩ | ⟨d, rfl, hd⟩
      · rcases hso with ⟨z, rfl⟩ | ⟨z, rfl⟩
        · refine ⟨_, rfl, .str z, .ty "tuple", .type "str", .type "tuple", false, rfl, .ty _, .base (.str z), kit_ty (by decide +kernel), _, rfl, iteF ?_⟩
          exact ⟨L1, f, _, _, rfl, s4, s34, nL1, hL1, hfo2.symm, by omega⟩
        · refine ⟨_, rfl, .int z, .ty "tuple", .type "int", .type "tuple", false, rfl, .ty _, .base (.int z), kit_ty (by decide +kernel), _, rfl, iteF ?_⟩
          exact ⟨L1, f, _, _, rfl, s4, s34, nL1, hL1, hfo2.symm, by omega⟩
      · have hd4 := hd.same s34
        obtain ⟨z1, z2⟩ := hod d (List.mem_of_getElem? ho)
        have hnl := nms_len d
        obtain ⟨b, k3, ys, rfl, hb⟩ := hd4.ref
        refine ⟨_, rfl, .ref b, .ty "tuple", .type "tuple", .type "tuple", true, rfl, .ty _, tyT (sqT hb), kit_ty (by decide +kernel), _, rfl, iteT ?_⟩
        refine ⟨_, rfl, _, rfl, d, .ref b, rfl, hd4, by omega, by omega, fun H6 p s6 np hp => ⟨p, rfl, ⟨_, sqL hp⟩, fun D nD => ?_⟩⟩
        have hL6 := s6 _ _ hL1
        have s46 := s4.trans s6
        refine lc_list (K := K) (a := p) (xs := (nms d).map tx) (fun j H' => Same H6 H' ∧ H' D = some (.lst ((((nms d).take j).filter (fun x => decide (x ∉ f))).map tx))) ⟨same_new nD, by rw [upd_same]; rfl⟩ (fun _ _ _ h => sqL (h.1 _ _ hp)) ?_ ?_
        · rintro j y H' hy ⟨s7, hD⟩
          obtain ⟨nm, hnm, rfl⟩ := get_tx hy
          have hLs := s7 _ _ hL6
          have hj := (List.getElem?_eq_some_iff.mp hnm).1
          refine ⟨rfl, _, rfl, _, rfl, L1, _, rfl, .inl (sqL hLs), rfl, (by rw [List.all_map]; exact List.all_eq_true.mpr fun _ _ => rfl), _, rfl, ?_⟩
          have et : (nms d).take (j + 1) = (nms d).take j ++ [nm] := by rw [List.take_add_one, hnm]; rfl
          show if (!inV (tx nm) (f.map tx)) = true then _ else _
          rw [inV_tx, et, List.filter_append]
          by_cases hmem : nm ∈ f
          · rw [decide_eq_true hmem]
            refine iteF ⟨s7, ?_⟩
            rw [hD, List.filter_cons_of_neg (by simpa using hmem)]
            simp
          · rw [decide_eq_false hmem]
            refine iteT ⟨_, rfl, _, hD, ?_, same_put s7 nD, ?_⟩
            · rw [List.length_map, sizeLine_eq]
              have := List.length_filter_le (fun x => decide (x ∉ f)) ((nms d).take j)
              rw [List.length_take] at this
              omega
            · rw [upd_same, List.filter_cons_of_pos (by simpa using hmem), List.map_append]
              rfl
        · rintro H' ⟨s7, hD⟩
          rw [List.length_map, List.take_length] at hD
          have hLs := s7 _ _ hL6
          have hfl2 := List.length_filter_le (fun x => decide (x ∉ f)) (nms d)
          refine ⟨L1, D, _, _, rfl, rfl, hLs, hD, by rw [List.length_map, List.length_map, sizeLine_eq]; omega, fun M nM => ?_⟩
          have sM := same_new (o := .lst (f.map tx ++ ((nms d).filter (fun x => decide (x ∉ f))).map tx)) nM
          have s47 := (s46.trans s7).trans sM
          refine ⟨M, f ++ (nms d).filter (fun x => decide (x ∉ f)), _, _, rfl, s47, ((s34.trans s6).trans s7).trans sM, none_of (s46.trans s7) nM, by rw [upd_same, List.map_append], hfo2.symm, by rw [List.length_append]; omega⟩
    · rintro σ H4 ⟨L1, f, v2, v3, rfl, s4, s34, nL1, hL1, hf, hfl⟩
      rw [← hosU.len, List.take_length, hfo] at hf
      subst hf
      exact ⟨_, rfl, q _ L1 s4 nL1 hL1⟩
theorem nof_all {f : Addr} {fd : FuncData} (F : Fun K "_law_names_of" "_law_names_of" sNof f fd) (m_isinstance : mg "isinstance" = none) (m_str : mg "str" = none) (m_tuple : mg "tuple" = none) (b : Binds K fd ["_law_tree"] []) (g : mg "_law_names_of" = some (.ref f)) : ∀ n, FnOk P w K mg base CX0 n f fd ["_law_tree"] (spNof n)
  | 0 => ⟨fun vs H Q E h => (by obtain ⟨c, v, _, _, h, _⟩ := h; exact absurd (dpt_pos c) (by omega)), fun A outer s H args us vs Q E _ _ _ _ h => (by obtain ⟨c, v, _, _, h, _⟩ := h; exact absurd (dpt_pos c) (by omega))⟩
  | n + 1 => ok_nof F m_isinstance m_str m_tuple ⟨nof_all F m_isinstance m_str m_tuple b g n, g, F.kp, b⟩
end
end Own

namespace Own
open PySem PySem.Spec PyProof.Rows L2 SX RZ
section
variable {P : Program} {w : World} {K : PySem.W.Frag} {mg : Str → Option Value} {base : Heap}
def kw1 {α : Type} : List α → List α → List α
  | [], [a] => [a]
  | _, _ => []
theorem kw1_rel {vs : List V} {us : List Value} {zs : List V} {ws : List Value} (r : Vals vs us) (z : Vals zs ws) : Vals (kw1 vs zs) (kw1 us ws) := by
  cases r with
  | nil => cases z with
    | nil => exact .nil
    | cons a t => cases t with
      | nil => exact .cons a .nil
      | cons _ _ => exact .nil
  | cons _ _ => exact .nil
def kw2 {α : Type} : List α → List α → List α
  | [], [a, b] => [b, a]
  | _, _ => []
theorem kw2_rel {vs : List V} {us : List Value} {zs : List V} {ws : List Value} (r : Vals vs us) (z : Vals zs ws) : Vals (kw2 vs zs) (kw2 us ws) := by
  cases r with
  | nil => cases z with
    | nil => exact .nil
    | cons a t => cases t with
      | nil => exact .nil
      | cons b t => cases t with
        | nil => exact .cons b (.cons a .nil)
        | cons _ _ => exact .nil
  | cons _ _ => exact .nil
theorem kb_cn {f : Addr} {fd : FuncData} (F : Fun K "condition_names" "condition_names" sNms f fd) : KBinds K fd ["condition"] ["condition"] kw1 kw1 := by
  refine ⟨fun s us ws _ hl => ?_, fun r z => kw1_rel r z⟩
  obtain ⟨oc, od, kV, doc, pm, an, cdv, ct, osl, rfl, lk, hcd⟩ := F.ex
  match us, ws, hl with
  | [], [a], _ => exact .of_eq rfl
theorem kb_pc {f : Addr} {fd : FuncData} (F : Fun K "parse_condition" "parse_condition" sPrs f fd) : KBinds K fd ["letters", "text"] ["text", "letters"] kw2 kw2 := by
  refine ⟨fun s us ws _ hl => ?_, fun r z => kw2_rel r z⟩
  obtain ⟨oc, od, kV, doc, pm, an, cdv, ct, osl, rfl, lk, hcd⟩ := F.ex
  match us, ws, hl with
  | [], [a, b], _ => exact .of_eq rfl
theorem eqd_tup {H : Hp} {m : Nat} {a b : Addr} {xs ys : List V} (h1 : H a = some (.tup xs)) (h2 : H b = some (.tup ys)) (hl : xs.length = ys.length) (h3 : xs.length ≤ 1000) (he : ∀ (i : Nat) u v, xs[i]? = some u → ys[i]? = some v → Eqd K H m u v) : Eqd K H (m + 1) (.ref a) (.ref b) :=
  .inr ⟨a, b, xs, ys, rfl, rfl, .inr ⟨sqT h1, sqT h2⟩, h3, hl, he⟩
theorem eqd_lst {H : Hp} {m : Nat} {a b : Addr} {xs ys : List V} (h1 : H a = some (.lst xs)) (h2 : H b = some (.lst ys)) (hl : xs.length = ys.length) (h3 : xs.length ≤ 1000) (he : ∀ (i : Nat) u v, xs[i]? = some u → ys[i]? = some v → Eqd K H m u v) : Eqd K H (m + 1) (.ref a) (.ref b) :=
  .inr ⟨a, b, xs, ys, rfl, rfl, .inl ⟨sqL h1, sqL h2⟩, h3, hl, he⟩
theorem el2 {H : Hp} {m : Nat} {x1 x2 y1 y2 : V} (h1 : Eqd K H m x1 y1) (h2 : Eqd K H m x2 y2) : ∀ (i : Nat) u v, [x1, x2][i]? = some u → [y1, y2][i]? = some v → Eqd K H m u v
  | 0, _, _, e, f => by cases e; cases f; exact h1
  | 1, _, _, e, f => by cases e; cases f; exact h2
  | _ + 2, _, _, e, _ => by cases e
theorem el3 {H : Hp} {m : Nat} {x1 x2 x3 y1 y2 y3 : V} (h1 : Eqd K H m x1 y1) (h2 : Eqd K H m x2 y2) (h3 : Eqd K H m x3 y3) : ∀ (i : Nat) u v, [x1, x2, x3][i]? = some u → [y1, y2, y3][i]? = some v → Eqd K H m u v
  | 0, _, _, e, f => by cases e; cases f; exact h1
  | 1, _, _, e, f => by cases e; cases f; exact h2
  | 2, _, _, e, f => by cases e; cases f; exact h3
  | _ + 3, _, _, e, _ => by cases e
theorem eqd_cd {H : Hp} : ∀ {c : Cnd.Cd} {x y : V} {n : Nat}, CdH H c x → CdH H c y → Cnd.dpt c + 1 ≤ n → Eqd K H n x y
  | .named m, _, _, n + 2, ⟨a, e, h⟩, ⟨b, e2, h2⟩, _ => by subst e e2; exact eqd_tup h h2 rfl (by show 2 ≤ 1000; decide) (el2 (Eqd.refl trivial) (Eqd.refl trivial))
  | .mat m, _, _, n + 2, ⟨a, e, h⟩, ⟨b, e2, h2⟩, _ => by subst e e2; exact eqd_tup h h2 rfl (by show 2 ≤ 1000; decide) (el2 (Eqd.refl trivial) (Eqd.refl trivial))
  | .len r m, _, _, n + 2, ⟨a, e, h⟩, ⟨b, e2, h2⟩, _ => by subst e e2; exact eqd_tup h h2 rfl (by show 3 ≤ 1000; decide) (el3 (Eqd.refl trivial) (Eqd.refl trivial) (Eqd.refl trivial))
  | .tpl _ _ _ _ _, _, _, n + 2, ⟨a, e, h⟩, ⟨b, e2, h2⟩, _ => by subst e e2; exact eqd_tup h h2 rfl (by show 3 ≤ 1000; decide) (el3 (Eqd.refl trivial) (Eqd.refl trivial) (Eqd.refl trivial))
  | .no c, _, _, n + 2, ⟨a, x, e, h, i⟩, ⟨b, y, e2, h2, j⟩, hn => by
    have hn : Cnd.dpt c + 1 + 1 ≤ n + 2 := hn
    subst e e2; exact eqd_tup h h2 rfl (by show 2 ≤ 1000; decide) (el2 (Eqd.refl trivial) (eqd_cd i j (by omega)))
  | .two w c d, _, _, n + 2, ⟨a, x, x2, e, h, i, i2⟩, ⟨b, y, y2, e2, h2, j, j2⟩, hn => by
    have hn : max (Cnd.dpt c) (Cnd.dpt d) + 1 + 1 ≤ n + 2 := hn
    subst e e2; exact eqd_tup h h2 rfl (by show 3 ≤ 1000; decide) (el3 (Eqd.refl trivial) (eqd_cd i j (by omega)) (eqd_cd i2 j2 (by omega)))
  | c, _, _, 1, _, _, hn => absurd (dpt_pos c) (by omega)
  | c, _, _, 0, _, _, hn => absurd (dpt_pos c) (by omega)
theorem ctx_len {gs : List Nat} (hg : Good gs) {c : Cnd.Cd} (h : OkC gs c) : (Cnd.cTx c).length ≤ 2100 * Cnd.size c := by
  induction h with
  | @named n h0 h8 _ => show (Cnd.namT ++ n).length ≤ 2100 * 1; rw [List.length_append]; show 6 + _ ≤ _; omega
  | @mat p _ hl =>
    have e : (Cnd.matT ++ (40 :: (p ++ [41]))).length = p.length + 7 := by simp
    show (Cnd.matT ++ (40 :: (p ++ [41]))).length ≤ 2100 * 1; omega
  | @len r m h1 h2 =>
    have hdl : ∀ r : Nat, r ≤ 60 → (Cnd.dec r).length ≤ 2 := by decide +kernel
    have a1 := hdl r (by omega)
    have a2 := hdl m h2
    show (Cnd.lenT ++ (40 :: ((Cnd.dec r ++ 44 :: Cnd.dec m) ++ [41]))).length ≤ 2100 * 1
    simp only [List.length_append, List.length_cons, List.length_nil]
    omega
  | @tpl k i j hk hi hj li lj =>
    have a1 := rTx_len hg hi (by omega)
    have a2 := rTx_len hg hj (by omega)
    have a3 : (Cnd.kwT k).length ≤ 6 := by
      match k with
      | 0 | 1 | 2 => decide
      | _ + 3 => show 4 ≤ 6; decide
    show (Cnd.kwT k ++ (40 :: ((rTx gs i ++ 44 :: rTx gs j) ++ [41]))).length ≤ 2100 * 1
    simp only [List.length_append, List.length_cons, List.length_nil]
    omega
  | @no c _ ih => show (Cnd.notT ++ Cnd.cTx c).length ≤ 2100 * (Cnd.size c + 1); rw [List.length_append]; show 4 + _ ≤ _; omega
  | @two w c d _ _ i j =>
    have hw : (Cnd.wdT w).length ≤ 3 := by cases w <;> decide
    show (40 :: (Cnd.cTx c ++ (32 :: (Cnd.wdT w ++ (32 :: (Cnd.cTx d ++ [41])))))).length ≤ 2100 * (Cnd.size c + Cnd.size d + 1)
    simp only [List.length_append, List.length_cons, List.length_nil]
    omega
def deepC : Nat → Cnd.Cd
  | 0 => .mat [97]
  | n + 1 => .no (deepC n)
theorem deep_tx : ∀ n, Cnd.cTx (deepC n) = (List.replicate n Cnd.notT).flatten ++ [109, 97, 116, 99, 104, 40, 97, 41]
  | 0 => rfl
  | n + 1 => by
    show Cnd.notT ++ Cnd.cTx (deepC n) = _
    rw [deep_tx n, List.replicate_succ, List.flatten_cons, List.append_assoc]
theorem deep_ok {gs : List Nat} (hp : Cnd.Pat gs [97]) : ∀ n, OkC gs (deepC n) ∧ Cnd.dpt (deepC n) = n + 1
  | 0 => ⟨.mat hp (by decide), rfl⟩
  | n + 1 => ⟨.no (deep_ok hp n).1, by show Cnd.dpt (deepC n) + 1 = _; rw [(deep_ok hp n).2]⟩
theorem good_ab : Good [97, 98] := ⟨by decide, by decide, by decide, by decide⟩
theorem row_ab : Row [97, 98] [[97, 98], [97]] := fun x hx => by
  simp only [List.mem_cons, List.not_mem_nil, or_false] at hx
  rcases hx with rfl | rfl
  · exact .inr (List.Perm.refl _)
  · exact .inl ⟨97, by decide, rfl⟩
abbrev lastC : Cnd.Cd := .tpl 0 [123, 97, 98, 125, 97] [123, 125, 97] (rTx [97, 98] [[97, 98], [97]]) (rTx [97, 98] [[97, 98], [97]])
def spLaw (K : PySem.W.Frag) : Sp := fun vs H Q _ => ∃ (a : Addr) (ns : List Int), vs = [.ref a] ∧ SqL K H a (ns.map V.int) ∧ ∀ H', Q (.bl true) H'
abbrev sLaw : Stmt := topS 64
abbrev lawN : List Str := ["_law_script", "_law_rng", "_law_turn_here", "_law_good", "_law_names_here", "_law_made", "_law_shown", "_law_found", "_law_deep"]
theorem scLaw : FnScope lawN ["_law_script"] (defScope sLaw) := ⟨rfl, rfl, rfl, by decide +kernel, rfl, by decide +kernel, by decide +kernel⟩
theorem ok_law {f : Addr} {fd : FuncData} (F : Fun K "law" "law" sLaw f fd) (m_range : mg "range" = none) {f1 : Addr} {fd1 : FuncData} (c1 : Cl P w K mg base "_law_draws" 1 ["_law_script"] (spDraws K) f1 fd1) {f2 : Addr} {fd2 : FuncData} (c2 : Cl P w K mg base "_law_draw" 1 ["_law_rng", "_law_sides"] spDraw f2 fd2) {f3 : Addr} {fd3 : FuncData} (c3 : Cl P w K mg base "_law_letters" 3 ["_law_rng", "_law_most"] spLetters f3 fd3) {f4 : Addr} {fd4 : FuncData} (c4 : Cl P w K mg base "_law_names" 3 ["_law_rng", "_law_many"] spNam f4 fd4) {f5 : Addr} {fd5 : FuncData} (c5 : Cl P w K mg base "_law_condition" 13 ["_law_rng", "_law_signs", "_law_deep", "_law_most"] (spCon 5) f5 fd5) {f6 : Addr} {fd6 : FuncData} (c6 : Cl P w K mg base "_law_with_names" 7 ["_law_rng", "_law_my_condition", "_law_names_here"] (spWnm 5) f6 fd6) {f7 : Addr} {fd7 : FuncData} (c7 : Cl P w K mg base "_law_condition_text" 5 ["_law_my_condition"] (spCtx 5) f7 fd7) {f8 : Addr} {fd8 : FuncData} (c8 : Cl P w K mg base "_law_same" 9 ["_law_found", "_law_due"] (spSm K 9) f8 fd8) {f9 : Addr} {fd9 : FuncData} (c9 : Cl P w K mg base "format_condition" 20 ["condition"] (spFmt 20) f9 fd9) {f10 : Addr} {fd10 : FuncData} (c10 : Cl P w K mg base "parse_condition" 10 ["letters", "text"] spPrs f10 fd10) {f11 : Addr} {fd11 : FuncData} (c11 : Cl P w K mg base "condition_names" 1 ["condition"] spNms f11 fd11) {f12 : Addr} {fd12 : FuncData} (c12 : Cl P w K mg base "_law_names_of" 5 ["_law_tree"] (spNof 5) f12 fd12) (kb_condition_names : KBinds K fd11 ["condition"] ["condition"] kw1 kw1) (kb_parse_condition : KBinds K fd10 ["letters", "text"] ["text", "letters"] kw2 kw2) (gMM : ∃ t, mg "MOST_MODULUS" = some (.int 60 t)) :
    FnOk P w K mg base CX0 21 f fd ["_law_script"] (spLaw K) := by
  refine F.ok scLaw (fun vs H Q E h => ?_) (fun cdv A outer s H vs Q E hr h => ?_)
  · obtain ⟨a, ns, rfl, _⟩ := h
    rfl
  · obtain ⟨a, ns, rfl, hs, q⟩ := h
    obtain ⟨tMM, eMM⟩ := gMM
    refine ⟨_, (pss_cons (ps_set (i := 1) scLaw.nd rfl (by first | exact .inl rfl | exact .inr rfl) (pe_cl c1 hr (by decide) (by rfl) (pa_cons (pv 0) pa_nil)))
      (pss_cons (ps_for PassesOwn.never rfl (pi_range1 rfl m_range (pa_cons pe_int pa_nil)) (pg_name (i := 2) scLaw.nd rfl (by first | exact .inl rfl | exact .inr rfl))
        (pss_cons (ps_par (i := 3) (j := 4) (by rfl) scLaw.nd rfl rfl (by decide) rfl rfl (pa_cons (pe_cl c3 hr (by decide) (by rfl) (pa_cons (pv 1) (pa_cons pe_int pa_nil))) (pa_cons (pe_cl c4 hr (by decide) (by rfl) (pa_cons (pv 1) (pa_cons pe_int pa_nil))) pa_nil)) (by rfl))
      (pss_cons (ps_set (i := 5) scLaw.nd rfl (by first | exact .inl rfl | exact .inr rfl) (pe_cl c5 hr (by decide) (by rfl) (pa_cons (pv 1) (pa_cons (pv 3) (pa_cons pe_int (pa_cons pe_int pa_nil))))))
      (C8.pss_cut (ps_if (pt_cmpR op_eq (pe_cl c2 hr (by decide) (by rfl) (pa_cons (pv 1) (pa_cons pe_int pa_nil))) pe_int (nomark _)) (pss_one (ps_set (i := 5) scLaw.nd rfl (by first | exact .inl rfl | exact .inr rfl) (pe_cl c6 hr (by decide) (by rfl) (pa_cons (pv 1) (pa_cons (pv 5) (pa_cons (pv 4) pa_nil)))))) pss_nil)
      (pss_cons (ps_set (i := 6) scLaw.nd rfl (by first | exact .inl rfl | exact .inr rfl) (pe_cl c7 hr (by decide) (by rfl) (pa_cons (pv 5) pa_nil)))
      (pss_cons (ps_if (pt_not (pt_val (pe_cl c8 hr (by decide) (by rfl) (pa_cons (pe_lst (pa_cons (pe_cl c9 hr (by decide) (by rfl) (pa_cons (pv 5) pa_nil)) (pa_cons (pe_cl c10 hr (by decide) (by rfl) (pa_cons (pv 3) (pa_cons (pv 6) pa_nil))) pa_nil))) (pa_cons (pe_lst (pa_cons (pv 6) (pa_cons (pv 5) pa_nil))) pa_nil))))) pss_never pss_nil)
      (pss_cons (ps_set (i := 7) scLaw.nd rfl (by first | exact .inl rfl | exact .inr rfl) (pe_cl c11 hr (by decide) (by rfl) (pa_cons (pv 5) pa_nil)))
      (pss_cons (ps_if (pt_not (pt_val (pe_cl c8 hr (by decide) (by rfl) (pa_cons (pv 7) (pa_cons (pe_cl c12 hr (by decide) (by rfl) (pa_cons (pv 5) pa_nil)) pa_nil))))) pss_never pss_nil)
      (pss_cons (ps_expr (pe_bm PySem.F.plainAttrs_list PySem.F.slot_list_append PySem.F.type_list_append mt_append (pv 7) (pa_cons pe_str pa_nil)))
      (pss_one (ps_if (pt_not (pt_val (pe_cl c8 hr (by decide) (by rfl) (pa_cons (pe_kw c11 hr (by decide) (by rfl) kb_condition_names (pk_cons (pv 5) pk_nil)) (pa_cons (pe_cl c12 hr (by decide) (by rfl) (pa_cons (pv 5) pa_nil)) pa_nil))))) pss_never pss_nil)))))))))))
      (pss_cons (ps_set (i := 8) scLaw.nd rfl (by first | exact .inl rfl | exact .inr rfl) (pe_op op_add_str (pe_op op_repS pe_str pe_int) pe_str))
      (pss_cons (ps_if (pt_cmpR op_ne (pe_cl c9 hr (by decide) (by rfl) (pa_cons (pe_cl c10 hr (by decide) (by rfl) (pa_cons pe_str (pa_cons (pv 8) pa_nil))) pa_nil)) (pv 8) (nomark _)) pss_never pss_nil)
      (pss_cons (ps_set (i := 7) scLaw.nd rfl (by first | exact .inl rfl | exact .inr rfl) (pe_kw c10 hr (by decide) (by rfl) kb_parse_condition (pk_cons pe_str (pk_cons pe_str pk_nil))))
      (pss_one (ps_ret (L2.pe_and (pe_cmpR (op_eqD hr.units) (pv 7) (pe_tup (pa_cons pe_str (pa_cons pe_str (pa_cons pe_str pa_nil)))) (nomark _)) (pe_one (pe_cmpR op_eq (pe_glob (v := .int 60) (by rfl) eMM ⟨_, rfl⟩) pe_int (nomark _))))))))))), ?_⟩
    refine ⟨_, rfl, a, ns, rfl, hs, fun H1 r s1 nr R => ?_⟩
    try dsimp only [gName, tSeq, tAsg, List.set_cons_zero, List.set_cons_succ]
    refine ⟨6, rfl, by decide, by decide, ?_⟩
    refine for_range (lo := 0) (n := (6 : Int).toNat) (fun i σ H' => ∃ v2 v3 v4 v5 v6 v7 : Option V, σ = [some (.ref a), some (.ref r), v2, v3, v4, v5, v6, v7, none] ∧ Go r H1 H') ⟨_, _, _, _, _, _, rfl, Go.refl R⟩ ?_ ?_
    · rintro i σ H2 hi ⟨v2, v3, v4, v5, v6, v7, rfl, g2⟩
      refine ⟨_, rfl, r, 4, rfl, by decide, g2.rng, fun H3 gs g3 hg hl4 => ⟨_, rfl, r, 3, rfl, by decide, g3.rng, fun H4 p l g4 np hp hll hln => ⟨_, _, rfl, ?_⟩⟩⟩
      try dsimp only [gName, tSeq, tAsg, List.set_cons_zero, List.set_cons_succ]
      have gA := g3.trans g4
      obtain ⟨xr, er⟩ := g3.rng.ex
      have hpr : p ≠ r := (ne_of_none er np).symm
      refine ⟨_, rfl, _, rfl, r, gs, 4, 3, rfl, hg, by decide, by decide, g4.rng, fun H5 v c g5 hv hok hdp hsz => ?_⟩
      have hp5 := g5.1 _ _ hpr hp
      try dsimp only [gName, tSeq, tAsg, List.set_cons_zero, List.set_cons_succ]
      refine ⟨fun σ H' => ∃ (c : Cnd.Cd) (v : V), σ = [some (.ref a), some (.ref r), some (.int (0 + (i : Int))), some (tx gs), some (.ref p), some v, v6, v7, none] ∧ Go r H1 H' ∧ CdH H' c v ∧ OkC gs c ∧ Cnd.dpt c ≤ 5 ∧ Cnd.size c ≤ 31, ?_, ?_⟩
      · refine ⟨_, rfl, r, 2, rfl, by decide, by decide, g5.rng, fun H6 k g6 _ _ => ⟨rfl, _, rfl, ?_⟩⟩
        have hv6 := hv.go g5.rng g6
        have hp6 := g6.1 _ _ hpr hp5
        have g16 := ((g2.trans gA).trans g5).trans g6
        refine ite2 (fun _ => ?_) (fun _ => ?_)
        · refine ⟨_, rfl, _, rfl, _, rfl, gs, r, p, c, v, l, rfl, hv6, hok, hdp, g6.rng, hp6, hpr, by omega, by omega, hln, fun H7 v' c' g7 hv' hw => ?_⟩
          have : 2 ^ (4 + 1) = 32 := rfl
          exact ⟨c', v', rfl, g16.trans g7, hv', hw.1, Nat.le_trans hw.2.1 hdp, by have := hw.2.2; omega⟩
        · have : 2 ^ (4 + 1) = 32 := rfl
          exact ⟨c, v, rfl, g16, hv6, hok, hdp, by omega⟩
      clear hv hok hdp hsz
      rintro σ H6 ⟨c, v, rfl, g6, hv, hok, hdp, hsz⟩
      have hlen := ctx_len hg hok
      refine ⟨_, rfl, gs, c, v, rfl, hok, hv, hdp, by omega, fun H7 s7 => ?_⟩
      try dsimp only [gName, tSeq, tAsg, List.set_cons_zero, List.set_cons_succ]
      have hv7 := hv.same s7
      refine ⟨_, rfl, gs, c, v, rfl, hg, hok, hv7, by omega, by omega, fun H8 s8 => ⟨_, rfl, _, rfl, gs, c, rfl, hg, by omega, hok.src hg, by omega, fun H9 v2 s9 hv2 => ⟨(by show 2 ≤ sizeLine; decide), fun L nL => ⟨_, rfl, _, rfl, (by show 2 ≤ sizeLine; decide), fun M nM => ?_⟩⟩⟩⟩
      have sL := same_new (o := .lst [tx (Cnd.cTx c), v2]) nL
      have sM := same_new (o := .lst [tx (Cnd.cTx c), v]) nM
      have s79 := ((s8.trans s9).trans sL).trans sM
      refine ⟨_, _, rfl, eqd_lst (m := 8) (sM _ _ upd_same) upd_same rfl (by show 2 ≤ 1000; decide) (el2 (Eqd.refl trivial) (eqd_cd ((hv2.same sL).same sM) (hv7.same s79) (by omega))), fun H10 s10 => ⟨_, rfl, iteF ?_⟩⟩
      have s7t := s7.trans (s79.trans s10)
      have hv10 := hv.same s7t
      refine ⟨_, rfl, c, v, rfl, hv10, by omega, fun H11 q1 s11 nq1 hq1 => ?_⟩
      try dsimp only [gName, tSeq, tAsg, List.set_cons_zero, List.set_cons_succ]
      have hnl := nms_len c
      have hv11 := hv10.same s11
      refine ⟨_, rfl, _, rfl, c, v, rfl, hv11, hdp, by omega, fun H12 q2 s12 nq2 hq2 => ?_⟩
      refine ⟨_, _, rfl, eqd_lst (m := 8) (s12 _ _ hq1) hq2 rfl (by rw [List.length_map]; omega) (fun j u w e f => by rw [e] at f; cases f; obtain ⟨z, _, rfl⟩ := get_tx e; exact Eqd.refl trivial), fun H13 s13 => ⟨_, rfl, iteF ?_⟩⟩
      have hq13 := s13 _ _ (s12 _ _ hq1)
      refine ⟨_, rfl, .inl ⟨rfl, _, sqL hq13⟩, q1, _, _, rfl, rfl, hq13, by rw [List.length_map, sizeLine_eq]; omega, ?_⟩
      have s14 : Same H10 (upd H13 q1 (.lst ((nms c).map tx ++ [.str (Str.ofString "zzz")]))) := same_put ((s11.trans s12).trans s13) nq1
      have hv14 := hv10.same s14
      generalize upd H13 q1 (.lst ((nms c).map tx ++ [.str (Str.ofString "zzz")])) = H14 at s14 hv14 ⊢
      refine ⟨_, rfl, c, v, rfl, hv14, by omega, fun H15 q3 s15 nq3 hq3 => ?_⟩
      refine ⟨_, rfl, c, v, rfl, hv14.same s15, hdp, by omega, fun H16 q4 s16 nq4 hq4 => ?_⟩
      refine ⟨_, _, rfl, eqd_lst (m := 8) (s16 _ _ hq3) hq4 rfl (by rw [List.length_map]; omega) (fun j u w e f => by rw [e] at f; cases f; obtain ⟨z, _, rfl⟩ := get_tx e; exact Eqd.refl trivial), fun H17 s17 => ⟨_, rfl, iteF ?_⟩⟩
      exact ⟨_, _, _, _, _, _, rfl, g6.same (s7t.trans (s14.trans (s15.trans (s16.trans s17))))⟩
    · rintro σ H2 ⟨v2, v3, v4, v5, v6, v7, rfl, g2⟩
      have eab : Str.ofString "ab" = S [97, 98] := rfl
      have en : Str.ofString "not " = S Cnd.notT := rfl
      have em : Str.ofString "match(a)" = S [109, 97, 116, 99, 104, 40, 97, 41] := rfl
      have hp : Cnd.Pat [97, 98] [97] := Cnd.Pat.one good_ab.az (.inl (by decide))
      obtain ⟨hdo, hdd⟩ := deep_ok hp 19
      have hdt := deep_tx 19
      have hdl : (Cnd.cTx (deepC 19)).length = 84 := by rw [hdt]; decide +kernel
      refine ⟨Cnd.notT, 19, by rw [en], rfl, by decide, by decide, _, _, rfl, rfl, by rw [em, S_len, S_len, sizeLine_eq]; decide +kernel, ?_⟩
      rw [em, S_cat, ← hdt]
      try dsimp only [gName, tSeq, tAsg, List.set_cons_zero, List.set_cons_succ]
      refine ⟨_, rfl, [97, 98], deepC 19, by rw [eab]; rfl, good_ab, by omega, hdo.src good_ab, by omega, fun H3 v s3 hv => ⟨[97, 98], deepC 19, v, rfl, good_ab, hdo, hv, by omega, by omega, fun H4 s4 => ?_⟩⟩
      refine ⟨_, rfl, rfl, _, rfl, ?_⟩
      rw [decide_eq_true rfl]
      refine iteF ?_
      refine ⟨[97, 98], lastC, ?_, good_ab, by decide +kernel, ?_, by decide, fun H5 v s5 hv5 => ?_⟩
      · show [V.str (Str.ofString "ab"), V.str (Str.ofString "same({ab}a,{}a)")] = _
        rw [eab]
        rfl
      · refine .tpl (by decide) row_ab row_ab (by decide) (by decide) (.inr ⟨by decide, [[123, 97, 98, 125], [97]], .cons (.turn (List.Perm.refl _)) (.cons (.one (by decide)) .nil), rfl⟩) (.inr ⟨by decide, [[123, 125], [97]], .cons .plain (.cons (.one (by decide)) .nil), rfl⟩) (by decide) (by decide) (by decide) (by decide)
      try dsimp only [gName, tSeq, tAsg, List.set_cons_zero, List.set_cons_succ]
      refine ⟨_, rfl, (by show 3 ≤ sizeLine; decide), fun T nT => ?_⟩
      have sT := same_new (o := .tup [V.str (Str.ofString "same"), V.str (Str.ofString "{}a"), V.str (Str.ofString "{}a")]) nT
      have hv6 := hv5.same sT
      refine ⟨cdD lastC, .tuple [.str (Str.ofString "same"), .str (Str.ofString "{}a"), .str (Str.ofString "{}a")], dp_cd hv6, .tup (sqT upd_same) (.cons (.str _) (.cons (.str _) (.cons (.str _) .nil))), by decide +kernel, by decide +kernel, ?_⟩
      rw [show PyData.eqv (cdD lastC) (.tuple [.str (Str.ofString "same"), .str (Str.ofString "{}a"), .str (Str.ofString "{}a")]) = true by decide +kernel]
      refine ⟨true, rfl, iteT ?_⟩
      refine ⟨rfl, ?_⟩
      rw [decide_eq_true rfl]
      exact q _
end
end Own

namespace Own
open PySem PySem.Spec PyProof.Rows L2 SX
/-! ### a head told by facts: one Bool over the written part, the defs, the tables of code objects -/
abbrev Fct : Type := PySem.W.Frag → Bool
/-- the table of a def's code object -/
def codT (K : PySem.W.Frag) (f : Addr) : Addr × Addr := match K.lookup f with
  | some ⟨_, _, .func fd, _⟩ => (match fd.code with
    | .ref c => (c, He.tabOf K c)
    | _ => (0, 0))
  | _ => (0, 0)
structure Told (fs : List Fct) (fn : List He5.DefA) (tf : List (PySem.W.Frag → Addr)) (h : Heap) (K : PySem.W.Frag) : Prop where
  facts : (fs.all fun f => f K) = true
  oks : (fn.all fun d => d.ok K) = true
  defs : (fn.map fun d => He5.fnA K (d.at_ K)) = fn.map He5.DefA.val
  hd : ∀ p ∈ tf, PySem.W.codeHdIn K (codT K (p K)).1 (codT K (p K)).2 = true
  out : ∀ p ∈ tf, K.lookup (codT K (p K)).2 = none
  empty : ∀ p ∈ tf, h.get? (codT K (p K)).2 = some { cls := .none, data := .fields #[] }
def tabB (g : Addr → Option Obj) (tf : List (PySem.W.Frag → Addr)) (K : PySem.W.Frag) : Bool := tf.all fun p => PySem.W.codeHdIn K (codT K (p K)).1 (codT K (p K)).2 && (match g (codT K (p K)).2 with
  | some o => He.emptyTab o
  | none => false)
abbrev partO (n : List Addr) (g : Addr → Option Obj) : PySem.W.Frag := He.frT g n
def obsO (n : List Addr) (fs : List Fct) (fn : List He5.DefA) (tf : List (PySem.W.Frag → Addr)) (g : Addr → Option Obj) : Bool × List He.FnW :=
  ((fs.all fun f => f (partO n g)) && ((fn.all fun d => d.ok (partO n g)) && tabB g tf (partO n g)), fn.map fun d => He5.fnA (partO n g) (d.at_ (partO n g)))
theorem told_of {n : List Addr} {fs : List Fct} {fn : List He5.DefA} {tf : List (PySem.W.Frag → Addr)} {h : Heap} (e : obsO n fs fn tf h.get? = (true, fn.map He5.DefA.val)) : Told fs fn tf h (partO n h.get?) := by
  obtain ⟨e1, e2⟩ := Prod.mk.injEq .. ▸ e
  obtain ⟨c1, c2⟩ := Bool.and_eq_true_iff.mp e1
  obtain ⟨c3, c4⟩ := Bool.and_eq_true_iff.mp c2
  have each : ∀ p ∈ tf, PySem.W.codeHdIn (partO n h.get?) (codT (partO n h.get?) (p (partO n h.get?))).1 (codT (partO n h.get?) (p (partO n h.get?))).2 = true ∧ ∃ o, h.get? (codT (partO n h.get?) (p (partO n h.get?))).2 = some o ∧ He.emptyTab o = true := fun p hp => by
    obtain ⟨d1, d2⟩ := Bool.and_eq_true_iff.mp (List.all_eq_true.mp c4 p hp)
    refine ⟨d1, ?_⟩
    generalize h.get? (codT (partO n h.get?) (p (partO n h.get?))).2 = x at d2
    cases x with
    | none => cases d2
    | some o => exact ⟨o, rfl, d2⟩
  refine ⟨c1, c3, e2, fun p hp => (each p hp).1, fun p hp => ?_, fun p hp => ?_⟩
  · obtain ⟨_, o, q, z⟩ := each p hp
    exact He.frT_none q z
  · obtain ⟨_, o, q, z⟩ := each p hp
    rw [q, He.emptyTab_eq z]
section
variable {fs : List Fct} {fn : List He5.DefA} {tf : List (PySem.W.Frag → Addr)} {h : Heap} {K : PySem.W.Frag}
theorem Told.fact (c : Told fs fn tf h K) (i : Nat) {f : Fct} (e : fs[i]? = some f := by rfl) : f K = true := List.all_eq_true.mp c.facts f (List.mem_of_getElem? e)
theorem Told.def_ (c : Told fs fn tf h K) (i : Nat) {d : He5.DefA} (e : fn[i]? = some d := by rfl) : ∃ fd, FunD K d.name d.qual d.params d.body d.scope (d.dvs K) (d.kws K) (d.at_ K) fd := by
  have e2 : (fn.map fun d => He5.fnA K (d.at_ K))[i]? = (fn.map He5.DefA.val)[i]? := by rw [c.defs]
  rw [List.getElem?_map, List.getElem?_map, e] at e2
  exact He5.DefA.funD (Option.some.inj e2) (List.all_eq_true.mp c.oks d (List.mem_of_getElem? e))
end
/-! ### facts -/
abbrev faB (f : He.Fa) : Fct := fun K => f.ok K
/-- an own def, where it stands -/
abbrev dG (x : Str) (st : Stmt) : He5.DefA := { at_ := fun K => He.ga K x, name := x, qual := x, params := defArgs st, body := defBody st, scope := defScope st }
abbrev dM (C m q : Str) (st : Stmt) : He5.DefA := { at_ := fun K => He.ma K (He.ga K C) m, name := m, qual := q, params := defArgs st, body := defBody st, scope := defScope st }
/-- behind world's special-get-raises both ways -/
theorem two_ways {R : PySem.W.OpenRow} {q : Program} {H : PySem.W.Hook} {ob : PySem.W.SharedT → H.α} {M : Nat} {loose : List Str} (hf : ∀ w : World, HandSHeadRun.RunEq R q H ob M loose (w.withFollow "special-get-raises" false))
    (ht : ∀ w : World, HandSHeadRun.RunEq R q H ob M loose (w.withFollow "special-get-raises" true)) (w : World) : HandSHeadRun.RunEq R q H ob M loose w := PySem.W.byRow2 "special-get-raises" hf ht w
end Own

namespace Own
open PySem PySem.Spec PyProof.Rows L2 SX
/-! ### a head told by facts, with dicts of the top: their keys' hashes are the world's own -/
abbrev DcA : Type := (PySem.W.Frag → Addr) × List Str
def obsD (n : List Addr) (fs : List Fct) (fn : List He5.DefA) (tf : List (PySem.W.Frag → Addr)) (dk : List DcA) (g : Addr → Option Obj) : (Bool × List He.FnW) × List (Option (List (Option (Str × Int)))) :=
  (obsO n fs fn tf g, dk.map fun d : DcA => He.dicW (partO n g) (d.1 (partO n g)))
structure ToldD (fs : List Fct) (fn : List He5.DefA) (tf : List (PySem.W.Frag → Addr)) (dk : List DcA) (w : World) (h : Heap) (K : PySem.W.Frag) : Prop where
  told : Told fs fn tf h K
  dics : dk.map (fun d : DcA => He.dicW K (d.1 K)) = dk.map fun d : DcA => some (He.keysIn w.params d.2)
def hookD (n : List Addr) (fs : List Fct) (fn : List He5.DefA) (tf : List (PySem.W.Frag → Addr)) (dk : List DcA) : PySem.W.Hook where
  α := (Bool × List He.FnW) × List (Option (List (Option (Str × Int))))
  obs := fun s => obsD n fs fn tf dk s.heap.get?
  val := fun w => ((true, fn.map He5.DefA.val), dk.map fun d : DcA => some (He.keysIn w.params d.2))
  says := fun w h => ∃ K : PySem.W.Frag, K.In h ∧ ToldD fs fn tf dk w h K
  of := fun _ _ e => ⟨_, He.frT_in, told_of (congrArg Prod.fst e), congrArg Prod.snd e⟩
  keeps := fun _ _ _ ⟨K, hK, c⟩ k => ⟨K, PySem.W.Frag.In.keeps hK k, ⟨⟨c.told.facts, c.told.oks, c.told.defs, c.told.hd, c.told.out, fun p hp => k _ _ (c.told.empty p hp)⟩, c.dics⟩⟩
theorem obsD_eq {n : List Addr} {fs : List Fct} {fn : List He5.DefA} {tf : List (PySem.W.Frag → Addr)} {dk : List DcA} (s : PySem.W.SharedT) : obsD n fs fn tf dk (HandSHeadRun.getT s) = (hookD n fs fn tf dk).obs s.abs := by
  have e : HandSHeadRun.getT s = s.abs.heap.get? := funext (HandSHeadRun.getT_eq s)
  rw [e]
  rfl
theorem ToldD.dic {fs : List Fct} {fn : List He5.DefA} {tf : List (PySem.W.Frag → Addr)} {dk : List DcA} {w : World} {h : Heap} {K : PySem.W.Frag} (c : ToldD fs fn tf dk w h K) (i : Nat) {d : DcA} (e : dk[i]? = some d := by rfl) : ∃ es n, KDict K w (d.1 K) es n := by
  have h1 := congrArg (fun l : List (Option (List (Option (Str × Int)))) => l[i]?) c.dics
  simp only [List.getElem?_map, e] at h1
  exact He.dicW_ok (Option.some.inj h1)
end Own

namespace Own
open PySem PySem.Spec PyProof.Rows L2 SX
def hnames0 : List Str := ["_wall", "FillError", "InvalidLetters", "UnknownLetter", "LettersDiffer", "ParseError", "InvalidText", "LEAST_LETTERS", "MOST_LETTERS", "LOWERCASE", "check_letters", "check_same_letters", "check_text", "is_turn", "EMPTY_TEXT", "PLAIN_BLANK", "is_blank", "blank_width", "read_row", "item_text"]
def hnames1 : List Str := ["row_text", "text_parts", "row_parts", "Template", "can_stand", "check_pattern", "MOST_MODULUS", "MOST_NAME", "HOLDING_WORDS", "read_name", "template_text", "closing_place", "two_parts", "match_of", "length_of", "templates_of", "read_simple", "begun_conditions", "linking_word", "read_condition"]
def hnames2 : List Str := ["parse_condition", "format_condition", "condition_names", "_law_draws", "_law_draw", "_law_pick", "_law_same", "_law_letters", "_law_turn", "_law_items", "_law_text", "_law_pattern", "_law_leaf", "_law_condition", "_law_condition_text", "_law_names", "_law_with_names", "_law_names_of"]
abbrev hnames : List Str := hnames0 ++ hnames1 ++ hnames2
abbrev hfs : List Fct := [faB (.glo "check_letters"), faB (.glo "is_turn"), faB (.glo "is_blank"), faB (.glo "blank_width"), faB (.glo "read_row"), faB (.glo "item_text"), faB (.glo "row_text"), faB (.mkr "Template"), faB (.meth "Template" "text"), faB (.glo "can_stand"), faB (.glo "check_pattern"), faB (.glo "read_name"), faB (.glo "template_text"), faB (.glo "closing_place"), faB (.glo "two_parts"), faB (.glo "match_of"), faB (.glo "length_of"), faB (.glo "templates_of"), faB (.glo "read_simple"), faB (.glo "begun_conditions"), faB (.glo "linking_word"), faB (.glo "read_condition"), faB (.glo "parse_condition"), faB (.glo "format_condition"), faB (.glo "condition_names"), faB (.glo "_law_draws"), faB (.glo "_law_draw"), faB (.glo "_law_pick"), faB (.glo "_law_same"), faB (.glo "_law_letters"), faB (.glo "_law_turn"), faB (.glo "_law_items"), faB (.glo "_law_text"), faB (.glo "_law_pattern"), faB (.glo "_law_leaf"), faB (.glo "_law_condition"), faB (.glo "_law_condition_text"), faB (.glo "_law_names"), faB (.glo "_law_with_names"), faB (.glo "_law_names_of"), faB (.glo "law"), faB (.glo "Template"), faB (.cls "Template"), faB (.noat "Template" "alphabet"), faB (.noat "Template" "places"), faB (.int "LEAST_LETTERS" 2), faB (.int "MOST_LETTERS" 4), faB (.str "LOWERCASE" "abcdefghijklmnopqrstuvwxyz"), faB (.str "EMPTY_TEXT" "-"), faB (.str "PLAIN_BLANK" "{}"), faB (.int "MOST_MODULUS" 60), faB (.int "MOST_NAME" 8), faB (.free "enumerate"), faB (.free "int"), faB (.free "list"), faB (.free "len"), faB (.free "isinstance"), faB (.free "tuple"), faB (.free "all"), faB (.free "zip"), faB (.free "bool"), faB (.free "str"), faB (.free "min"), faB (.free "range"), faB (.free "sorted"), faB (.free "reversed"), fun K => decide (((PySem.W.nsIn K (He.ga K "HOLDING_WORDS") "same").any Option.isSome) = true), fun K => decide (((PySem.W.nsIn K (He.ga K "HOLDING_WORDS") "begins").any Option.isSome) = true), fun K => decide (((PySem.W.nsIn K (He.ga K "HOLDING_WORDS") "ends").any Option.isSome) = true), fun K => decide (((PySem.W.nsIn K (He.ga K "HOLDING_WORDS") "less").any Option.isSome) = true), faB (.glo "HOLDING_WORDS")]
abbrev hfn : List He5.DefA := [dG "check_letters" sCheckL, dG "is_turn" sIs, dG "is_blank" sBk, dG "blank_width" sBw, dG "read_row" sRd, dG "item_text" sIt, dG "row_text" sRt, dM "Template" "__init__" "Template.__init__" sTi, dM "Template" "text" "Template.text" sText, dG "can_stand" sCan, dG "check_pattern" sCkp, dG "read_name" sRnm, dG "template_text" sTtx, dG "closing_place" sClo, dG "two_parts" sTwo, dG "match_of" sMof, dG "length_of" sLof, dG "templates_of" sTof, dG "read_simple" sRsm, dG "begun_conditions" sBeg, dG "linking_word" sLnk, dG "read_condition" sRdc, dG "parse_condition" sPrs, dG "format_condition" sFmt, dG "condition_names" sNms, dG "_law_draws" sDraws, dG "_law_draw" sDraw, dG "_law_pick" sPick, dG "_law_same" sSame, dG "_law_letters" sLetters, dG "_law_turn" sTurn, dG "_law_items" sItems, dG "_law_text" sLx, dG "_law_pattern" sPtn, dG "_law_leaf" sLef, dG "_law_condition" sCon, dG "_law_condition_text" sCtx, dG "_law_names" sNam, dG "_law_with_names" sWnm, dG "_law_names_of" sNof, dG "law" sLaw]
abbrev htf : List (PySem.W.Frag → Addr) := []
abbrev hR : PySem.W.OpenRow := PySem.W.OpenLaw.row PySem.Challenge.rw_ownfill_k38_texts_of_conditions
def has0 : List Addr := [2, 3, 15, 17, 18, 20, 21, 22, 29, 31, 32, 34, 35, 36, 37, 38, 39, 42, 49, 51, 52, 54, 55, 56, 57, 58, 61, 68, 70, 71, 73, 74, 75, 76, 77, 80, 87, 89, 90, 92, 93, 94, 95, 96, 99, 106, 108, 109, 111, 112, 113, 114, 115, 118, 125, 127, 128, 130, 131, 132, 133, 134, 137, 139, 140, 142, 143, 144, 146, 147, 149, 150, 151, 153, 154, 156, 157, 158, 160, 161, 163, 164, 165, 167, 168, 170, 171, 172, 174, 175, 177, 178, 179, 181, 182, 184, 185, 186, 188, 189]
def has1 : List Addr := [191, 192, 193, 196, 197, 198, 200, 201, 203, 204, 205, 207, 208, 210, 211, 219, 221, 222, 224, 225, 226, 228, 229, 231, 232, 233, 234, 235, 236, 237, 239, 240, 242, 243, 244, 245, 246, 247, 249, 250, 252, 253, 254, 255, 258, 259, 260, 261, 264, 265, 266, 267, 269, 270, 272, 273, 274, 276, 277, 279, 280, 281, 283, 284, 286, 287, 288, 290, 291, 293, 294, 295, 297, 298, 300, 301, 302, 304, 305, 307, 308, 309, 311, 312, 314, 315, 316, 318, 319, 321, 322, 323, 325, 326, 328, 329, 330, 332, 333, 335]
def has2 : List Addr := [336, 337, 339, 340, 342, 343, 344, 346, 347, 349, 350, 351, 353, 354, 356, 357, 358, 360, 361, 363, 364, 365, 366, 367, 368, 369, 372, 374, 375, 377, 378, 379, 381, 382, 384, 385, 386, 387, 388, 389, 390, 391, 393, 394, 396, 397, 398, 400, 401, 403, 404, 405, 407, 408, 410, 411, 412, 414, 415, 417, 418, 419, 421, 422, 424, 425, 426, 429, 430, 431, 433, 434, 436, 437, 438, 440, 441, 443, 444, 445, 447, 448, 450, 451, 452, 454, 455, 457, 458, 459, 461, 462, 464, 465, 466, 468, 469, 471, 472, 473]
def has3 : List Addr := [476, 477, 478, 480, 481, 483, 484, 485, 487, 488, 490, 491, 492, 494, 495, 497, 498, 499, 501, 502, 504, 505, 506, 509, 510, 511, 514, 515, 516, 518, 519, 521, 522, 523, 525, 526, 528, 529, 530, 533, 534, 535, 537, 538, 540, 541, 542, 544, 545, 547, 548, 549, 551, 552, 554, 555, 556, 558, 559, 561, 562, 563, 566, 567, 568, 571, 572, 573, 576, 577, 578, 580, 581, 583, 584]
abbrev has : List Addr := has0 ++ has1 ++ has2 ++ has3
abbrev hdk : List DcA := [(fun K => He.ga K "HOLDING_WORDS", ["same", "begins", "ends", "less"])]
abbrev hk : PySem.W.Hook := hookD has hfs hfn htf hdk
abbrev hob (s : PySem.W.SharedT) : hk.α := obsD has hfs hfn htf hdk (HandSHeadRun.getT s)
set_option maxHeartbeats 0 in
theorem run_false (w : World) : HandSHeadRun.RunEq hR (PySem.W.view hR.prog [64]) hk hob 8000 hnames (w.withFollow "special-get-raises" false) := by
  intro os
  kernel_rfl
set_option maxHeartbeats 0 in
theorem run_true (w : World) : HandSHeadRun.RunEq hR (PySem.W.view hR.prog [64]) hk hob 8000 hnames (w.withFollow "special-get-raises" true) := by
  intro os
  kernel_rfl
theorem hrun : ∀ w : World, HandSHeadRun.RunEq hR (PySem.W.view hR.prog [64]) hk hob 8000 hnames w := two_ways run_false run_true
theorem ends {l : PySem.W.OpenLaw} {w : World} {K : PySem.W.Frag} {h : Heap} {mg : Str → Option Value} {fa : Addr} (X : K.In h) (G : h.Ns mainGlobals mg) (hfa : mg "law" = some (.ref fa)) (c' : ToldD hfs hfn htf hdk w h K) : ∃ (fd : FuncData) (sp : Sp), (∀ (s : Shared) (u : Value), BindsTo s fd ⟨[u], []⟩ [("_law_script", u)]) ∧ (∀ (H : Hp) (a : Addr) (ns : List Int), ns.length ≤ 63 → Only H → SqL K H a (ns.map V.int) → sp [.ref a] H (fun v _ => v = .bl true) fun _ _ _ => False) ∧ ∀ base : Heap, K.In base → base.Ns mainGlobals mg → FnOk l.prog w K mg base CX0 21 fa fd ["_law_script"] sp := by
  have c := c'.told
  obtain ⟨fd1, G1_⟩ := c.def_ 0
  have F1 : Fun K "check_letters" "check_letters" sCheckL (He.ga K "check_letters") fd1 := He5.fun_of G1_
  have g1 := He.glo_ok X G (c.fact 0)
  obtain ⟨fd2, G2_⟩ := c.def_ 1
  have F2 : Fun K "is_turn" "is_turn" sIs (He.ga K "is_turn") fd2 := He5.fun_of G2_
  have g2 := He.glo_ok X G (c.fact 1)
  obtain ⟨fd3, G3_⟩ := c.def_ 2
  have F3 : Fun K "is_blank" "is_blank" sBk (He.ga K "is_blank") fd3 := He5.fun_of G3_
  have g3 := He.glo_ok X G (c.fact 2)
  obtain ⟨fd4, G4_⟩ := c.def_ 3
  have F4 : Fun K "blank_width" "blank_width" sBw (He.ga K "blank_width") fd4 := He5.fun_of G4_
  have g4 := He.glo_ok X G (c.fact 3)
  obtain ⟨fd5, G5_⟩ := c.def_ 4
  have F5 : Fun K "read_row" "read_row" sRd (He.ga K "read_row") fd5 := He5.fun_of G5_
  have g5 := He.glo_ok X G (c.fact 4)
  obtain ⟨fd6, G6_⟩ := c.def_ 5
  have F6 : Fun K "item_text" "item_text" sIt (He.ga K "item_text") fd6 := He5.fun_of G6_
  have g6 := He.glo_ok X G (c.fact 5)
  obtain ⟨fd7, G7_⟩ := c.def_ 6
  have F7 : Fun K "row_text" "row_text" sRt (He.ga K "row_text") fd7 := He5.fun_of G7_
  have g7 := He.glo_ok X G (c.fact 6)
  obtain ⟨fd8, G8_⟩ := c.def_ 7
  have F8 : Fun K "__init__" "Template.__init__" sTi (He.ma K (He.ga K "Template") "__init__") fd8 := He5.fun_of G8_
  have MK_Template := He.mkr_ok (c.fact 7)
  obtain ⟨fd9, G9_⟩ := c.def_ 8
  have F9 : Fun K "text" "Template.text" sText (He.ma K (He.ga K "Template") "text") fd9 := He5.fun_of G9_
  have M9 := He.meth_ok (c.fact 8)
  have D9 : DunOf K (He.ga K "Template") "text" (He.ma K (He.ga K "Template") "text") := ⟨M9.at_, M9.fn⟩
  obtain ⟨fd10, G10_⟩ := c.def_ 9
  have F10 : Fun K "can_stand" "can_stand" sCan (He.ga K "can_stand") fd10 := He5.fun_of G10_
  have g10 := He.glo_ok X G (c.fact 9)
  obtain ⟨fd11, G11_⟩ := c.def_ 10
  have F11 : Fun K "check_pattern" "check_pattern" sCkp (He.ga K "check_pattern") fd11 := He5.fun_of G11_
  have g11 := He.glo_ok X G (c.fact 10)
  obtain ⟨fd12, G12_⟩ := c.def_ 11
  have F12 : Fun K "read_name" "read_name" sRnm (He.ga K "read_name") fd12 := He5.fun_of G12_
  have g12 := He.glo_ok X G (c.fact 11)
  obtain ⟨fd13, G13_⟩ := c.def_ 12
  have F13 : Fun K "template_text" "template_text" sTtx (He.ga K "template_text") fd13 := He5.fun_of G13_
  have g13 := He.glo_ok X G (c.fact 12)
  obtain ⟨fd14, G14_⟩ := c.def_ 13
  have F14 : Fun K "closing_place" "closing_place" sClo (He.ga K "closing_place") fd14 := He5.fun_of G14_
  have g14 := He.glo_ok X G (c.fact 13)
  obtain ⟨fd15, G15_⟩ := c.def_ 14
  have F15 : Fun K "two_parts" "two_parts" sTwo (He.ga K "two_parts") fd15 := He5.fun_of G15_
  have g15 := He.glo_ok X G (c.fact 14)
  obtain ⟨fd16, G16_⟩ := c.def_ 15
  have F16 : Fun K "match_of" "match_of" sMof (He.ga K "match_of") fd16 := He5.fun_of G16_
  have g16 := He.glo_ok X G (c.fact 15)
  obtain ⟨fd17, G17_⟩ := c.def_ 16
  have F17 : Fun K "length_of" "length_of" sLof (He.ga K "length_of") fd17 := He5.fun_of G17_
  have g17 := He.glo_ok X G (c.fact 16)
  obtain ⟨fd18, G18_⟩ := c.def_ 17
  have F18 : Fun K "templates_of" "templates_of" sTof (He.ga K "templates_of") fd18 := He5.fun_of G18_
  have g18 := He.glo_ok X G (c.fact 17)
  obtain ⟨fd19, G19_⟩ := c.def_ 18
  have F19 : Fun K "read_simple" "read_simple" sRsm (He.ga K "read_simple") fd19 := He5.fun_of G19_
  have g19 := He.glo_ok X G (c.fact 18)
  obtain ⟨fd20, G20_⟩ := c.def_ 19
  have F20 : Fun K "begun_conditions" "begun_conditions" sBeg (He.ga K "begun_conditions") fd20 := He5.fun_of G20_
  have g20 := He.glo_ok X G (c.fact 19)
  obtain ⟨fd21, G21_⟩ := c.def_ 20
  have F21 : Fun K "linking_word" "linking_word" sLnk (He.ga K "linking_word") fd21 := He5.fun_of G21_
  have g21 := He.glo_ok X G (c.fact 20)
  obtain ⟨fd22, G22_⟩ := c.def_ 21
  have F22 : Fun K "read_condition" "read_condition" sRdc (He.ga K "read_condition") fd22 := He5.fun_of G22_
  have g22 := He.glo_ok X G (c.fact 21)
  obtain ⟨fd23, G23_⟩ := c.def_ 22
  have F23 : Fun K "parse_condition" "parse_condition" sPrs (He.ga K "parse_condition") fd23 := He5.fun_of G23_
  have g23 := He.glo_ok X G (c.fact 22)
  obtain ⟨fd24, G24_⟩ := c.def_ 23
  have F24 : Fun K "format_condition" "format_condition" sFmt (He.ga K "format_condition") fd24 := He5.fun_of G24_
  have g24 := He.glo_ok X G (c.fact 23)
  obtain ⟨fd25, G25_⟩ := c.def_ 24
  have F25 : Fun K "condition_names" "condition_names" sNms (He.ga K "condition_names") fd25 := He5.fun_of G25_
  have g25 := He.glo_ok X G (c.fact 24)
  obtain ⟨fd26, G26_⟩ := c.def_ 25
  have F26 : Fun K "_law_draws" "_law_draws" sDraws (He.ga K "_law_draws") fd26 := He5.fun_of G26_
  have g26 := He.glo_ok X G (c.fact 25)
  obtain ⟨fd27, G27_⟩ := c.def_ 26
  have F27 : Fun K "_law_draw" "_law_draw" sDraw (He.ga K "_law_draw") fd27 := He5.fun_of G27_
  have g27 := He.glo_ok X G (c.fact 26)
  obtain ⟨fd28, G28_⟩ := c.def_ 27
  have F28 : Fun K "_law_pick" "_law_pick" sPick (He.ga K "_law_pick") fd28 := He5.fun_of G28_
  have g28 := He.glo_ok X G (c.fact 27)
  obtain ⟨fd29, G29_⟩ := c.def_ 28
  have F29 : Fun K "_law_same" "_law_same" sSame (He.ga K "_law_same") fd29 := He5.fun_of G29_
  have g29 := He.glo_ok X G (c.fact 28)
  obtain ⟨fd30, G30_⟩ := c.def_ 29
  have F30 : Fun K "_law_letters" "_law_letters" sLetters (He.ga K "_law_letters") fd30 := He5.fun_of G30_
  have g30 := He.glo_ok X G (c.fact 29)
  obtain ⟨fd31, G31_⟩ := c.def_ 30
  have F31 : Fun K "_law_turn" "_law_turn" sTurn (He.ga K "_law_turn") fd31 := He5.fun_of G31_
  have g31 := He.glo_ok X G (c.fact 30)
  obtain ⟨fd32, G32_⟩ := c.def_ 31
  have F32 : Fun K "_law_items" "_law_items" sItems (He.ga K "_law_items") fd32 := He5.fun_of G32_
  have g32 := He.glo_ok X G (c.fact 31)
  obtain ⟨fd33, G33_⟩ := c.def_ 32
  have F33 : Fun K "_law_text" "_law_text" sLx (He.ga K "_law_text") fd33 := He5.fun_of G33_
  have g33 := He.glo_ok X G (c.fact 32)
  obtain ⟨fd34, G34_⟩ := c.def_ 33
  have F34 : Fun K "_law_pattern" "_law_pattern" sPtn (He.ga K "_law_pattern") fd34 := He5.fun_of G34_
  have g34 := He.glo_ok X G (c.fact 33)
  obtain ⟨fd35, G35_⟩ := c.def_ 34
  have F35 : Fun K "_law_leaf" "_law_leaf" sLef (He.ga K "_law_leaf") fd35 := He5.fun_of G35_
  have g35 := He.glo_ok X G (c.fact 34)
  obtain ⟨fd36, G36_⟩ := c.def_ 35
  have F36 : Fun K "_law_condition" "_law_condition" sCon (He.ga K "_law_condition") fd36 := He5.fun_of G36_
  have g36 := He.glo_ok X G (c.fact 35)
  obtain ⟨fd37, G37_⟩ := c.def_ 36
  have F37 : Fun K "_law_condition_text" "_law_condition_text" sCtx (He.ga K "_law_condition_text") fd37 := He5.fun_of G37_
  have g37 := He.glo_ok X G (c.fact 36)
  obtain ⟨fd38, G38_⟩ := c.def_ 37
  have F38 : Fun K "_law_names" "_law_names" sNam (He.ga K "_law_names") fd38 := He5.fun_of G38_
  have g38 := He.glo_ok X G (c.fact 37)
  obtain ⟨fd39, G39_⟩ := c.def_ 38
  have F39 : Fun K "_law_with_names" "_law_with_names" sWnm (He.ga K "_law_with_names") fd39 := He5.fun_of G39_
  have g39 := He.glo_ok X G (c.fact 38)
  obtain ⟨fd40, G40_⟩ := c.def_ 39
  have F40 : Fun K "_law_names_of" "_law_names_of" sNof (He.ga K "_law_names_of") fd40 := He5.fun_of G40_
  have g40 := He.glo_ok X G (c.fact 39)
  obtain ⟨fd41, G41_⟩ := c.def_ 40
  have F41 : Fun K "law" "law" sLaw (He.ga K "law") fd41 := He5.fun_of G41_
  have g41 := He.glo_ok X G (c.fact 40)
  have gT_Template := He.glo_ok X G (c.fact 41)
  have TC : TmC K (He.ga K "Template") := ⟨He.cls_ok (c.fact 42), He.noat_ok (c.fact 43), He.noat_ok (c.fact 44)⟩
  obtain ⟨t_LEAST_LETTERS, h_LEAST_LETTERS⟩ := He.int_ok X G (c.fact 45)
  obtain ⟨t_MOST_LETTERS, h_MOST_LETTERS⟩ := He.int_ok X G (c.fact 46)
  obtain ⟨t_LOWERCASE, h_LOWERCASE⟩ := He.str_ok X G (c.fact 47)
  obtain ⟨t_EMPTY_TEXT, h_EMPTY_TEXT⟩ := He.str_ok X G (c.fact 48)
  obtain ⟨t_PLAIN_BLANK, h_PLAIN_BLANK⟩ := He.str_ok X G (c.fact 49)
  obtain ⟨t_MOST_MODULUS, h_MOST_MODULUS⟩ := He.int_ok X G (c.fact 50)
  obtain ⟨t_MOST_NAME, h_MOST_NAME⟩ := He.int_ok X G (c.fact 51)
  have m_enumerate := He.free_ok X G (c.fact 52)
  have m_int := He.free_ok X G (c.fact 53)
  have m_list := He.free_ok X G (c.fact 54)
  have m_len := He.free_ok X G (c.fact 55)
  have m_isinstance := He.free_ok X G (c.fact 56)
  have m_tuple := He.free_ok X G (c.fact 57)
  have m_all := He.free_ok X G (c.fact 58)
  have m_zip := He.free_ok X G (c.fact 59)
  have m_bool := He.free_ok X G (c.fact 60)
  have m_str := He.free_ok X G (c.fact 61)
  have m_min := He.free_ok X G (c.fact 62)
  have m_range := He.free_ok X G (c.fact 63)
  have m_sorted := He.free_ok X G (c.fact 64)
  have m_reversed := He.free_ok X G (c.fact 65)
  have kw0 := of_decide_eq_true (c.fact 66)
  have kw1_ := of_decide_eq_true (c.fact 67)
  have kw2_ := of_decide_eq_true (c.fact 68)
  have kw3 := of_decide_eq_true (c.fact 69)
  have gD_HOLDING_WORDS := He.glo_ok X G (c.fact 70)
  obtain ⟨es_HOLDING_WORDS, n_HOLDING_WORDS, D_HOLDING_WORDS⟩ := c'.dic 0
  have e_ := hfa.symm.trans g41
  cases e_
  obtain ⟨⟨oc, od, kVv, dc, pm, an, cdv, ct, sl, rfl, lw, cw⟩, kw⟩ := id F41
  refine ⟨PySem.W.fnOf "law" "law" (defArgs sLaw) (defBody sLaw) (defScope sLaw) .none kVv dc pm an cdv ct, spLaw K, fun s v => .of_eq rfl, fun H a ns _ _ hS => ⟨a, ns, rfl, hS, fun _ => rfl⟩, fun base _ _ => ?_⟩
  have d1 := F1.binds (ps := ["letters"]) fun _ _ _ _ _ _ us hl => match us, hl with | [_], _ => rfl
  have d2 := F2.binds (ps := ["letters", "turn"]) fun _ _ _ _ _ _ us hl => match us, hl with | [_, _], _ => rfl
  have d3 := F3.binds (ps := ["item"]) fun _ _ _ _ _ _ us hl => match us, hl with | [_], _ => rfl
  have d4 := F4.binds (ps := ["letters", "text", "at"]) fun _ _ _ _ _ _ us hl => match us, hl with | [_, _, _], _ => rfl
  have d5 := F5.binds (ps := ["letters", "text"]) fun _ _ _ _ _ _ us hl => match us, hl with | [_, _], _ => rfl
  have d6 := F6.binds (ps := ["letters", "item"]) fun _ _ _ _ _ _ us hl => match us, hl with | [_, _], _ => rfl
  have d7 := F7.binds (ps := ["letters", "row"]) fun _ _ _ _ _ _ us hl => match us, hl with | [_, _], _ => rfl
  have d8 := F8.binds (ps := ["self", "letters", "text"]) fun _ _ _ _ _ _ us hl => match us, hl with | [_, _, _], _ => rfl
  have d9 := F9.binds (ps := ["self"]) fun _ _ _ _ _ _ us hl => match us, hl with | [_], _ => rfl
  have d10 := F10.binds (ps := ["letters", "before", "sign", "depth"]) fun _ _ _ _ _ _ us hl => match us, hl with | [_, _, _, _], _ => rfl
  have d11 := F11.binds (ps := ["letters", "pattern"]) fun _ _ _ _ _ _ us hl => match us, hl with | [_, _], _ => rfl
  have d12 := F12.binds (ps := ["text", "at"]) fun _ _ _ _ _ _ us hl => match us, hl with | [_, _], _ => rfl
  have d13 := F13.binds (ps := ["letters", "text"]) fun _ _ _ _ _ _ us hl => match us, hl with | [_, _], _ => rfl
  have d14 := F14.binds (ps := ["text", "at"]) fun _ _ _ _ _ _ us hl => match us, hl with | [_, _], _ => rfl
  have d15 := F15.binds (ps := ["text"]) fun _ _ _ _ _ _ us hl => match us, hl with | [_], _ => rfl
  have d16 := F16.binds (ps := ["letters", "text"]) fun _ _ _ _ _ _ us hl => match us, hl with | [_, _], _ => rfl
  have d17 := F17.binds (ps := ["text"]) fun _ _ _ _ _ _ us hl => match us, hl with | [_], _ => rfl
  have d18 := F18.binds (ps := ["letters", "kind", "text"]) fun _ _ _ _ _ _ us hl => match us, hl with | [_, _, _], _ => rfl
  have d19 := F19.binds (ps := ["letters", "text", "at"]) fun _ _ _ _ _ _ us hl => match us, hl with | [_, _, _], _ => rfl
  have d20 := F20.binds (ps := ["text", "at"]) fun _ _ _ _ _ _ us hl => match us, hl with | [_, _], _ => rfl
  have d21 := F21.binds (ps := ["text", "at"]) fun _ _ _ _ _ _ us hl => match us, hl with | [_, _], _ => rfl
  have d22 := F22.binds (ps := ["letters", "text", "at"]) fun _ _ _ _ _ _ us hl => match us, hl with | [_, _, _], _ => rfl
  have d23 := F23.binds (ps := ["letters", "text"]) fun _ _ _ _ _ _ us hl => match us, hl with | [_, _], _ => rfl
  have d24 := F24.binds (ps := ["condition"]) fun _ _ _ _ _ _ us hl => match us, hl with | [_], _ => rfl
  have d25 := F25.binds (ps := ["condition"]) fun _ _ _ _ _ _ us hl => match us, hl with | [_], _ => rfl
  have d26 := F26.binds (ps := ["_law_script"]) fun _ _ _ _ _ _ us hl => match us, hl with | [_], _ => rfl
  have d27 := F27.binds (ps := ["_law_rng", "_law_sides"]) fun _ _ _ _ _ _ us hl => match us, hl with | [_, _], _ => rfl
  have d28 := F28.binds (ps := ["_law_rng", "_law_things"]) fun _ _ _ _ _ _ us hl => match us, hl with | [_, _], _ => rfl
  have d29 := F29.binds (ps := ["_law_found", "_law_due"]) fun _ _ _ _ _ _ us hl => match us, hl with | [_, _], _ => rfl
  have d30 := F30.binds (ps := ["_law_rng", "_law_most"]) fun _ _ _ _ _ _ us hl => match us, hl with | [_, _], _ => rfl
  have d31 := F31.binds (ps := ["_law_rng", "_law_signs"]) fun _ _ _ _ _ _ us hl => match us, hl with | [_, _], _ => rfl
  have d32 := F32.binds (ps := ["_law_rng", "_law_signs", "_law_most"]) fun _ _ _ _ _ _ us hl => match us, hl with | [_, _, _], _ => rfl
  have d33 := F33.binds (ps := ["_law_signs", "_law_items_here"]) fun _ _ _ _ _ _ us hl => match us, hl with | [_, _], _ => rfl
  have d34 := F34.binds (ps := ["_law_rng", "_law_signs", "_law_deep"]) fun _ _ _ _ _ _ us hl => match us, hl with | [_, _, _], _ => rfl
  have d35 := F35.binds (ps := ["_law_rng", "_law_signs", "_law_most"]) fun _ _ _ _ _ _ us hl => match us, hl with | [_, _, _], _ => rfl
  have d36 := F36.binds (ps := ["_law_rng", "_law_signs", "_law_deep", "_law_most"]) fun _ _ _ _ _ _ us hl => match us, hl with | [_, _, _, _], _ => rfl
  have d37 := F37.binds (ps := ["_law_my_condition"]) fun _ _ _ _ _ _ us hl => match us, hl with | [_], _ => rfl
  have d38 := F38.binds (ps := ["_law_rng", "_law_many"]) fun _ _ _ _ _ _ us hl => match us, hl with | [_, _], _ => rfl
  have d39 := F39.binds (ps := ["_law_rng", "_law_my_condition", "_law_names_here"]) fun _ _ _ _ _ _ us hl => match us, hl with | [_, _, _], _ => rfl
  have d40 := F40.binds (ps := ["_law_tree"]) fun _ _ _ _ _ _ us hl => match us, hl with | [_], _ => rfl
  have T : SameT mg := ⟨m_isinstance, m_list, m_tuple, m_len, m_all, m_zip, m_bool, m_int, m_str⟩
  have nsI : ∀ o : Option (Option Value), o.any Option.isSome = true → ∃ u, o = some (some u) := fun o h => match o, h with | some (some u), _ => ⟨u, rfl⟩
  have kW : ∀ k, k ≤ 3 → ∃ u, PySem.W.nsIn K (He.ga K "HOLDING_WORDS") (kwS k) = some (some u) := fun k hk => match k, hk with | 0, _ => nsI _ kw0 | 1, _ => nsI _ kw1_ | 2, _ => nsI _ kw2_ | 3, _ => nsI _ kw3
  have cDr : Cl l.prog w K mg base "_law_draw" 1 ["_law_rng", "_law_sides"] spDraw (He.ga K "_law_draw") _ := ⟨ok_draw F27 m_int m_len, g27, F27.kp, d27⟩
  have cPk : Cl l.prog w K mg base "_law_pick" 2 ["_law_rng", "_law_things"] (spPick K) (He.ga K "_law_pick") _ := ⟨ok_pick F28 F27 d27 g27 m_int m_len, g28, F28.kp, d28⟩
  have cTn : Cl l.prog w K mg base "_law_turn" 2 ["_law_rng", "_law_signs"] spTurn (He.ga K "_law_turn") _ := ⟨ok_turn F31 F27 d27 g27 m_int m_len m_range, g31, F31.kp, d31⟩
  have cBk : Cl l.prog w K mg base "is_blank" 1 ["item"] spBk (He.ga K "is_blank") _ := ⟨ok_bk F3 m_len, g3, F3.kp, d3⟩
  have cIs : Cl l.prog w K mg base "is_turn" 1 ["letters", "turn"] spIs (He.ga K "is_turn") _ := ⟨ok_is F2 m_sorted, g2, F2.kp, d2⟩
  have cItx : Cl l.prog w K mg base "item_text" 2 ["letters", "item"] spIt (He.ga K "item_text") _ := ⟨ok_it F6 cBk ⟨_, h_PLAIN_BLANK⟩, g6, F6.kp, d6⟩
  have cRt : Cl l.prog w K mg base "row_text" 3 ["letters", "row"] (spRt K) (He.ga K "row_text") _ := ⟨ok_rt F7 m_len cItx ⟨_, h_EMPTY_TEXT⟩, g7, F7.kp, d7⟩
  have cBw : Cl l.prog w K mg base "blank_width" 2 ["letters", "text", "at"] spBw (He.ga K "blank_width") _ := ⟨ok_bw F4 m_len cIs ⟨_, h_PLAIN_BLANK⟩, g4, F4.kp, d4⟩
  have cRd : Cl l.prog w K mg base "read_row" 3 ["letters", "text"] spRd (He.ga K "read_row") _ := ⟨ok_rd F5 m_len cBw ⟨_, h_EMPTY_TEXT⟩, g5, F5.kp, d5⟩
  have cCL : Cl l.prog w K mg base "check_letters" 1 ["letters"] spCLn (He.ga K "check_letters") _ := ⟨ok_checkLn F1 m_enumerate m_len ⟨_, h_LEAST_LETTERS⟩ ⟨_, h_MOST_LETTERS⟩ ⟨_, h_LOWERCASE⟩, g1, F1.kp, d1⟩
  have GI : FnOk l.prog w K mg base CX0 4 (He.ma K (He.ga K "Template") "__init__") _ ["self", "letters", "text"] (spTi (He.ga K "Template")) := ok_ti F8 TC m_tuple cCL cRd
  have GT : FnOk l.prog w K mg base CX0 4 (He.ma K (He.ga K "Template") "text") _ ["self"] (spText (He.ga K "Template")) := ok_text F9 TC cRt
  have cCan : Cl l.prog w K mg base "can_stand" 1 ["letters", "before", "sign", "depth"] spCan (He.ga K "can_stand") _ := ⟨ok_can F10, g10, F10.kp, d10⟩
  have cCkp : Cl l.prog w K mg base "check_pattern" 2 ["letters", "pattern"] spCkp (He.ga K "check_pattern") _ := ⟨ok_ckp F11 m_enumerate cCan, g11, F11.kp, d11⟩
  have cRnm : Cl l.prog w K mg base "read_name" 1 ["text", "at"] spRnm (He.ga K "read_name") _ := ⟨ok_rnm F12 m_len ⟨_, h_LOWERCASE⟩ ⟨_, h_MOST_NAME⟩, g12, F12.kp, d12⟩
  have cTtx : Cl l.prog w K mg base "template_text" 6 ["letters", "text"] spTtx (He.ga K "template_text") _ := ⟨ok_ttx F13 TC MK_Template gT_Template GI d8 M9 GT d9, g13, F13.kp, d13⟩
  have cClo : Cl l.prog w K mg base "closing_place" 1 ["text", "at"] spClo (He.ga K "closing_place") _ := ⟨ok_clo F14 m_len m_range, g14, F14.kp, d14⟩
  have cTwo : Cl l.prog w K mg base "two_parts" 1 ["text"] spTwo (He.ga K "two_parts") _ := ⟨ok_two F15 m_len, g15, F15.kp, d15⟩
  have cMof : Cl l.prog w K mg base "match_of" 3 ["letters", "text"] spMof (He.ga K "match_of") _ := ⟨ok_mof F16 cCkp, g16, F16.kp, d16⟩
  have cLof : Cl l.prog w K mg base "length_of" 2 ["text"] spLof (He.ga K "length_of") _ := ⟨ok_lof F17 cTwo ⟨_, h_MOST_MODULUS⟩ m_range m_str, g17, F17.kp, d17⟩
  have cTof : Cl l.prog w K mg base "templates_of" 7 ["letters", "kind", "text"] spTof (He.ga K "templates_of") _ := ⟨ok_tof F18 cTwo cTtx, g18, F18.kp, d18⟩
  have cRsm : Cl l.prog w K mg base "read_simple" 8 ["letters", "text", "at"] spRsm (He.ga K "read_simple") _ := ⟨ok_rsm F19 m_len cRnm cClo cMof cLof cTof gD_HOLDING_WORDS D_HOLDING_WORDS kW, g19, F19.kp, d19⟩
  have cBeg : Cl l.prog w K mg base "begun_conditions" 1 ["text", "at"] spBeg (He.ga K "begun_conditions") _ := ⟨ok_beg F20 m_len, g20, F20.kp, d20⟩
  have cLnk : Cl l.prog w K mg base "linking_word" 1 ["text", "at"] spLnk (He.ga K "linking_word") _ := ⟨ok_lnk F21, g21, F21.kp, d21⟩
  have cRdc : Cl l.prog w K mg base "read_condition" 9 ["letters", "text", "at"] spRdc (He.ga K "read_condition") _ := ⟨ok_rdc F22 m_len cBeg cRsm cLnk, g22, F22.kp, d22⟩
  have cPrs : Cl l.prog w K mg base "parse_condition" 10 ["letters", "text"] spPrs (He.ga K "parse_condition") _ := ⟨ok_prs F23 m_len cRdc, g23, F23.kp, d23⟩
  have cFmt : Cl l.prog w K mg base "format_condition" 20 ["condition"] (spFmt 20) (He.ga K "format_condition") _ := ⟨fmt_all F24 d24 g24 m_str 20, g24, F24.kp, d24⟩
  have cNms : Cl l.prog w K mg base "condition_names" 1 ["condition"] spNms (He.ga K "condition_names") _ := ⟨ok_nms F25 m_reversed m_list, g25, F25.kp, d25⟩
  have cDs : Cl l.prog w K mg base "_law_draws" 1 ["_law_script"] (spDraws K) (He.ga K "_law_draws") _ := ⟨ok_draws F26 m_int m_list, g26, F26.kp, d26⟩
  have cLt : Cl l.prog w K mg base "_law_letters" 3 ["_law_rng", "_law_most"] spLetters (He.ga K "_law_letters") _ := ⟨ok_letters F30 F27 d27 g27 F28 d28 g28 m_int m_len m_min m_range, g30, F30.kp, d30⟩
  have cSm : Cl l.prog w K mg base "_law_same" 9 ["_law_found", "_law_due"] (spSm K 9) (He.ga K "_law_same") _ := ⟨ok_same F29 T d29 g29 9, g29, F29.kp, d29⟩
  have cIt : Cl l.prog w K mg base "_law_items" 3 ["_law_rng", "_law_signs", "_law_most"] spItems (He.ga K "_law_items") _ := ⟨ok_items F32 m_range cDr cTn cPk, g32, F32.kp, d32⟩
  have cLx : Cl l.prog w K mg base "_law_text" 1 ["_law_signs", "_law_items_here"] (spLx K) (He.ga K "_law_text") _ := ⟨ok_lx F33 m_len, g33, F33.kp, d33⟩
  have cPtn : Cl l.prog w K mg base "_law_pattern" 7 ["_law_rng", "_law_signs", "_law_deep"] (spPtn 5) (He.ga K "_law_pattern") _ := ⟨ptn_all F34 cDr cPk d34 g34 5, g34, F34.kp, d34⟩
  have cLef : Cl l.prog w K mg base "_law_leaf" 8 ["_law_rng", "_law_signs", "_law_most"] spLef (He.ga K "_law_leaf") _ := ⟨ok_lef F35 cDr cPtn cIt cLx, g35, F35.kp, d35⟩
  have cCon : Cl l.prog w K mg base "_law_condition" 13 ["_law_rng", "_law_signs", "_law_deep", "_law_most"] (spCon 5) (He.ga K "_law_condition") _ := ⟨con_all F36 cDr cPk cLef d36 g36 5, g36, F36.kp, d36⟩
  have cCtx : Cl l.prog w K mg base "_law_condition_text" 5 ["_law_my_condition"] (spCtx 5) (He.ga K "_law_condition_text") _ := ⟨ctx_all F37 d37 g37 m_str 5, g37, F37.kp, d37⟩
  have cNam : Cl l.prog w K mg base "_law_names" 3 ["_law_rng", "_law_many"] spNam (He.ga K "_law_names") _ := ⟨ok_nam F38 m_int m_range cDr cPk, g38, F38.kp, d38⟩
  have cWnm : Cl l.prog w K mg base "_law_with_names" 7 ["_law_rng", "_law_my_condition", "_law_names_here"] (spWnm 5) (He.ga K "_law_with_names") _ := ⟨wnm_all F39 m_isinstance m_str m_tuple cDr cPk d39 g39 5, g39, F39.kp, d39⟩
  have cNof : Cl l.prog w K mg base "_law_names_of" 5 ["_law_tree"] (spNof 5) (He.ga K "_law_names_of") _ := ⟨nof_all F40 m_isinstance m_str m_tuple d40 g40 5, g40, F40.kp, d40⟩
  exact ok_law F41 m_range cDs cDr cLt cNam cCon cWnm cCtx cSm cFmt cPrs cNms cNof (kb_cn F25) (kb_pc F23) ⟨_, h_MOST_MODULUS⟩
end Own
open PySem PySem.W PySem.Calls PyProof.Rows
set_option maxHeartbeats 0 in
theorem PySem.Challenge.cw_ownfill_k38_texts_of_conditions_holds : PySem.Challenge.rw_ownfill_k38_texts_of_conditions.Holds := by
  w_on; o_law
  refine HandSHeadRun.head_any (r := Own.hR) (q := view Own.hR.prog [64]) (H := Own.hk) (ob := Own.hob) (M := 8000) (loose := Own.hnames) (d := HandSHeadRun.topDef Own.hR.prog 64) (kwd := []) (fun s => Own.obsD_eq s) (by kernel_rfl) (fun s => by kernel_rfl) Own.hrun (by kernel_rfl) (by kernel_rfl) (by kernel_rfl) (by rfl) (by first | assumption | decide +kernel) (by decide +kernel) ⟨rfl, rfl, rfl, rfl, rfl, by decide +kernel⟩ ?hw ?hc
  case hw => w_witness2
  case hc =>
    refine L2.walk_ofE (l := PySem.Challenge.rw_ownfill_k38_texts_of_conditions) (n := 63) (k := 21) (x := "_law_script") (CX := L2.CX0) rfl (by decide) (by kernel_rfl) ⟨rfl, by decide, by decide⟩ ?F (fun _ _ _ _ z => z)
    intro w mg fa h Y G hmg0
    obtain ⟨K, KX, c⟩ := Y
    have hmg : mg ("law" : PySem.Str) = some (.ref fa) := by
      have e : (HandSHeadRun.topDef Own.hR.prog 64).name = ("law" : PySem.Str) := by kernel_rfl
      rw [← e]
      exact hmg0
    obtain ⟨fd, sp, h1, h2, h3⟩ := Own.ends (l := PySem.Challenge.rw_ownfill_k38_texts_of_conditions) (w := w) KX G hmg c
    exact ⟨K, fd, sp, KX, h1, h2, h3⟩
