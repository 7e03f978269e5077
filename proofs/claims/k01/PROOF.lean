import PyProof.Rows.All
import Wide.All
import OpenK.AllK
import Wide.FinOn
import HandS.Iter
import HandS.Comp
import HandS.Text
import HandS.Codes
import HandS.Call
import HandS.Walk
import PyProof.EnumMake
import KE.GoesMore
import KE.GoesEnum
import KE.GoesNew
import KE.KDictZip
import HandS.Dict
import HandS.List
import HandS.Words
import HandS.Replace
import HandS.ForMost
import HandS.IsInst
import HandS.Zip
import OpenK.KMore
import HandS.Exc
import HandS.ExcInit
import HandS.ExcField
import HandS.HotCalls
import HandS.Lambda
import HandS.WordsExc
import HandS.CallSlots
import KE.KTryMore
import HandS.EndTab
import PySem.Challenge.RW_ownfill_k01_letters_and_texts_checked
set_option Elab.async false
set_option linter.all false
set_option maxRecDepth 100000
set_option maxHeartbeats 4000000
namespace Own
open PySem PySem.Spec PyProof.Rows L2

/-! ### walks that give a new tuple at each turn -/
/-- what an iterator of new tuples gives, in the library's words (GoesN), is a turn of the hand layer: at turn i the tuple's items are some vs with R i vs -/
theorem turn_tuples {P : Program} {w : World} {K : PySem.W.Frag} {tg : Expr} {I : Addr} {fp wr : List Addr} {n : Nat} {St : Nat → Heap → Prop}
    {Y : Nat → Heap → Value → Heap → Prop} {R : Nat → List V → Prop} {J : It} (W : ∀ A : Around, A.handled = none → GoesN P w A tg I fp wr n Y St)
    (hY : ∀ i h0 u h, Y i h0 u h → ∃ T vs us, u = .ref T ∧ h0.objs.size ≤ T ∧ vs.length ≤ sizeLine ∧ R i vs ∧ Vals vs us ∧ h.IsTuple T us.toArray)
    (mem : I ∈ fp) (obj : ∀ i h, St i h → ∀ b ∈ fp, ∃ o, h.get? b = some o ∧ ∀ v, o.data ≠ .cell v)
    (self : ∀ (A : Around) (i : Nat) (s : Shared) (Q : Value → Shared → Prop) (E : Value → Shared → Prop), St i s.heap → Q (.ref I) s → wpAny (model P w) A (pyIter (.ref I)) Q E s)
    (go : ∀ i H, J.go i H → i < n) (stop : ∀ i H, J.stop i H → i = n) (yld : ∀ i H T vs, H T = none → R i vs → J.yld i H (.ref T) (upd H T (.tup vs))) :
    Turn P w K tg J fp I St := by
  refine ⟨mem, obj, fun i h h' st k => (W callerA rfl).frame i h h' st k, ?_, ?_, self⟩
  · rintro X rfl rfl rfl calm i pins s σ H E I0 off st hg
    have G := W X.A (I0.ok.hd calm)
    refine G.goes i s (fun u s2 => ∃ x H', Inv X pins σ H' s2 ∧ RelV x u ∧ J.yld i H x H' ∧ St (i + 1) s2.heap ∧ ∀ b ∈ fp, H' b = none) E (go i H hg) st fun u h tk y st' rest _ => ?_
    obtain ⟨T, vs, us, rfl, young, len, r, rel, tup⟩ := hY _ _ _ _ y
    refine ⟨.ref T, upd H T (.tup vs), ?_, rfl, yld i H T vs (I0.hok.fresh young) r, st', fun b hb => ?_⟩
    · refine I0.turnedNew (t' := tk) (ch := fp) (fun b o nb q => rest b o (fun m => nb (G.sub b m)) q) off young ?_
      obtain ⟨o, e1, e2, e3⟩ := tup
      exact ⟨len, us, rel, o, e1, e2, e3⟩
    · obtain ⟨o, ho, _⟩ := obj i s.heap st b hb
      rw [upd_ne (Nat.ne_of_lt (Nat.lt_of_lt_of_le (Heap.lt_size ho) young))]
      exact (off b hb).1
  · rintro X rfl rfl rfl calm i pins s σ H E I0 off st hg
    have G := W X.A (I0.ok.hd calm)
    rw [stop i H hg] at st
    exact G.stops s (fun s1 => Inv X pins σ H s1) E st fun h tk rest _ => I0.turnedL (t' := tk) (ch := fp) (fun b o nb q => rest b o (fun m => nb (G.sub b m)) q) off

/-! ### a text's signs numbered -/
def ItE (z : Str) : It :=
  ⟨fun i _ => i < z.cps.size,
   fun i H v H' => ∃ T c, v = .ref T ∧ H T = none ∧ z.cps[i]? = some c ∧
     H' = upd H T (.tup [.int (i : Nat), .str ⟨#[c]⟩]),
   fun i _ => i = z.cps.size⟩

theorem turnE {P : Program} {w : World} {K : PySem.W.Frag} {elts : List Expr} {kk : Nat} {tpos : Pos} (z : Str) (t : Tok) (e it : Addr) (ne : e ≠ it) :
    Turn P w K (.Tuple elts kk tpos) (ItE z) [e, it] e
      (fun i h => (∃ old, IsEnum h e it (0 + (i : Int)) old) ∧ h.IsStrIter it (strIterType z) z t i) := by
  refine turn_tuples (R := fun i vs => ∃ c, z.cps[i]? = some c ∧ vs = [.int (i : Nat), .str ⟨#[c]⟩])
    (fun A hh => GoesN.enumFrom (elts := elts) (x1 := kk) (pos := tpos) 0 (Draws.text (prog := P) (w := w) (A := A.in1) hh it z t) e ne
      (fun m => ne (List.mem_singleton.mp m)) (List.mem_singleton.mpr rfl)) ?_ List.mem_cons_self ?_ ?_ (fun _ _ h => h) (fun _ _ h => h) ?_
  · rintro i h0 u h ⟨T, k, x, rfl, young, ⟨c, v, hc, rfl⟩, tup⟩
    rw [Int.zero_add] at tup
    exact ⟨T, _, [_, _], rfl, young, by show 2 ≤ sizeLine; decide, ⟨c, hc, rfl⟩, .cons ⟨_, rfl⟩ (.cons ⟨_, rfl⟩ .nil), tup⟩
  · rintro i h ⟨⟨old, he⟩, ⟨o, ho, _, hd⟩⟩
    simp only [List.forall_mem_cons]
    exact ⟨⟨_, he, fun v => nofun⟩, ⟨o, ho, fun v q => by rw [hd] at q; cases q⟩, fun _ q => nomatch q⟩
  · rintro A i s Q E ⟨⟨_, he⟩, _⟩ h
    exact wpAny_pyIter_enum he h
  · rintro i H T vs free ⟨c, hc, rfl⟩
    exact ⟨T, c, rfl, free, hc, rfl⟩

def iEnS (ta : TA) : TI := fun σ H R => ta σ H fun vs H1 => ∃ z, vs = [.str z] ∧ R (ItE z) H1

theorem pi_enS {X : Cx} {e : Expr} {ta : TA} {p pos tpos : Pos} {elts : List Expr} {kk : Nat}
    (hg : Gl X "enumerate") (hm : X.mg "enumerate" = none) (ha : PA X [e] ta)
    (hs : starEach [e] X.env = [(false, eval e X.env)] := by rfl) :
    PI X (.Tuple elts kk tpos) (.Call (.Name "enumerate" p) [e] [] pos) (iEnS ta) := by
  constructor
  intro pins s σ H R I h
  refine Call_ (ld_blt I hg hm boot_enumerate (PyProof.Rows.callWith_type1 (thn (ha.run pos pins s σ H _ I h) ?_) hs rfl))
  rintro us s1 ⟨vs, H1, I1, r1, z, rfl, q⟩
  obtain ⟨u, rfl, t, rfl⟩ := vals1 r1
  refine call_enumerate_str fun h' he hit _ hk => wpAny_pyIter_enum he ?_
  refine ⟨s1.heap.objs.size + 1, [s1.heap.objs.size + 1, s1.heap.objs.size], _, _, H1, rfl, I1.kept hk, turnE z t _ _ (Nat.succ_ne_self _), ⟨⟨.none, he⟩, hit⟩, ?_, q⟩
  have young : ∀ b, s1.heap.objs.size ≤ b → FpOk X pins H1 b := fun b lb => I1.fpOk lb (I1.hok.fresh lb)
  simp only [List.forall_mem_cons]
  exact ⟨young _ (Nat.le_add_right _ _), young _ (Nat.le_refl _), fun _ q => nomatch q⟩

theorem walkE {z : Str} : Walk (ItE z) z.cps.size (fun _ => True)
    (fun i H v H' => ∃ T c, v = .ref T ∧ H T = none ∧ z.cps[i]? = some c ∧
      H' = upd H T (.tup [.int (i : Nat), .str ⟨#[c]⟩])) :=
  ⟨fun _ _ h _ => h, fun _ _ => rfl, fun _ _ _ _ _ _ h => h⟩
end Own

namespace Own
open PySem PySem.Spec PyProof.Rows L2
/-! ### dict(zip(s, t)): a zip of any two iterators as a source of pairs -/
section
variable {P : Program} {w : World} {A : Around} {z TI TO T i1 i2 d : Addr} {f1 f2 : List Addr} {n1 n2 i : Nat} {s : Shared}
variable {R1 R2 : Nat → Value → Prop} {S1 S2 : Nat → Heap → Prop}

/-- one step of a zip of two whose last tuple is still out: first the one iterator, then the other, then a pair of its own -/
theorem zip_out {f : Bool} {o : Obj} {Q : Fin → Shared → Prop} {E : Value → Shared → Prop} (hz : IsZipHeld s.heap z TI TO T f)
    (hT : s.heap.get? T = some o) (hI : IsTupOf2 s.heap TI (.ref i1) (.ref i2))
    (k : ∀ g, IsZipHeld g z TI TO T true → Heap.SameBut z s.heap g →
      wpAny (model P w) A (Builtin.SmallTypes.nextOf (.ref i1)) (fun x s1 =>
        wpAny (model P w) A (Builtin.SmallTypes.nextOf (.ref i2)) (fun y s2 =>
          Q (.done (.ret (.ref s2.heap.objs.size)))
            { s2 with heap := s2.heap.push { cls := .type "tuple", data := .seq #[x, y] } }) E s1) E { s with heap := g }) :
    wpAny (model P w) A (Builtin.«zip.__next__» ⟨[.ref z], []⟩) Q E s := by
  refine wpAny_bind (m := field (.ref z) 2) (wpAny_field hz rfl (x := .bool false) rfl
    (wpAny_bind (m := field (.ref z) 3) (wpAny_field hz rfl (x := .ref TI) rfl (wpAny_bind (wpAny_seqItems hI rfl
      (wpAny_bind (m := Builtin.SmallTypes.ownedTupleIsFree (.ref z)) (wpAny_tupleHeld_zip hz hT fun g hg hs => ?_)))))))
  rw [if_neg Bool.false_ne_true]
  refine wpAny_bind ?_
  simp only [← Array.forIn_toList, List.forIn_cons, List.forIn_nil]
  refine wpAny_bind (wpAny_bind (wpAny_holding (wpAny_bind (m := Builtin.SmallTypes.nextOf (.ref i1)) ?_)))
  refine wpAny_mono (k g hg hs) (fun x s1 h1 => ?_) fun _ _ h => h
  refine wpAny_pure (wpAny_pure (wpAny_bind (wpAny_bind (wpAny_holding (wpAny_bind (m := Builtin.SmallTypes.nextOf (.ref i2)) ?_)))))
  refine wpAny_mono h1 (fun y s2 h2 => ?_) fun _ _ h => h
  exact wpAny_pure (wpAny_pure (wpAny_pure (wpAny_bind (m := newTuple [x, y]) (wpAny_newTuple (wpAny_pure h2)))))

/-- next(zip), told by its `__next__`: an item, or a StopIteration -/
theorem next_zip {Q : Option Value → Shared → Prop} {E : Value → Shared → Prop} (hy : s.TypeIs (.ref z) "zip")
    (h : wpAny (model P w) A.in1 (Builtin.«zip.__next__» ⟨[.ref z], []⟩) (fun r s' => ∃ v, r = .done (.ret v) ∧ Q (some v) s')
      (fun e s' => ∃ a o, e = .ref a ∧ s'.heap.get? a = some o ∧ o.cls = .type "StopIteration" ∧ Q none s') s) :
    wpAny (model P w) A (pyNext (.ref z)) Q E s := by
  unfold pyNext
  refine wpAny_bind (wpAny_attempt (wpAny_callSpecial?_slot (name := Str.ofString "__next__") hy F.slot_zip_next
    (wpAny_call_entry F.slot_zip_next hy F.entry_zip_next (wpAny_mono h (fun r s' ⟨v, e, q⟩ => ⟨v, e, wpAny_pure q⟩) fun e s' hs => ?_)
      (F.args_zip_next_1 _))))
  obtain ⟨a, o, rfl, ho, hc, q⟩ := hs
  exact wpAny_bind (wpAny_isInstance (T := "StopIteration") (b := true) ⟨o, ho, hc⟩ isSubtype_stop (wpAny_pure q))

/-- the zip at turn i: not asked yet, or its last tuple T is still out -/
def ZipAt (z TI TO i1 i2 d : Addr) (S1 S2 : Nat → Heap → Prop) (i : Nat) (h : Heap) : Prop :=
  IsTupOf2 h TI (.ref i1) (.ref i2) ∧ S1 i h ∧ S2 i h ∧
    ((IsZip h z TI TO .none ∧ ∃ u v, IsTupOf2 h TO u v) ∨
      ∃ T f o, IsZipHeld h z TI TO T f ∧ h.get? T = some o ∧ ∀ b ∈ [z, i1, i2, d], T ≠ b)

/-- all outside of some places stays -/
def Rest (l : List Addr) (h h' : Heap) : Prop := ∀ b o, b ∉ l → h.get? b = some o → h'.get? b = some o
theorem Rest.of {h h' : Heap} {x : Addr} (e : Heap.SameBut x h h') : Rest [x] h h' :=
  fun b o hb q => e.extBut b o (fun r => hb (List.mem_singleton.mpr r)) q
theorem Rest.push {h : Heap} {o : Obj} : Rest [] h (h.push o) := fun _ _ _ q => Heap.get?_push_of_some _ q
theorem Rest.seq {l1 l2 : List Addr} {h h1 h2 : Heap} (a : Rest l1 h h1) (b : Rest l2 h1 h2) : Rest (l1 ++ l2) h h2 :=
  fun c o hc q => b c o (fun r => hc (List.mem_append_right _ r)) (a c o (fun r => hc (List.mem_append_left _ r)) q)
theorem Rest.more {l1 l2 : List Addr} {h h' : Heap} (a : Rest l1 h h') (b : ∀ c ∈ l1, c ∈ l2) : Rest l2 h h' :=
  fun c o hc q => a c o (fun r => hc (b c r)) q

theorem src_zip (S : ZipSep2 z TI TO i1 i2 f1 f2) (D1 : Draws P w A.in1 i1 f1 n1 R1 S1) (D2 : Draws P w A.in1 i2 f2 n2 R2 S2)
    (off : ∀ b, b ∈ z :: TI :: TO :: f1 ++ f2 → d ≠ b) :
    PairSrc P w A z d [z, TO, i1, i2] (min n1 n2) (fun i k v => R1 i k ∧ R2 i v) (ZipAt z TI TO i1 i2 d S1 S2) := by
  have dz : d ≠ z := off z (by simp)
  have dI : d ≠ TI := off TI (by simp)
  have dO : d ≠ TO := off TO (by simp)
  have d1 : ∀ b ∈ f1, d ≠ b := fun b hb => off b (by simp [hb])
  have d2 : ∀ b ∈ f2, d ≠ b := fun b hb => off b (by simp [hb])
  have go1 : ∀ {i : Nat} {g g' : Heap} {l : List Addr}, S1 i g → Rest l g g' → (∀ b ∈ l, b ∉ f1) → S1 i g' :=
    fun st r a => D1.frame _ _ _ st fun b hb o q => r b o (fun m => a b m hb) q
  have go2 : ∀ {i : Nat} {g g' : Heap} {l : List Addr}, S2 i g → Rest l g g' → (∀ b ∈ l, b ∉ f2) → S2 i g' :=
    fun st r a => D2.frame _ _ _ st fun b hb o q => r b o (fun m => a b m hb) q
  refine ⟨?_, ?_, ?_, ?_⟩
  · intro m
    rcases List.mem_cons.mp m with r | m
    · exact dz r
    rcases List.mem_cons.mp m with r | m
    · exact dO r
    rcases List.mem_cons.mp m with r | m
    · exact d1 _ S.mem1 r
    · exact d2 _ S.mem2 (List.mem_singleton.mp m)
  · rintro i g g' ⟨hI, a, b, c⟩ k
    have rd : Rest [d] g g' := fun x o hx q => k x o (fun r => hx (List.mem_singleton.mpr r)) q
    refine ⟨k _ _ dI.symm hI, go1 a rd fun x hx m => d1 x m (List.mem_singleton.mp hx).symm,
      go2 b rd fun x hx m => d2 x m (List.mem_singleton.mp hx).symm, ?_⟩
    rcases c with ⟨c, u, v, e⟩ | ⟨T, f, o, c, e, n⟩
    · exact .inl ⟨k _ _ dz.symm c, u, v, k _ _ dO.symm e⟩
    · exact .inr ⟨T, f, o, k _ _ dz.symm c, k _ _ (n d (by simp)) e, n⟩
  · rintro i s Q E hi ⟨hI, a, b, c⟩ ld hQ
    have l1 : i < n1 := Nat.lt_of_lt_of_le hi (Nat.min_le_left ..)
    have l2 : i < n2 := Nat.lt_of_lt_of_le hi (Nat.min_le_right ..)
    have old : ∀ {x o}, s.heap.get? x = some o → s.heap.objs.size ≠ x := fun q => Nat.ne_of_gt (Heap.lt_size q)
    obtain ⟨o1, e1⟩ := D1.live _ _ a
    obtain ⟨o2, e2⟩ := D2.live _ _ b
    rcases c with ⟨c, u, v, e⟩ | ⟨T, f, o, c, e, n⟩
    · refine wpAny_pyNext_zipD2_item S D1 D2 c hI e a b l1 l2 fun x y g tk hx hy gz gO ga gb gp _ k => ?_
      have r : Rest [z, TO, i1, i2] s.heap g := fun b o hb q => k b o (fun x => hb (by simp [x])) (fun x => hb (by simp [x]))
        (fun x => hb (by simp [x])) (fun x => hb (by simp [x])) q
      refine hQ _ _ _ g tk ⟨hx, hy⟩ (.inl ⟨_, gp, rfl, _, rfl⟩) ⟨k _ _ S.TIz S.TITO S.TIi1 S.TIi2 hI, ga, gb, .inr ⟨_, false, _, gz, gp, ?_⟩⟩ r
      simp only [List.forall_mem_cons]
      exact ⟨old c, old e1, old e2, Nat.ne_of_gt ld, fun _ q => nomatch q⟩
    · have nz : T ≠ z := n z (by simp)
      have n1' : T ≠ i1 := n i1 (by simp)
      have n2' : T ≠ i2 := n i2 (by simp)
      refine next_zip ⟨_, c, rfl⟩ (zip_out c e hI fun g gz gs => ?_)
      have r0 := Rest.of gs
      refine D1.item i _ _ _ l1 (go1 a r0 fun x hx => by rw [List.mem_singleton.mp hx]; exact S.zf1) fun x g1 t1 hx a1 s1 => ?_
      have r1 := Rest.of (show Heap.SameBut i1 g g1 from s1)
      have b1 := go2 (go2 b r0 fun x hx => by rw [List.mem_singleton.mp hx]; exact S.zf2) r1 fun x hx => by rw [List.mem_singleton.mp hx]; exact S.sep1_2
      refine D2.item i _ _ _ l2 b1 fun y g2 t2 hy b2 s2 => ?_
      have r2 := Rest.of (show Heap.SameBut i2 g1 g2 from s2)
      have rp : Rest [] g2 (g2.push { cls := .type "tuple", data := .seq #[x, y] }) := Rest.push
      have all : Rest [z, i1, i2] s.heap (g2.push { cls := .type "tuple", data := .seq #[x, y] }) := ((r0.seq r1).seq r2).seq rp
      have keep : ∀ b o, b ≠ z → b ≠ i1 → b ≠ i2 → s.heap.get? b = some o → (g2.push { cls := .type "tuple", data := .seq #[x, y] }).get? b = some o :=
        fun b o h1 h2 h3 q => all b o (by simp [h1, h2, h3]) q
      have gz2 : IsZipHeld g2 z TI TO T true := r2 _ _ (by simp [S.zi2]) (r1 _ _ (by simp [S.zi1]) gz)
      refine ⟨_, rfl, hQ _ _ _ _ t2 ⟨hx, hy⟩ (.inl ⟨_, Heap.get?_push_size _ rfl, rfl, _, rfl⟩) ⟨keep _ _ S.TIz S.TIi1 S.TIi2 hI,
        go1 (go1 a1 r2 fun x hx => by rw [List.mem_singleton.mp hx]; exact S.sep2_1) rp (fun _ h => nomatch h), go2 b2 rp (fun _ h => nomatch h),
        .inr ⟨T, true, o, rp _ _ (by simp) gz2, keep _ _ nz n1' n2' e, n⟩⟩ (all.more fun c hc => ?_)⟩
      revert c
      simp only [List.nil_append, List.cons_append, List.forall_mem_cons]
      exact ⟨by simp, by simp, by simp, fun _ q => nomatch q⟩
  · rintro s Q E ⟨hI, a, b, c⟩ hQ
    have m1 := Nat.min_le_left n1 n2
    have m2 := Nat.min_le_right n1 n2
    have hm : min n1 n2 = n1 ∨ min n1 n2 = n2 := by omega
    rcases c with ⟨c, u, v, e⟩ | ⟨T, f, o, c, e, n⟩
    · refine wpAny_pyNext_zipD2_end S D1 D2 c hI e a b m1 m2 hm fun g tk k => hQ g tk fun b o hb q => ?_
      exact k b o (fun x => hb (by simp [x])) (fun x => hb (by simp [x])) (fun x => hb (by simp [x])) (fun x => hb (by simp [x])) q
    · refine next_zip ⟨_, c, rfl⟩ (zip_out c e hI fun g gz gs => ?_)
      have r0 := Rest.of gs
      have a0 := go1 a r0 fun x hx => by rw [List.mem_singleton.mp hx]; exact S.zf1
      have b0 := go2 b r0 fun x hx => by rw [List.mem_singleton.mp hx]; exact S.zf2
      by_cases h1 : min n1 n2 < n1
      · refine D1.item _ _ _ _ h1 a0 fun x g1 t1 hx a1 s1 => ?_
        have r1 := Rest.of (show Heap.SameBut i1 g g1 from s1)
        have b1 := go2 b0 r1 fun x hx => by rw [List.mem_singleton.mp hx]; exact S.sep1_2
        have e2 : min n1 n2 = n2 := by omega
        rw [e2] at b1
        refine D2.done _ _ _ b1 fun g2 x q hx => ?_
        obtain ⟨o', ho, hc⟩ := hx
        have r2 : Rest [i2] g1 g2 := fun b o hb y => q b o (fun r => hb (List.mem_singleton.mpr r)) y
        refine ⟨x, o', rfl, ho, hc, hQ g2 t1 (((r0.seq r1).seq r2).more fun c hc => ?_)⟩
        revert c
        simp only [List.nil_append, List.cons_append, List.forall_mem_cons]
        exact ⟨by simp, by simp, by simp, fun _ q => nomatch q⟩
      · have e1 : min n1 n2 = n1 := by omega
        rw [e1] at a0
        refine D1.done _ _ _ a0 fun g2 x q hx => ?_
        obtain ⟨o', ho, hc⟩ := hx
        have r2 : Rest [i1] g g2 := fun b o hb y => q b o (fun r => hb (List.mem_singleton.mpr r)) y
        refine ⟨x, o', rfl, ho, hc, hQ g2 s.toks ((r0.seq r2).more fun c hc => ?_)⟩
        revert c
        simp only [List.nil_append, List.cons_append, List.forall_mem_cons]
        exact ⟨by simp, by simp, fun _ q => nomatch q⟩
end

/-- a zip of two texts, not asked yet -/
structure ZipNew (z TI TO i1 i2 : Addr) (x y : Str) (t u : Tok) (h : Heap) : Prop where
  zip : IsZip h z TI TO .none
  its : IsTupOf2 h TI (.ref i1) (.ref i2)
  out : ∃ a b, IsTupOf2 h TO a b
  one : h.IsStrIter i1 (strIterType x) x t 0
  two : h.IsStrIter i2 (strIterType y) y u 0

/-- the pairs of two texts' signs -/
theorem argZ {prog : Program} {w : World} (z TI TO i1 i2 : Addr) (x y : Str) (t u : Tok) (S : ZipSep2 z TI TO i1 i2 [i1] [i2]) :
    PairArg prog w "zip" z [z, TI, TO, i1, i2] [z, TO, i1, i2] (min x.cps.size y.cps.size)
      (fun i k v => (∃ c r, x.cps[i]? = some c ∧ k = .str ⟨#[c]⟩ r) ∧ (∃ c r, y.cps[i]? = some c ∧ v = .str ⟨#[c]⟩ r))
      (ZipNew z TI TO i1 i2 x y t u) := by
  refine ⟨fun s ok => ⟨_, ok.zip, rfl⟩, by decide, fun h h' ok k => ?_, fun h ok b hb => ?_, fun b hb => ?_,
    fun A s Q E hA ok h => getAttrOr_miss_zip ok.zip rfl rfl rfl zip_no_keys (by decide +kernel) hA h, fun A s d Q E hA ok hd hdf h => ?_⟩
  · obtain ⟨a, b, ho⟩ := ok.out
    obtain ⟨o1, e1, r1⟩ := ok.one
    obtain ⟨o2, e2, r2⟩ := ok.two
    exact ⟨k _ _ ok.zip, k _ _ ok.its, ⟨a, b, k _ _ ho⟩, ⟨o1, k _ _ e1, r1⟩, ⟨o2, k _ _ e2, r2⟩⟩
  · obtain ⟨_, _, ho⟩ := ok.out
    obtain ⟨o1, e1, _⟩ := ok.one
    obtain ⟨o2, e2, _⟩ := ok.two
    have all : ∀ c ∈ [z, TI, TO, i1, i2], ∃ o, h.get? c = some o := by
      simp only [List.forall_mem_cons]
      exact ⟨⟨_, ok.zip⟩, ⟨_, ok.its⟩, ⟨_, ho⟩, ⟨_, e1⟩, ⟨_, e2⟩, fun _ q => nomatch q⟩
    exact all b hb
  · have all : ∀ c ∈ [z, TO, i1, i2], c ∈ [z, TI, TO, i1, i2] := by
      simp only [List.forall_mem_cons]
      exact ⟨by simp, by simp, by simp, by simp, fun _ q => nomatch q⟩
    exact all b hb
  · have D1 := Draws.text (prog := prog) (w := w) (A := A.in1) hA i1 x t
    have D2 := Draws.text (prog := prog) (w := w) (A := A.in1) hA i2 y u
    have src := src_zip (d := d) S D1 D2 fun b hb r => hdf (by rw [r]; simpa using hb)
    exact wpAny_pyIter_zip ok.zip (h z [z, TO, i1, i2] _ s.heap s.toks src ⟨ok.its, ok.one, ok.two, .inl ⟨ok.zip, ok.out⟩⟩ (fun _ _ e => e) fun b hb => .inl hb)
end Own

namespace Own
open PySem PySem.Spec PyProof.Rows L2
/-- the pairs of two texts -/
def zipS (x y : Str) : List (Key × V) :=
  (x.cps.toList.zip y.cps.toList).map fun p => (Sum.inr ⟨#[p.1]⟩, V.str ⟨#[p.2]⟩)

theorem zipS_len (x y : Str) : (zipS x y).length = min x.cps.size y.cps.size := by
  unfold zipS
  rw [List.length_map, List.length_zip]
  rfl
theorem zipS_at {x y : Str} {i a b : Nat} (hx : x.cps[i]? = some a) (hy : y.cps[i]? = some b) :
    (zipS x y)[i]? = some (Sum.inr ⟨#[a]⟩, V.str ⟨#[b]⟩) := by
  unfold zipS
  rw [← Array.getElem?_toList] at hx hy
  rw [List.getElem?_map, List.getElem?_zip_eq_some (z := (a, b)) |>.mpr ⟨hx, hy⟩]
  rfl
theorem mergeK_snoc (kvs more : List (Key × V)) {i : Nat} {k : Key} {v : V}
    (h : more[i]? = some (k, v)) :
    mergeK kvs (more.take (i + 1)) = putK (mergeK kvs (more.take i)) k v := by
  unfold mergeK
  rw [List.take_add_one, h]
  simp

theorem call_dz {prog : Program} {w : World} {A : Around} {E : Value → Shared → Prop}
    {s : Shared} {z TI TO i1 i2 : Addr} {x y : Str} {t u : Tok}
    {Q : Value → Shared → Prop} (S : ZipSep2 z TI TO i1 i2 [i1] [i2]) (hh : A.handled = none)
    (hz : IsZip s.heap z TI TO .none) (hTI : IsTupOf2 s.heap TI (.ref i1) (.ref i2))
    (hTO : ∃ a b, IsTupOf2 s.heap TO a b) (h1 : s.heap.IsStrIter i1 (strIterType x) x t 0)
    (h2 : s.heap.IsStrIter i2 (strIterType y) y u 0) (hsz : min x.cps.size y.cps.size ≤ sizeLine)
    (h : ∀ h' tk vs, KV (mergeK [] (zipS x y)) vs →
      h'.DictOf (mixKind prog w) s.heap.objs.size vs →
      (∀ b o, b ≠ z → b ≠ TO → b ≠ i1 → b ≠ i2 → s.heap.get? b = some o → h'.get? b = some o) →
      Q (.ref s.heap.objs.size) { s with heap := h', toks := tk }) :
    wpAny (model prog w) A (call (.type "dict") [.ref z]) Q E s := by
  refine call_dict_arg (argZ z TI TO i1 i2 x y t u S) ⟨hz, hTI, hTO, h1, h2⟩
    fun s1 es hdf ok1 => ?_
  subst es
  refine updateFrom_arg (A := A.in1) (Tab := fun i h => ∃ vs,
      KV (mergeK [] ((zipS x y).take i)) vs ∧ h.DictOf (mixKind prog w) s.heap.objs.size vs)
    (argZ z TI TO i1 i2 x y t u S) .none hh ok1 hdf ?_ (fun _ _ ⟨_, _, tb⟩ => tb.lt_size)
    (fun i g g' wr' hd _ ⟨vs, r, tb⟩ hk => ⟨vs, r, tb.at' fun o e => hk _ o hd e⟩) ?_ ?_
  · exact ⟨[], .nil, Heap.DictOf.new s.heap⟩
  · intro i key v s' Q' E' hi hrel tb _ hQ
    obtain ⟨⟨c, r, hc, rfl⟩, ⟨c', r', hc', rfl⟩⟩ := hrel
    obtain ⟨vs, rel, tb⟩ := tb
    have ez := zipS_at hc hc'
    have hl : vs.length < sizeLine := by
      have l1 := rel.length
      have l2 := length_mergeK ((zipS x y).take i) []
      rw [List.length_take, List.length_nil] at l2
      omega
    refine wpAny_dictSet_pairs (k := (Sum.inr ⟨#[c]⟩ : Key)) (hsz := by omega) (mixKind_str prog w _ _) tb fun h' hm' hs => ?_
    refine hQ h' _ ⟨_, ?_, hm'⟩ hs
    rw [mergeK_snoc _ _ ez]
    exact rel.put _ ⟨_, rfl⟩
  · intro h' tk tb hk
    obtain ⟨vs, rel, tb⟩ := tb
    rw [List.take_of_length_le (by rw [zipS_len]; exact Nat.le_refl _)] at rel
    refine ⟨rfl, h h' tk vs rel tb fun b o a1 a2 a3 a4 e => hk b o (Nat.ne_of_lt (Heap.lt_size e)) ?_
      (Heap.get?_push_of_some _ e)⟩
    intro hm
    simp only [List.mem_cons, List.not_mem_nil, or_false] at hm
    rcases hm with q | q | q | q
    · exact a1 q
    · exact a2 q
    · exact a3 q
    · exact a4 q

def tDZ (t : TA) : TE := fun σ H Q => t σ H fun vs H1 => ∃ x y : Str, vs = [.str x, .str y] ∧
  min x.cps.size y.cps.size ≤ sizeLine ∧
  ∀ d, H1 d = none → Q (.ref d) (upd H1 d (.dK (mergeK [] (zipS x y))))

theorem pe_dz {X : Cx} {a b : Expr} {t : TA} {p p2 q pos : Pos} (hg : Gl X "dict")
    (hm : X.mg "dict" = none) (hg2 : Gl X "zip") (hm2 : X.mg "zip" = none) (ha : PA X [a, b] t)
    (hc : X.calm = true := by rfl)
    (n1 : starEach [a, b] X.env = (false, eval a X.env) :: starEach [b] X.env := by rfl)
    (n2 : starEach [b] X.env = (false, eval b X.env) :: starEach [] X.env := by rfl) :
    PE X (.Call (.Name "dict" p) [.Call (.Name "zip" p2) [a, b] [] q] [] pos) (tDZ t) := by
  refine ⟨fun pins s σ H Q I h => ?_⟩
  refine Call_ (ld_blt I hg hm (u := .type "dict") (by decide +kernel) ?_)
  refine PyProof.Rows.callWith_type1 (PyProof.Rows.args_cons ?_ rfl) rfl rfl
  refine Call_ (ld_blt I hg2 hm2 (u := .type "zip") (by decide +kernel) ?_)
  refine PyProof.Rows.callWith_type1 (thn (ha.run q pins s σ H _ I h)
    fun us s1 ⟨vs, H1, I1, r1, q1⟩ => ?_) n1 (by rw [n2]; rfl)
  obtain ⟨x, y, ex, hsz, q1⟩ := q1
  subst ex
  obtain ⟨u1, u2, eu, rx, ry⟩ := vals2 r1
  subst eu
  obtain ⟨tx, rfl⟩ := rx
  obtain ⟨ty, rfl⟩ := ry
  refine zip_begins2 (begins_text x tx) (begins_text y ty) trivial trivial
    fun h' hz hTI hTO g1 g2 hs hk => ?_
  refine PyProof.Rows.args_nil ?_
  have S := zip_sep2 (N := s1.heap.objs.size) (fp1 := []) (fp2 := []) (fun b hb => nomatch hb)
    (fun b hb => nomatch hb)
  refine call_dz (s := { s1 with heap := h' }) (t := tx) (u := ty) S (I1.ok.hd hc) hz hTI
    ⟨_, _, hTO⟩ ⟨_, g1, rfl, rfl⟩ ⟨_, g2, rfl, rfl⟩ hsz fun h2 tk vs rel hd hk2 => ?_
  have keep : ∀ b o, s1.heap.get? b = some o → h2.get? b = some o := fun b o e => by
    have lb : b < s1.heap.objs.size := Heap.lt_size e
    have k : ∀ j : Nat, b ≠ s1.heap.objs.size + j := fun j e => by
      rw [e] at lb
      exact absurd lb (Nat.not_lt_of_le (Nat.le_add_right _ _))
    exact hk2 b o (k 4) (k 3) (k 0) (k 1) (hk b o e)
  have big : s1.heap.objs.size ≤ h'.objs.size := by rw [hs]; exact Nat.le_add_right _ _
  have hmod : (h'.objs.size == sysModules) = false :=
    beq_eq_false_iff_ne.mpr (Nat.ne_of_gt (Nat.lt_of_lt_of_le I1.big big))
  have hlen : (mergeK [] (zipS x y)).length ≤ sizeLine := by
    have l2 := length_mergeK (zipS x y) []
    rw [List.length_nil, zipS_len] at l2
    omega
  exact ⟨.ref h'.objs.size, upd H1 h'.objs.size (.dK (mergeK [] (zipS x y))),
    I1.laid (t' := tk) keep big (show ObjOk X.prog X.w _ _ _ (.dK (mergeK [] (zipS x y))) from
      ⟨hlen, hmod, vs, rel, hd⟩), rfl, q1 _ (I1.hok.fresh big)⟩

/-- what the dict says of the i-th sign, the first text without a sign twice -/
theorem valV_merge_out (k : Key) : ∀ (more kvs : List (Key × V)), (∀ p ∈ more, p.1 ≠ k) →
    valV (mergeK kvs more) k = valV kvs k
  | [], kvs, _ => rfl
  | p :: r, kvs, h => by
    show valV (mergeK (putK kvs p.1 p.2) r) k = valV kvs k
    rw [valV_merge_out k r _ fun q hq => h q (List.mem_cons_of_mem _ hq), valV_put,
      if_neg fun e => h p (List.mem_cons_self ..) e.symm]
theorem valV_merge {k : Key} {v : V} : ∀ (more kvs : List (Key × V)) (i : Nat),
    (more.map (·.1)).Nodup → more[i]? = some (k, v) → valV (mergeK kvs more) k = some v
  | [], _, _, _, h => by simp at h
  | p :: r, kvs, 0, nd, h => by
    have e : p = (k, v) := Option.some.inj h
    subst e
    show valV (mergeK (putK kvs k v) r) k = some v
    rw [List.map_cons, List.nodup_cons] at nd
    rw [valV_merge_out k r _ fun q hq e => nd.1 (e ▸ List.mem_map_of_mem (f := (·.1)) hq),
      valV_put, if_pos rfl]
  | p :: r, kvs, i + 1, nd, h => by
    rw [List.map_cons, List.nodup_cons] at nd
    exact valV_merge r _ i nd.2 h
end Own

namespace Own
open PySem PySem.Spec PyProof.Rows L2 SX
/-! ### texts -/
theorem idx_of {c : Nat} : ∀ (a : List Nat) (i : Nat), a[i]? = some c → (∀ k, k < i → a[k]? ≠ some c) → a.idxOf c = i
  | [], i, h, _ => by simp at h
  | x :: r, 0, h, _ => by
    have e : x = c := Option.some.inj h
    rw [e, List.idxOf_cons_self]
  | x :: r, i + 1, h, hk => by
    have ne : x ≠ c := fun e => hk 0 (Nat.succ_pos _) (by rw [e]; rfl)
    have ih := idx_of r i h fun k lt e => hk (k + 1) (Nat.succ_lt_succ lt) e
    have nb : (x == c) = false := beq_eq_false_iff_ne.mpr ne
    rw [List.idxOf_cons, nb, ih]
    rfl
theorem occ1 {a : List Nat} {c : Nat} (h : c ∈ a) :
    ∃ rest, Builtin.Str.occurrences (S a) (S [c]) 0 (S a).length 1 = a.idxOf c :: rest := by
  obtain ⟨j, hj⟩ := List.mem_iff_getElem?.mp h
  rcases StrLaws.occ_head (S a) (S [c]) 1 (Nat.le_refl _) with ⟨_, hn⟩ | ⟨i, r, e, hi, hk⟩
  · exact absurd ((StrLaws.subAt_one (S a) c j).mpr hj) (hn j)
  · have h1 : a[i]? = some c := (StrLaws.subAt_one (S a) c i).mp hi
    have e2 := idx_of a i h1 fun k lt q => hk k lt ((StrLaws.subAt_one (S a) c k).mpr q)
    exact ⟨r, by rw [e, e2]⟩
theorem join1 : ∀ cs : List Nat, TL.joinL [] (cs.map fun c => [c]) = cs
  | [] => rfl
  | [_] => rfl
  | x :: y :: r => by
    show [x] ++ ([] ++ TL.joinL [] ((y :: r).map fun c => [c])) = x :: y :: r
    rw [join1 (y :: r)]
    rfl
theorem empty_S : Str.ofString "" = S [] := rfl
theorem joinC (cs : List Nat) : Txt.join (Str.ofString "") (cs.map fun c => S [c]) = S cs := by
  rw [empty_S]
  have e := join_S [] (cs.map fun c => [c])
  rw [List.map_map, join1] at e
  exact e
theorem joinT (ts : List (List Nat)) : Txt.join (Str.ofString "") (ts.map S) = S ts.flatten := by
  rw [empty_S, join_S]
  congr 2
  induction ts with
  | nil => rfl
  | cons x r ih =>
    cases r with
    | nil => simp [TL.joinL]
    | cons y r =>
      show x ++ ([] ++ TL.joinL [] (y :: r)) = _
      rw [ih]
      rfl
theorem one_len (cs : List Nat) : ((cs.map fun c => S [c]).map (·.length)).sum = cs.length := by
  induction cs with
  | nil => rfl
  | cons c r ih =>
    rw [List.map_cons, List.map_cons, List.sum_cons, ih, List.length_cons, S_len]
    show 1 + r.length = _
    omega
theorem az : Str.ofString "abcdefghijklmnopqrstuvwxyz" = S (List.range' 97 26) := by decide +kernel

/-! ### turns -/
theorem get_idx {gs : List Nat} {c : Nat} (h : c ∈ gs) : gs[gs.idxOf c]? = some c := by
  rw [List.getElem?_eq_getElem (List.idxOf_lt_length_of_mem h), List.getElem_idxOf]
def tau (gs p : List Nat) (c : Nat) : Nat := p.getD (gs.idxOf c) 0
theorem tau_at {gs p : List Nat} {c : Nat} (h : c ∈ gs) (hl : p.length = gs.length) : p[gs.idxOf c]? = some (tau gs p c) := by
  have lt : gs.idxOf c < p.length := by rw [hl]; exact List.idxOf_lt_length_of_mem h
  unfold tau
  rw [List.getD_eq_getElem?_getD, List.getElem?_eq_getElem lt]
  rfl
theorem tau_mem {gs p : List Nat} {c : Nat} (h : c ∈ gs) (hl : p.length = gs.length) : tau gs p c ∈ p :=
  List.mem_of_getElem? (tau_at h hl)
theorem tau_self {gs : List Nat} {c : Nat} (h : c ∈ gs) : tau gs gs c = c := by
  have e := tau_at h (rfl : gs.length = gs.length)
  have e2 : gs[gs.idxOf c]? = some c := get_idx h
  rw [e] at e2
  exact Option.some.inj e2
theorem tau_map {gs m : List Nat} (f : Nat → Nat) {c : Nat} (h : c ∈ gs) (hl : m.length = gs.length) :
    tau gs (m.map f) c = f (tau gs m c) := by
  have e := tau_at (p := m.map f) h (by rw [List.length_map, hl])
  rw [List.getElem?_map, tau_at h hl] at e
  exact (Option.some.inj e).symm
theorem idx_get {y : List Nat} (nd : y.Nodup) {i c : Nat} (h : y[i]? = some c) : y.idxOf c = i := by
  refine idx_of y i h fun k lt e => ?_
  obtain ⟨h1, e1⟩ := List.getElem?_eq_some_iff.mp h
  obtain ⟨h2, e2⟩ := List.getElem?_eq_some_iff.mp e
  have : k = i := (List.getElem_inj nd).mp (e2.trans e1.symm)
  omega
/-- back again -/
theorem tau_back {gs y : List Nat} (nd : y.Nodup) (hl : y.length = gs.length) {x : Nat} (h : x ∈ gs) :
    tau y gs (tau gs y x) = x := by
  have e := idx_get nd (tau_at h hl)
  unfold tau at e ⊢
  rw [e]
  exact tau_self h
def und (gs y : List Nat) : List Nat := gs.map (tau y gs)
theorem und_back {gs y : List Nat} (nd : y.Nodup) (hl : y.length = gs.length) (hm : ∀ c ∈ y, c ∈ gs) {x : Nat} (h : x ∈ gs) :
    tau gs (und gs y) (tau gs y x) = x := by
  have hy := hm _ (tau_mem h hl)
  unfold und
  rw [tau_map _ hy rfl, tau_self hy]
  exact tau_back nd hl h

/-! ### how often -/
def it (gs t : List Nat) : Nat → List Nat
  | 0 => t
  | j + 1 => (it gs t j).map (tau gs t)
def rho (p : List Nat) : Nat → List Nat
  | 0 => p
  | j + 1 => (rho p j).map fun i => p.getD i 0
def lists (n : Nat) : Nat → List (List Nat)
  | 0 => [[]]
  | k + 1 => (List.range n).flatMap fun a => (lists n k).map fun l => a :: l
theorem mem_lists {n : Nat} : ∀ l : List Nat, (∀ a ∈ l, a < n) → l ∈ lists n l.length
  | [], _ => List.mem_singleton.mpr rfl
  | a :: r, h => by
    refine List.mem_flatMap.mpr ⟨a, List.mem_range.mpr (h a (List.mem_cons_self ..)), List.mem_map.mpr ⟨r, ?_, rfl⟩⟩
    exact mem_lists r fun b hb => h b (List.mem_cons_of_mem _ hb)
theorem rho_all : ∀ n ∈ List.range 5, ∀ p ∈ lists n n, p.Nodup → ∃ j ∈ List.range 12, rho p j = List.range n := by
  decide +kernel
theorem it_rho {gs t p : List Nat} (nd : gs.Nodup) (hl : t.length = gs.length) (hp : ∀ i ∈ p, i < gs.length) (hpl : p.length = gs.length)
    (ht : t = p.map fun i => gs.getD i 0) : ∀ j, it gs t j = (rho p j).map (fun i => gs.getD i 0) ∧ ∀ i ∈ rho p j, i < gs.length
  | 0 => ⟨ht, hp⟩
  | j + 1 => by
    obtain ⟨ih, hi⟩ := it_rho nd hl hp hpl ht j
    have pd : ∀ i, i < gs.length → p.getD i 0 ∈ p := fun i lt => by
      rw [List.getD_eq_getElem?_getD, List.getElem?_eq_getElem (by omega)]
      exact List.getElem_mem _
    refine ⟨?_, fun i hm => ?_⟩
    · show (it gs t j).map (tau gs t) = ((rho p j).map fun i => p.getD i 0).map fun i => gs.getD i 0
      rw [ih, List.map_map, List.map_map]
      refine List.map_congr_left fun i hm => ?_
      have lt := hi i hm
      show tau gs t (gs.getD i 0) = gs.getD (p.getD i 0) 0
      have e1 : gs[i]? = some (gs.getD i 0) := by
        rw [List.getD_eq_getElem?_getD, List.getElem?_eq_getElem lt]; rfl
      unfold tau
      rw [idx_get nd e1, ht]
      have lp : i < p.length := by omega
      have e2 : p.getD i 0 = p[i] := by
        rw [List.getD_eq_getElem?_getD, List.getElem?_eq_getElem lp]; rfl
      rw [e2, List.getD_eq_getElem?_getD, List.getElem?_map, List.getElem?_eq_getElem lp]
      rfl
    · have hm2 : i ∈ (rho p j).map fun i => p.getD i 0 := hm
      obtain ⟨k, hk, rfl⟩ := List.mem_map.mp hm2
      exact hp _ (pd k (hi k hk))
theorem ord_ex {gs t : List Nat} (nd : gs.Nodup) (h4 : gs.length ≤ 4) (hp : t.Perm gs) : ∃ j, j < 12 ∧ it gs t j = gs := by
  have hl := hp.length_eq
  have lt : ∀ i ∈ t.map gs.idxOf, i < gs.length := fun i hm => by
    obtain ⟨c, hc, rfl⟩ := List.mem_map.mp hm
    exact List.idxOf_lt_length_of_mem (hp.mem_iff.mp hc)
  have ll : (t.map gs.idxOf).length = gs.length := by rw [List.length_map, hl]
  have back : t = (t.map gs.idxOf).map fun i => gs.getD i 0 := by
    rw [List.map_map]
    refine (List.map_id t).symm.trans (List.map_congr_left fun c hc => ?_)
    exact (tau_self (hp.mem_iff.mp hc)).symm
  have ndt : t.Nodup := hp.nodup_iff.mpr nd
  have ndp : (t.map gs.idxOf).Nodup := by
    have h : ((t.map gs.idxOf).map fun i => gs.getD i 0).Nodup := by rw [← back]; exact ndt
    exact (List.pairwise_map.mp h).imp fun hne e => hne (congrArg (fun i => gs.getD i 0) e)
  have hm := mem_lists (n := gs.length) _ lt
  rw [ll] at hm
  obtain ⟨j, hj, e⟩ := rho_all gs.length (List.mem_range.mpr (by omega)) _ hm ndp
  refine ⟨j, List.mem_range.mp hj, ?_⟩
  rw [(it_rho nd hl lt ll back j).1, e]
  refine List.ext_getElem? fun i => ?_
  rw [List.getElem?_map]
  by_cases h : i < gs.length
  · rw [List.getElem?_range h, List.getElem?_eq_getElem h]
    show some (gs.getD i 0) = _
    rw [List.getD_eq_getElem?_getD, List.getElem?_eq_getElem h]
    rfl
  · rw [List.getElem?_eq_none (by rw [List.length_range]; omega), List.getElem?_eq_none (by omega)]
    rfl
theorem it_mem {gs t : List Nat} (hp : t.Perm gs) : ∀ j, (it gs t j).length = gs.length ∧ ∀ c ∈ it gs t j, c ∈ gs
  | 0 => ⟨hp.length_eq, fun c hc => hp.mem_iff.mp hc⟩
  | j + 1 => by
    obtain ⟨a, b⟩ := it_mem hp j
    refine ⟨by show ((it gs t j).map (tau gs t)).length = _; rw [List.length_map, a], fun c hc => ?_⟩
    have hc2 : c ∈ (it gs t j).map (tau gs t) := hc
    obtain ⟨x, hx, rfl⟩ := List.mem_map.mp hc2
    exact hp.mem_iff.mp (tau_mem (b x hx) hp.length_eq)
/-- the first j at which it is gs -/
theorem ord_least {gs t : List Nat} (nd : gs.Nodup) (h4 : gs.length ≤ 4) (hp : t.Perm gs) :
    ∃ J, J < 12 ∧ it gs t J = gs ∧ ∀ k, k < J → it gs t k ≠ gs := by
  obtain ⟨j, hj, e⟩ := ord_ex nd h4 hp
  have main : ∀ n, n ≤ j → it gs t n = gs → ∃ J, J < 12 ∧ it gs t J = gs ∧ ∀ k, k < J → it gs t k ≠ gs := by
    intro n
    induction n using Nat.strongRecOn with
    | ind n ih =>
      intro hn en
      by_cases h : ∃ k, k < n ∧ it gs t k = gs
      · obtain ⟨k, lt, ek⟩ := h
        exact ih k lt (by omega) ek
      · exact ⟨n, by omega, en, fun k lt ek => h ⟨k, lt, ek⟩⟩
  exact main j (Nat.le_refl _) e

/-! ### letters -/
def lets (f s n : Nat) : List Nat := (List.range n).map fun k => 97 + (f + s * k) % 26
theorem lets_nd : ∀ f ∈ List.range 26, ∀ s ∈ [1, 3, 5, 25, 7], ∀ n ∈ [2, 3, 4], (lets f s n).Nodup := by
  decide +kernel
structure Good (gs : List Nat) : Prop where
  lo : 2 ≤ gs.length
  hi : gs.length ≤ 4
  nd : gs.Nodup
  az : ∀ c ∈ gs, 97 ≤ c ∧ c ≤ 122
theorem lets_good {f s n : Nat} (hf : f < 26) (hs : s ∈ [1, 3, 5, 25, 7]) (hn : n ∈ [2, 3, 4]) : Good (lets f s n) := by
  have hl : (lets f s n).length = n := by unfold lets; rw [List.length_map, List.length_range]
  have h2 : 2 ≤ n ∧ n ≤ 4 := by
    simp only [List.mem_cons, List.not_mem_nil, or_false] at hn
    omega
  refine ⟨by omega, by omega, lets_nd f (List.mem_range.mpr hf) s hs n hn, fun c hc => ?_⟩
  obtain ⟨k, _, rfl⟩ := List.mem_map.mp hc
  omega

/-! ### the dict of two texts -/
theorem dz_get {gs t : List Nat} {c : Nat} (nd : gs.Nodup) (hl : t.length = gs.length) (h : c ∈ gs) :
    valV (mergeK [] (zipS (S gs) (S t))) (Sum.inr (S [c])) = some (.str (S [tau gs t c])) := by
  refine valV_merge _ _ (gs.idxOf c) ?_ ?_
  · have e : (zipS (S gs) (S t)).map (·.1) = gs.map fun c => (Sum.inr (S [c]) : Key) := by
      unfold zipS
      rw [List.map_map]
      show (List.zip gs t).map (fun p => (Sum.inr (S [p.1]) : Key)) = _
      have : (fun p : Nat × Nat => (Sum.inr (S [p.1]) : Key)) = (fun c => (Sum.inr (S [c]) : Key)) ∘ Prod.fst := rfl
      rw [this, ← List.map_map, List.map_fst_zip (by omega)]
    rw [e]
    refine List.pairwise_map.mpr (nd.imp fun hne q => hne ?_)
    have q1 := Sum.inr.inj q
    have q2 := S_inj q1
    exact List.head_eq_of_cons_eq q2
  · refine zipS_at (x := S gs) (y := S t) (i := gs.idxOf c) (a := c) (b := tau gs t c) ?_ ?_
    · show (gs.toArray)[gs.idxOf c]? = some c
      rw [List.getElem?_toArray]
      exact get_idx h
    · show (t.toArray)[gs.idxOf c]? = some _
      rw [List.getElem?_toArray]
      exact tau_at h hl
end Own

namespace Own
open PySem PySem.Spec PyProof.Rows L2 SX RZ
/-! ### the drawer -/
def RngV (H : Hp) (r l : Addr) (ns : List Int) (i b s c : Int) : Prop :=
  0 ≤ i ∧ H r = some (.lst [.ref l, .int i, .int b, .int s, .int c]) ∧ H l = some (.lst (ns.map V.int))
def RngL (H : Hp) (r l : Addr) : Prop := ∃ ns i b s c, RngV H r l ns i b s c
def Rng (H : Hp) (r : Addr) : Prop := ∃ l, RngL H r l
/-- all but r as before, and at r a drawer over the same cells -/
def Go (r : Addr) (H H' : Hp) : Prop :=
  (∀ b o, b ≠ r → H b = some o → H' b = some o) ∧ ∃ l, RngL H r l ∧ RngL H' r l

theorem ints_ne {a : List Int} {l : Addr} {xs : List V} : HO.lst (a.map V.int) ≠ HO.lst (V.ref l :: xs) := by
  intro h
  injection h with h
  cases a with
  | nil => cases h
  | cons x r =>
    injection h with h1 h2
    cases h1
theorem RngV.ne {H : Hp} {r l : Addr} {ns : List Int} {i b s c : Int} (h : RngV H r l ns i b s c) : l ≠ r :=
  ne_of h.2.2 h.2.1 ints_ne
theorem RngV.put {H : Hp} {r l : Addr} {ns : List Int} {i b s c i' b' s' c' : Int}
    (h : RngV H r l ns i b s c) (hi : 0 ≤ i') :
    RngV (upd H r (.lst [.ref l, .int i', .int b', .int s', .int c'])) r l ns i' b' s' c' :=
  ⟨hi, upd_same, by rw [upd_ne h.ne]; exact h.2.2⟩
theorem RngL.inj {r l l' : Addr} {H : Hp} (a : RngL H r l) (b : RngL H r l') : l = l' := by
  obtain ⟨ns, i, b', s, c, R⟩ := a
  obtain ⟨ns', i', b'', s', c', R'⟩ := b
  have e := R.2.1.symm.trans R'.2.1
  injection e with e
  injection e with e
  injection e with e1 e2
  injection e1
theorem RngL.same {r l : Addr} {H H' : Hp} (h : RngL H r l) (s : Same H H') : RngL H' r l := by
  obtain ⟨ns, i, b, z, c, R⟩ := h
  exact ⟨ns, i, b, z, c, R.1, s _ _ R.2.1, s _ _ R.2.2⟩
theorem Rng.same {r : Addr} {H H' : Hp} (h : Rng H r) (s : Same H H') : Rng H' r := let ⟨l, h⟩ := h; ⟨l, h.same s⟩
theorem Go.rng {r : Addr} {H H' : Hp} (g : Go r H H') : Rng H' r := let ⟨l, _, h⟩ := g.2; ⟨l, h⟩
theorem Go.rng0 {r : Addr} {H H' : Hp} (g : Go r H H') : Rng H r := let ⟨l, h, _⟩ := g.2; ⟨l, h⟩
theorem Go.trans {r : Addr} {H H1 H2 : Hp} (a : Go r H H1) (b : Go r H1 H2) : Go r H H2 := by
  obtain ⟨a1, l, a2, a3⟩ := a
  obtain ⟨b1, l', b2, b3⟩ := b
  have e := a3.inj b2
  subst e
  exact ⟨fun x o nx e => b1 x o nx (a1 x o nx e), l, a2, b3⟩
theorem Go.refl {r : Addr} {H : Hp} (h : Rng H r) : Go r H H := let ⟨l, h⟩ := h; ⟨fun _ _ _ e => e, l, h, h⟩
theorem Go.of {r : Addr} {H H' : Hp} (h : Rng H r) (s : Same H H') : Go r H H' :=
  let ⟨l, h⟩ := h; ⟨fun _ _ _ e => s _ _ e, l, h, h.same s⟩
theorem Go.same {r : Addr} {H H1 H2 : Hp} (a : Go r H H1) (s : Same H1 H2) : Go r H H2 := a.trans (Go.of a.rng s)
theorem Go.after {r : Addr} {H H1 H2 : Hp} (h : Rng H r) (s : Same H H1) (a : Go r H1 H2) : Go r H H2 := (Go.of h s).trans a
theorem RngL.ex {r l : Addr} {H : Hp} (h : RngL H r l) : (∃ xs, H r = some (.lst xs)) ∧ ∃ xs, H l = some (.lst xs) := by
  obtain ⟨ns, i, b, s, c, R⟩ := h
  exact ⟨⟨_, R.2.1⟩, ⟨_, R.2.2⟩⟩
theorem Rng.ex {r : Addr} {H : Hp} (h : Rng H r) : ∃ xs, H r = some (.lst xs) := let ⟨_, h⟩ := h; h.ex.1
/-- a list made on the way, new at H, is written -/
theorem Go.put {r D : Addr} {H H' : Hp} {o : HO} (g : Go r H H') (nD : H D = none) : Go r H (upd H' D o) := by
  obtain ⟨g1, l, h, h'⟩ := g
  obtain ⟨⟨x1, e1⟩, ⟨x2, e2⟩⟩ := h.ex
  have n1 : r ≠ D := ne_of_none e1 nD
  have n2 : l ≠ D := ne_of_none e2 nD
  refine ⟨fun b u nb e => ?_, l, h, ?_⟩
  · rw [upd_ne (ne_of_none e nD)]
    exact g1 b u nb e
  · obtain ⟨ns, i, b, z, c, R⟩ := h'
    exact ⟨ns, i, b, z, c, R.1, by rw [upd_ne n1]; exact R.2.1, by rw [upd_ne n2]; exact R.2.2⟩
theorem same_new {H : Hp} {p : Addr} {o : HO} (h : H p = none) : Same H (upd H p o) := fun b x e => by
  rw [upd_ne (ne_of_none e h)]
  exact e
theorem Go.seq {K : PySem.W.Frag} {r a : Addr} {H H' : Hp} {xs : List V} (g : Go r H H') (ne : a ≠ r) (h : SqL K H a xs) : SqL K H' a xs := by
  rcases h with (h | ⟨o, h⟩) | h
  · exact .inl (.inl (g.1 _ _ ne h))
  · exact .inl (.inr ⟨o, g.1 _ _ ne h⟩)
  · exact .inr h
theorem small {n : Nat} (h : n ≤ 1000) : n ≤ sizeLine := Nat.le_of_lt (small1000 h)
/-! ### equal data -/
def Flat : V → Prop
  | .non => True
  | .bl _ => True
  | .int _ => True
  | .str _ => True
  | _ => False
/-- two values that are the same data, less than n deep -/
def Eqd (K : PySem.W.Frag) (H : Hp) : Nat → V → V → Prop
  | 0, _, _ => False
  | n + 1, x, y => (x = y ∧ Flat x) ∨ ∃ a b xs ys, x = .ref a ∧ y = .ref b ∧
      ((SqL K H a xs ∧ SqL K H b ys) ∨ (SqT K H a xs ∧ SqT K H b ys)) ∧ xs.length ≤ 1000 ∧ xs.length = ys.length ∧
      ∀ (i : Nat) u v, xs[i]? = some u → ys[i]? = some v → Eqd K H n u v
theorem same_t {K : PySem.W.Frag} {H H' : Hp} {a : Addr} {xs : List V} (e : Same H H') (h : SqT K H a xs) : SqT K H' a xs := by
  rcases h with (h | ⟨o, h⟩) | h
  · exact .inl (.inl (e _ _ h))
  · exact .inl (.inr ⟨o, e _ _ h⟩)
  · exact .inr h
theorem Eqd.same {K : PySem.W.Frag} {H H' : Hp} (s : Same H H') : ∀ {n : Nat} {x y : V}, Eqd K H n x y → Eqd K H' n x y
  | 0, _, _, h => h.elim
  | n + 1, x, y, h => by
    rcases h with h | ⟨a, b, xs, ys, e1, e2, h, l1, l2, k⟩
    · exact Or.inl h
    · refine Or.inr ⟨a, b, xs, ys, e1, e2, ?_, l1, l2, fun i u v hu hv => (k i u v hu hv).same s⟩
      rcases h with ⟨h1, h2⟩ | ⟨h1, h2⟩
      · exact .inl ⟨s.seq h1, s.seq h2⟩
      · exact .inr ⟨same_t s h1, same_t s h2⟩
theorem Eqd.refl {K : PySem.W.Frag} {H : Hp} {n : Nat} {x : V} (h : Flat x) : Eqd K H (n + 1) x x := Or.inl ⟨rfl, h⟩
/-- two lists of flat things -/
theorem Eqd.lst {K : PySem.W.Frag} {H : Hp} {n : Nat} {a b : Addr} {xs : List V} (h1 : H a = some (.lst xs)) (h2 : H b = some (.lst xs)) (hl : xs.length ≤ 1000) (hf : ∀ x ∈ xs, Flat x) :
    Eqd K H (n + 2) (.ref a) (.ref b) := by
  refine Or.inr ⟨a, b, xs, xs, rfl, rfl, .inl ⟨.inl (.inl h1), .inl (.inl h2)⟩, hl, rfl, fun i u v hu hv => ?_⟩
  have e := Option.some.inj (hu.symm.trans hv)
  subst e
  exact Eqd.refl (hf _ (List.mem_of_getElem? hu))
theorem tyL {K : PySem.W.Frag} {H : Hp} {a : Addr} {xs : List V} (h : SqL K H a xs) : TyX K H (.ref a) (.type "list") := by
  rcases h with (h | ⟨o, h⟩) | ⟨o, its, n, hk, hc, _⟩
  · exact .base (.lst h)
  · exact .base (.frz h)
  · exact .kList hk hc
theorem tyT {K : PySem.W.Frag} {H : Hp} {a : Addr} {xs : List V} (h : SqT K H a xs) : TyX K H (.ref a) (.type "tuple") := by
  rcases h with (h | ⟨o, h⟩) | ⟨o, its, n, hk, hc, _⟩
  · exact .base (.tup h)
  · exact .fTuple h
  · exact .kTuple hk hc
theorem walk_zT {K : PySem.W.Frag} {a b : Addr} {xs ys : List V} {n : Nat} (hn : n = min xs.length ys.length) :
    Walk (ItzT K a b) n (fun H => SqT K H a xs ∧ SqT K H b ys) (YPair (fun i => xs[i]?) (fun i => ys[i]?)) := by
  refine ⟨fun i H hi q => ?_, fun H q => ⟨xs, ys, q.1, q.2, by omega⟩, ?_⟩
  · obtain ⟨lx, ly⟩ := Nat.lt_min.mp (hn ▸ hi)
    exact ⟨xs, ys, _, _, q.1, q.2, List.getElem?_eq_getElem lx, List.getElem?_eq_getElem ly⟩
  · rintro i H v H' _ ⟨qa, qb⟩ ⟨T, x, z, e1, e2, e3, a, b⟩
    exact ⟨T, x, z, e1, e2, e3, a _ qa, b _ qb⟩

theorem kit2 {K : PySem.W.Frag} {t a b : String} {r s : Bool} (h1 : kitB t a = some r) (h2 : kitB t b = some s) :
    PySem.W.kitAny K (.type t) [.type a, .type b] = some (r || s) := by
  refine kitAny_cons (kit_ty h1) (fun e => ?_) (fun e => by rw [e]; rfl)
  subst e
  refine kitAny_cons (kit_ty h2) (fun e => ?_) (fun e => by rw [e]; rfl)
  subst e
  rfl
theorem flat_ty {K : PySem.W.Frag} {x : V} (h : Flat x) : ∃ t, (∀ H, TyX K H x (.type t)) ∧ kitB t "list" = some false ∧ kitB t "tuple" = some false ∧
    (∃ b, kitB t "bool" = some b) ∧ (∃ b, kitB t "int" = some b) ∧ ∃ b, kitB t "str" = some b := by
  cases x with
  | non => exact ⟨"NoneType", fun _ => .base .non, by decide +kernel, by decide +kernel, ⟨false, by decide +kernel⟩, ⟨false, by decide +kernel⟩, ⟨false, by decide +kernel⟩⟩
  | bl b => exact ⟨"bool", fun _ => .base (.bl b), by decide +kernel, by decide +kernel, ⟨true, by decide +kernel⟩, ⟨true, by decide +kernel⟩, ⟨false, by decide +kernel⟩⟩
  | int i => exact ⟨"int", fun _ => .base (.int i), by decide +kernel, by decide +kernel, ⟨false, by decide +kernel⟩, ⟨true, by decide +kernel⟩, ⟨false, by decide +kernel⟩⟩
  | str z => exact ⟨"str", fun _ => .base (.str z), by decide +kernel, by decide +kernel, ⟨false, by decide +kernel⟩, ⟨false, by decide +kernel⟩, ⟨true, by decide +kernel⟩⟩
  | _ => exact h.elim
def spDraws (K : PySem.W.Frag) : Sp := fun vs H Q _ => ∃ (a : Addr) (ns : List Int), vs = [.ref a] ∧
  SqL K H a (ns.map V.int) ∧ ∀ H' r, Same H H' → H r = none → Rng H' r → Q (.ref r) H'
def spDraw : Sp := fun vs H Q _ => ∃ (r : Addr) (n : Int), vs = [.ref r, .int n] ∧ 0 < n ∧ n < 1000000 ∧
  Rng H r ∧ ∀ H' k, Go r H H' → 0 ≤ k → k < n → Q (.int k) H'
def spPick (K : PySem.W.Frag) : Sp := fun vs H Q _ => ∃ (r : Addr) (x : V), vs = [.ref r, x] ∧ Rng H r ∧
  ((∃ a xs, x = .ref a ∧ a ≠ r ∧ SqL K H a xs ∧ 0 < xs.length ∧ xs.length ≤ 1000 ∧ ∀ H' v, Go r H H' → v ∈ xs → Q v H') ∨
   (∃ cs : List Nat, x = .str (S cs) ∧ 0 < cs.length ∧ cs.length ≤ 1000 ∧ ∀ H' c, Go r H H' → c ∈ cs → Q (.str (S [c])) H'))
def spLetters : Sp := fun vs H Q _ => ∃ (r : Addr) (m : Int), vs = [.ref r, .int m] ∧ 2 ≤ m ∧ Rng H r ∧
  ∀ H' gs, Go r H H' → Good gs → (gs.length : Int) ≤ m → Q (.str (S gs)) H'
def spTurn : Sp := fun vs H Q _ => ∃ (r : Addr) (gs : List Nat), vs = [.ref r, .str (S gs)] ∧ gs.length ≤ 1000 ∧ Rng H r ∧
  ∀ H' t, Go r H H' → t.Perm gs → Q (.str (S t)) H'
def spWord : Sp := fun vs H Q _ => ∃ (r : Addr) (gs : List Nat) (m : Int), vs = [.ref r, .str (S gs), .int m] ∧
  0 < gs.length ∧ gs.length ≤ 1000 ∧ 0 ≤ m ∧ m ≤ 1000 ∧ Rng H r ∧
  ∀ H' xs, Go r H H' → (∀ c ∈ xs, c ∈ gs) → (xs.length : Int) ≤ m → Q (.str (S xs)) H'
/-- a text is turned -/
def spTd : Sp := fun vs H Q _ => ∃ gs t xs : List Nat, vs = [.str (S gs), .str (S t), .str (S xs)] ∧ gs.Nodup ∧ gs.length ≤ 1000 ∧
  t.length = gs.length ∧ xs.length ≤ 1000 ∧ (∀ c ∈ xs, c ∈ gs) ∧ ∀ H', Same H H' → Q (.str (S (xs.map (tau gs t)))) H'
/-- one turn after the other: the second and the third changed about -/
def spAf : Sp := fun vs H Q E => ∃ x y z : V, vs = [x, y, z] ∧ spTd [x, z, y] H Q E
/-- a turn undone -/
def spUn : Sp := fun vs H Q _ => ∃ gs t : List Nat, vs = [.str (S gs), .str (S t)] ∧ gs.length ≤ 1000 ∧ t.length = gs.length ∧ (∀ c ∈ gs, c ∈ t) ∧
  ∀ H', Same H H' → Q (.str (S (und gs t))) H'
def spCk : Sp := fun vs H Q _ => ∃ gs xs : List Nat, vs = [.str (S gs), .str (S xs)] ∧ (∀ c ∈ xs, c ∈ gs) ∧ ∀ H', Same H H' → Q .non H'
def spOrd : Sp := fun vs H Q _ => ∃ (gs t : List Nat) (J : Nat), vs = [.str (S gs), .str (S t)] ∧ gs.Nodup ∧ gs.length ≤ 1000 ∧ t.Perm gs ∧
  it gs t J = gs ∧ (∀ k, k < J → it gs t k ≠ gs) ∧ ∀ H', Same H H' → Q (.int ((J : Int) + 1)) H'
def spSm (K : PySem.W.Frag) (n : Nat) : Sp := fun vs H Q _ => ∃ x y, vs = [x, y] ∧ Eqd K H n x y ∧ ∀ H', Same H H' → Q (.bl true) H'
structure SameT (mg : Str → Option Value) : Prop where
  isi : mg "isinstance" = none
  list : mg "list" = none
  tuple : mg "tuple" = none
  len : mg "len" = none
  all : mg "all" = none
  zip : mg "zip" = none
  bool : mg "bool" = none
  int : mg "int" = none
  str : mg "str" = none
/-! ### calls in short -/
structure Cl (P : Program) (w : World) (K : PySem.W.Frag) (mg : Str → Option Value) (base : Heap) (x : Str) (k : Nat) (ps : List Str) (sp : Sp) (f : Addr) (fd : FuncData) : Prop where
  ok : FnOk P w K mg base CX0 k f fd ps sp
  gl : mg x = some (.ref f)
  kp : PySem.W.keepIn K (.ref f) = true
  bd : Binds K fd ps []
section
variable {X : Cx} {k j : Nat} {f : Addr} {fd : FuncData} {ps ks : List Str} {sp : Sp} {x : Str} {p pos : Pos} {e : Expr} {es : List Expr} {kws : List Keyword} {t tk : TA}
theorem pe_cl (C : Cl X.prog X.w X.K X.mg X.base x k ps sp f fd) (hr : Room j X.A) (hk : k ≤ j) (hg : Gl X x) (ha : PA X (e :: es) t)
    (hdb : (x == ("__debug__" : Str)) = false := by decide) (he : starEach (e :: es) X.env = (false, eval e X.env) :: starEach es X.env := by rfl)
    (hpl : (backTo pos (starEach es X.env)).any (·.1) = false := by rfl) :
    PE X (.Call (.Name x p) (e :: es) [] pos) (tCall sp [] E0 t) :=
  pe_call C.ok (hr.mono hk) hg C.gl C.kp C.bd .nil pass0 ha hdb he hpl
/-- f(k = v, ..) -/
theorem pe_kw {g : List Value → List Value → List Value} {gV : List V → List V → List V}
    (C : Cl X.prog X.w X.K X.mg X.base x k ps sp f fd) (hr : Room j X.A) (hk : k ≤ j) (hg : Gl X x)
    (hb : KBinds X.K fd ps ks g gV) (hkw : PK X kws tk)
    (hall : (backToKw pos (keywordEach kws X.env)).all (·.1.isSome) = true := by rfl)
    (hks : (backToKw pos (keywordEach kws X.env)).filterMap (·.1) = ks := by rfl)
    (hdb : (x == ("__debug__" : Str)) = false := by decide)
    (hpl : ((backTo pos (starEach [] X.env)).any (·.1) || (backToKw pos (keywordEach kws X.env)).any (·.1.isNone)) = false := by rfl) :
    PE X (.Call (.Name x p) [] kws pos) (tCallK sp gV E0 tNil tk) := by
  refine ⟨fun pins s σ H Q I h => ?_⟩
  refine wpAny_Call_Name_kw (ld_glob I hg C.gl ?_ hdb)
  refine PySem.W.callWith_KW0 (h₀ := X.base) I.ok.mod.kin C.kp hall ?_ hpl
  refine thn (hkw.run pos pins s σ H _ I h) fun ws s2 ⟨zs, H2, I2, rz, q2⟩ => ⟨I2.kIn, ?_⟩
  rw [hks]
  exact run_fnk (us := []) (vs := []) C.ok (hr.mono hk) hb pass0 I2 .nil rz q2
end
/-- three keywords, from the last to the first; two -/
def rev3 {α : Type} : List α → List α → List α
  | [], [a, b, c] => [c, b, a]
  | _, _ => []
def rev2 {α : Type} : List α → List α → List α
  | [], [a, b] => [b, a]
  | _, _ => []
theorem rev3_rel {vs : List V} {us : List Value} {zs : List V} {ws : List Value} (r : Vals vs us) (z : Vals zs ws) : Vals (rev3 vs zs) (rev3 us ws) := by
  cases r with
  | cons _ _ => exact .nil
  | nil =>
    cases z with
    | nil => exact .nil
    | cons a z =>
      cases z with
      | nil => exact .nil
      | cons b z =>
        cases z with
        | nil => exact .nil
        | cons c z =>
          cases z with
          | nil => exact .cons c (.cons b (.cons a .nil))
          | cons _ _ => exact .nil
theorem rev2_rel {vs : List V} {us : List Value} {zs : List V} {ws : List Value} (r : Vals vs us) (z : Vals zs ws) : Vals (rev2 vs zs) (rev2 us ws) := by
  cases r with
  | cons _ _ => exact .nil
  | nil =>
    cases z with
    | nil => exact .nil
    | cons a z =>
      cases z with
      | nil => exact .nil
      | cons b z =>
        cases z with
        | nil => exact .cons b (.cons a .nil)
        | cons _ _ => exact .nil
end Own

namespace Own
open PySem PySem.Spec PyProof.Rows L2 SX
/-! ### try: .. except (A, B) as e: .. -/
theorem fly_keep {B h h' : Heap} {l : List Env} {a : Addr} {Z : Obj → Prop} (x : HandSPX.FlyingZ B l a Z h)
    (k : ∀ b o, h.get? b = some o → h'.get? b = some o) : HandSPX.FlyingZ B l a Z h' := by
  obtain ⟨x1, x2, x3, oe, vs, T, oT, ts, e1, e2, e3, e4, e5, e6, e7, e8, e9⟩ := x
  refine ⟨fun b o e => k b o (x1 b o e), x2, x3.of_keeps fun b o e _ => ⟨o, k b o e, rfl⟩, ?_⟩
  exact ⟨oe, vs, T, oT, ts, k _ _ e1, e2, e3, e4, e5, e6, k _ _ e7, e8, e9⟩

def dropN (i : Nat) (D : Ends) : Ends := { nx := fun σ' H' => D.nx (σ'.set i none) H', rt := D.rt, bk := fun σ' H' => D.bk (σ'.set i none) H', ct := fun σ' H' => D.ct (σ'.set i none) H' }
/-- what the clause «except (x1, x2) as n» wishes: the exception is one of them; slot i is n's -/
def wTwo (K : PySem.W.Frag) (c1 c2 : Value) (nn i : Nat) (ts : Addr → Value → Option Addr → TS) (D : Ends) : WX :=
  fun cls d σ H => PySem.W.exmAny K cls [c1, c2] = some true ∧ ∀ a, H a = none → σ.length = nn →
    ts a cls d (dropN i D) (σ.set i (some (.ref a))) H

/-- a caught exception at a as a clause looks at it, over the def's own state -/
structure Seen (X : Cx) (pins : List (Addr × Obj)) (B : Heap) (a : Addr) (cls : Value) (d : Option Addr) (σ : L2.St) (H : Hp) (s : Shared) : Prop where
  inv : Inv X pins σ H s
  fly : HandSPX.FlyingZ B (X.env :: X.outer) a (Zc cls d) s.heap
  free : H a = none
/-- the exception is none of the frames, so the suite may run with it pinned -/
theorem Seen.go {X : Cx} {pins : List (Addr × Obj)} {B : Heap} {a : Addr} {cls : Value} {d : Option Addr} {σ : L2.St} {H : Hp} {s : Shared}
    (g : Seen X pins B a cls d σ H s) (hf : X.env.frame = some X.env.locals) :
    ∃ oe, s.heap.get? a = some oe ∧ Zc cls d oe ∧ (∃ vs, oe.data = .fields vs) ∧ Inv (X.suite a ((a, oe) :: (X.pn ++ pins))) [] σ H s := by
  obtain ⟨oe, vs, e, hz, hd⟩ := g.fly.there
  have apart : ∀ v ∈ X.env :: X.outer, v.frame ≠ some a := fun v hv q => by
    obtain ⟨_, o', e', n⟩ := g.fly.2.2.1.mem (List.mem_filterMap.mpr ⟨v, hv, q⟩)
    cases e.symm.trans e'
    exact n _ hd
  refine ⟨oe, e, hz, ⟨vs, hd⟩, g.inv.suite e hd g.free (fun q => apart _ List.mem_cons_self (by rw [hf, q])) fun hm => ?_⟩
  obtain ⟨v, hv, q⟩ := List.mem_filterMap.mp hm
  exact apart v (List.mem_cons_of_mem _ hv) q

section
variable {X : Cx} {x1 x2 n : Str} {c1 c2 : Value} {i k : Nat} {body suite : List Stmt} {b0 : Stmt}
variable {p1 p2 pt pos pos' : Pos} {tb : WX → TS} {ts : Addr → Value → Option Addr → TS}
/-- (x1, x2) of two classes of the module, while an exception is handled -/
theorem two_classes {a : Addr} {pn : List (Addr × Obj)} {pins : List (Addr × Obj)} {σ : L2.St} {H : Hp} {s : Shared} {Q : Value → Shared → Prop} {E : Value → Shared → Prop}
    (I : Inv (X.suite a pn) pins σ H s) (g1 : Gl X x1) (m1 : X.mg x1 = some c1) (d1 : (x1 == ("__debug__" : Str)) = false)
    (g2 : Gl X x2) (m2 : X.mg x2 = some c2) (d2 : (x2 == ("__debug__" : Str)) = false)
    (q : Q (.ref s.heap.objs.size) { s with heap := s.heap.push { cls := .type "tuple", data := .seq [c1, c2].toArray } }) :
    wpAny (model X.prog X.w) (X.A.mark (some (.ref a))) (eval (.Tuple [.Name x1 p1, .Name x2 p2] k pt) X.env) Q E s :=
  wpAny_Tuple_spliced (Calls.spliced_cons (x := eval (.Name x1 p1) X.env) (rest := backTo pt (starEach [.Name x2 p2] X.env)) (ld_glob (X := X.suite a pn) I g1 m1
    (Calls.spliced_cons (x := eval (.Name x2 p2) X.env) (rest := backTo pt (starEach [] X.env)) (ld_glob (X := X.suite a pn) I g2 m2
      (Calls.spliced_nil ⟨by show 2 ≤ sizeLine; decide, q⟩) d2)) d1))
/-- the suite's end: n is gone, and what was pinned is the def's own again -/
theorem ends_two {a : Addr} {pins : List (Addr × Obj)} {oe : Obj} {D : Ends} {fl : Flow} {s : Shared} {E : Value → Shared → Prop}
    (ok : X.Ok) (hN : X.N.Nodup) (hi : X.N[i]? = some n) (hln : X.env.kindOf n = some .local)
    (h : SP (X.suite a ((a, oe) :: (X.pn ++ pins))) [] (dropN i D) fl s) :
    wpAny (model X.prog X.w) X.A (do bindName X.env n .none; unbindBehindTheSuite X.env n pos') (fun _ s' => SP X pins D fl s') E s := by
  cases fl with
  | ret u =>
    obtain ⟨v, σ', H', S, r, q⟩ := h
    exact gone_ok (S.unsuite ok) hN hi hln fun s' J => ⟨v, _, H', J, r, q⟩
  | _ =>
    obtain ⟨σ', H', S, q⟩ := h
    exact gone_ok (S.unsuite ok) hN hi hln fun s' J => ⟨_, H', J, q⟩
theorem ps_two (hs : X.stack = X.env :: X.outer) (hf : X.env.frame = some X.env.locals) (hN : X.N.Nodup)
    (hi : X.N[i]? = some n) (hln : X.env.kindOf n = some .local)
    (g1 : Gl X x1) (m1 : X.mg x1 = some c1) (d1 : (x1 == ("__debug__" : Str)) = false)
    (g2 : Gl X x2) (m2 : X.mg x2 = some c2) (d2 : (x2 == ("__debug__" : Str)) = false)
    (hb : ∀ (W : WX) (pn : List (Addr × Obj)) (xe : Value → Shared → Prop), Takes (X.tr pn xe) W →
      PassesOwn (model X.prog X.w) X.A X.env xe → PSs (X.tr pn xe) body (tb W))
    (hsu : ∀ (a : Addr) (oe : Obj) (cls : Value) (d : Option Addr) (pn : List (Addr × Obj)), Zc cls d oe →
      (∃ vs, oe.data = .fields vs) → PSs (X.suite a ((a, oe) :: pn)) (b0 :: suite) (ts a cls d)) :
    PS X (.Try body [.ExceptHandler (some (.Tuple [.Name x1 p1, .Name x2 p2] k pt)) (some n) (b0 :: suite) pos'] [] [] pos)
      (fun D σ H => tb (wTwo X.K c1 c2 X.N.length i ts D) D σ H) := by
  constructor
  intro pins s σ H D I h
  have ok := I.ok
  refine wpAny_Try_except (wpAny_mono ((hb (wTwo X.K c1 c2 X.N.length i ts D) (X.pn ++ pins) _ ?_ PassesOwn.looking).run [] s σ H D (I.toTry _) h) ?_ fun _ _ e => e)
  · rintro u s' ⟨a, B, sI, pins', σ', H', cls, d, rfl, J', nb, up, sky, na, os, ag, two, wish⟩
    have J := J'.ofTry (pins := pins) ok
    refine Sky.land Zc.steady (by rw [ok.frames, hs]) hf (by rw [← hs]; exact sky) fun h1 f1 u1 => ?_
    have seen1 : Seen X pins B a cls d σ' H' { s' with heap := h1 } := ⟨J.landed nb f1.1 (up.trans u1) os ag, f1, na⟩
    obtain ⟨o1, e1, z1, _, S1⟩ := seen1.go hf
    -- the tuple of the two classes lies behind all that was there
    have grow : ∀ b o, h1.get? b = some o → (h1.push { cls := .type "tuple", data := .seq [c1, c2].toArray }).get? b = some o :=
      fun _ _ e => Heap.get?_push_of_some _ e
    have there : (h1.push { cls := .type "tuple", data := .seq [c1, c2].toArray }).get? h1.objs.size =
        some { cls := .type "tuple", data := .seq [c1, c2].toArray } := Heap.get?_push_size _ rfl
    refine wpAny_handleBy_cons (codeAny_handlers_test (two_classes S1 g1 m1 d1 g2 m2 d2 ?_)) (fun q => nomatch q)
    refine (PySem.W.exm_tup2 (M := model X.prog X.w) (seen1.inv.kept (t' := s'.toks) grow).kIn
      (fun A Q E s k q => wpAny_typeOf_ref (k _ _ (grow _ _ e1)) (by rw [z1.1]; exact q)) there two).here
        (codeAny_handlers_suite_as (HandSPX.lands_againZ (fly_keep f1 grow) fun h2 f2 u2 => ?_))
    have seen2 : Seen X pins B a cls d σ' H' { s' with heap := h2 } :=
      ⟨J.landed nb f2.1 (((up.trans u1).trans (Heap.UpToSlots.of_keeps grow)).trans u2) os ag, f2, na⟩
    obtain ⟨o2, _, z2, v2, S2⟩ := seen2.go hf
    refine store_ok (X := X.suite a ((a, o2) :: (X.pn ++ pins))) (v := .ref a) S2 hN hi (.inl hln) rfl (fun s3 S3 => ?_) (.inr hln)
    exact wpAny_mono ((hsu a o2 cls d (X.pn ++ pins) z2 v2).run [] s3 _ H' _ S3 (wish a na J.len))
      (fun fl s4 hs4 => ends_two ok hN hi hln hs4) fun _ _ no => no.elim
  · intro fl s1 h1
    cases fl with
    | next => obtain ⟨σ', H', K', q⟩ := h1; exact wpAny_execs_nil ⟨σ', H', K'.ofTry ok, q⟩
    | ret u => obtain ⟨v, σ', H', K', r, q⟩ := h1; exact ⟨v, σ', H', K'.ofTry ok, r, q⟩
    | _ => obtain ⟨σ', H', K', q⟩ := h1; exact ⟨σ', H', K'.ofTry ok, q⟩
end
end Own

namespace Own
open PySem PySem.Spec PyProof.Rows L2 SX
/-- what is known of a caught exception: a its object, cls its class, d its dict -/
def tXg (K : PySem.W.Frag) (a : Addr) (cls : Value) (d : Option Addr) (f : Str) (te : TE) : TE := fun σ H Q => te σ H fun x H1 =>
  x = .ref a ∧ ∃ (C dd : Addr) (fs : List (Str × V)) (v : V), cls = .ref C ∧ XfC K C ∧ PySem.W.findIn K (.ref C) f = some none ∧
    d = some dd ∧ H1 dd = some (.xd fs) ∧ fs.lookup f = some v ∧ Q v H1
theorem pe_xg {X : Cx} {a : Addr} {oe : Obj} {cls : Value} {d : Option Addr} {e : Expr} {te : TE} {pos : Pos} {n : Str}
    (hp : (a, oe) ∈ X.pn) (hz : Zc cls d oe) (hf : ∃ vs, oe.data = .fields vs) (he : PE X e te)
    (hb : attributeBase e n X.env (eval e X.env) = eval e X.env := by rfl) :
    PE X (.Attribute e n pos) (tXg X.K a cls d n te) := by
  constructor
  intro pins s σ H Q I h
  refine attr_of hb (thn (he.run pins s σ H _ I h) ?_)
  rintro u s1 ⟨_, H1, I1, rx, rfl, C, dd, fs, v, rfl, T, none', rfl, lies, look, q⟩
  have eu : u = .ref a := rx
  subst eu
  obtain ⟨vs, hd⟩ := hf
  obtain ⟨m, ns, all⟩ := (show ObjOk X.prog X.w H1 s1.heap dd (.xd fs) from I1.hok dd _ lies)
  obtain ⟨od, od_at, od_look⟩ := lookIn_ns ns
  obtain ⟨u', mu, ru⟩ := RelO.some_of (o := m n) (v := v) (look ▸ all n)
  refine HandSPX.exc_get I1.kIn (C := C) (ox := oe) (od := some od) ?_ T.ga T.gg T.exC (PySem.W.findObj_own T.hdC none' rfl (by rw [od_look, mu])) (handed_of ru) ⟨v, H1, I1.tok _, ru, q⟩
  refine ⟨(I1.pin (a, oe) (List.mem_append_left _ hp)).1, hz.1, ?_, hz.2 ▸ od_at⟩
  rw [PySem.W.notCls, hd]

/-! ### a def called with the caught exception -/
abbrev SpX := Addr → Value → Option Addr → Sp
structure FnP (P : Program) (w : World) (K : PySem.W.Frag) (mg : Str → Option Value) (base : Heap) (k : Nat) (f : Addr) (fd : FuncData) (ps : List Str) (sp : SpX) : Prop where
  len : ∀ a cls d vs H Q E, sp a cls d vs H Q E → vs.length = ps.length
  run : ∀ (A : Around) (outer : List Env) (s : Shared) (H : Hp) (args : Args) (us : List Value) (vs : List V) (Q : VK) (a : Addr) (oe : Obj) (cls : Value) (d : Option Addr),
    L2H.RoomH k A → L2H.PinOk outer H s (a, oe) → Zc cls d oe → (∃ vs, oe.data = .fields vs) → Env0 P w K mg base A outer s H →
    BindsTo s fd args (ps.zip us) → Vals vs us → sp a cls d vs H Q E0 → codeAny (model P w) A (.call (.ref f) args) (CR CX0 outer P w H s Q E0) s

theorem fn_ofP {P : Program} {w : World} {K : PySem.W.Frag} {mg : Str → Option Value} {base : Heap} {k : Nat} {f : Addr} {x qual : Str} {st : Stmt} {fd : FuncData}
    {N ps : List Str} {sp : SpX} (F : Fun K x qual st f fd) (S : FnScope N ps (defScope st)) (len : ∀ a cls d vs H Q E, sp a cls d vs H Q E → vs.length = ps.length)
    (hbody : ∀ (cdv : Value) (A : Around) (outer : List Env) (s : Shared) (H : Hp) (vs : List V) (Q : VK) (a : Addr) (oe : Obj) (cls : Value) (d : Option Addr),
      Zc cls d oe → (∃ vs, oe.data = .fields vs) → L2H.RoomH k (A.deeper (envOfC qual (defScope st) s.heap.objs.size f cdv)) → sp a cls d vs H Q E0 →
      ∃ t, PSs (L2H.cxH CX0 P w K mg base N qual (defScope st) f cdv A outer s H E0 (a, oe)) (defBody st) t ∧ t { nx := fun _ H' => Q .non H', rt := Q } (L2.start N vs) H) :
    FnP P w K mg base (k + 1) f fd ps sp := by
  refine ⟨len, ?_⟩
  intro A outer s H args us vs Q a oe cls d room pin hz hf env bind rel asks
  obtain ⟨_, _, _, _, _, _, cdv, _, _, rfl, at_, code⟩ := F.ex
  have kept : ∀ b o, base.get? b = some o → s.heap.get? b = some o := fun b o e => (env.bs b o e).1
  have frag := env.mod.kin.keeps kept
  refine codeAny_call_function room.depth (frag _ _ at_) rfl S.co S.gen rfl (PySem.W.codeRec_of frag code) (bind _ _ _ _ (wpAny_newFunctionEnv_cells S.kind ?_ ?_))
  · rintro ⟨y, v⟩ hy
    exact (S.par y (List.of_mem_zip hy).1).imp id fun q => ⟨q, PySem.W.cellsFrom_some _ _ _ (.inl q)⟩
  · rintro _ rfl s1 begun
    obtain ⟨t, body, wish⟩ := hbody cdv A outer s H vs Q a oe cls d hz hf (room.deeper _) asks
    have I := L2H.inv_startH (CX := CX0) (E := E0) S pin env (len _ _ _ _ _ _ _ asks) rel begun
    refine ⟨(env.mod.nolimit.keeps kept).keeps begun.toInCall.keep, codeAny_func (wpAny_mono (body.run [] s1 (L2.start N vs) H _ I wish) ?_ fun _ _ no => no)⟩
    intro fl s' out
    rcases fl with _ | u | _ | _
    all_goals first
      | (obtain ⟨_, _, _, no⟩ := out; exact no.elim)
      | (obtain ⟨σ', H', J, q⟩ := out; exact ⟨V.non, H', J.os, J.bare, J.base, J.hok, rfl, q⟩)
      | (obtain ⟨v, σ', H', J, rv, q⟩ := out; exact ⟨v, H', J.os, J.bare, J.base, J.hok, rv, q⟩)

theorem pe_callP {X : Cx} {k : Nat} {f a : Addr} {oe : Obj} {cls : Value} {d : Option Addr} {fd : FuncData} {ps : List Str} {sp : SpX} {x : Str} {p pos : Pos} {e : Expr} {es : List Expr} {t : TA}
    (hp : (a, oe) ∈ X.pn) (hz : Zc cls d oe) (hf : ∃ vs, oe.data = .fields vs)
    (F : FnP X.prog X.w X.K X.mg X.base k f fd ps sp) (hr : L2H.RoomH k X.A) (hg : Gl X x) (hm : X.mg x = some (.ref f)) (hk : PySem.W.keepIn X.K (.ref f) = true) (hb : Binds X.K fd ps [])
    (ha : PA X (e :: es) t) (hdb : (x == ("__debug__" : Str)) = false := by decide)
    (he : starEach (e :: es) X.env = (false, eval e X.env) :: starEach es X.env := by rfl) (hpl : (backTo pos (starEach es X.env)).any (·.1) = false := by rfl) :
    PE X (.Call (.Name x p) (e :: es) [] pos) (fun σ H Q => t σ H fun vs H1 => sp a cls d vs H1 Q E0) := by
  constructor
  intro pins s σ H Q I h
  refine wpAny_Call_Name_kw (ld_glob I hg hm (PySem.W.callWith_K (h₀ := X.base) I.ok.mod.kin hk (thn (ha.run pos pins s σ H _ I h) ?_) he hpl) hdb)
  rintro us s1 ⟨vs, H1, I1, rel, asks⟩
  have bound : BindsTo s1 fd ⟨us, []⟩ (ps.zip us) := by
    have := hb s1 us I1.kIn (by rw [List.append_nil, ← rel.length]; exact F.len _ _ _ _ _ _ _ asks)
    rwa [List.append_nil] at this
  obtain ⟨lies, free, c1, c2, c3⟩ := I1.pin (a, oe) (List.mem_append_left _ hp)
  have pin : L2H.PinOk X.stack H1 s1 (a, oe) := ⟨lies, free, fun m => (List.mem_cons.mp (I1.stkSub _ m)).elim c1 c2, c3⟩
  refine ⟨I1.kIn, wpAny_call (codeAny_mono (F.run X.A X.stack s1 H1 ⟨us, []⟩ us vs Q a oe cls d hr pin hz hf I1.env0 bound rel asks) ?_)⟩
  rintro (er | (_ | u | _ | _)) s' out
  all_goals first | exact I1.after out | exact (show False from out).elim

/-! ### the fields of errors -/
/-- an error as it lies: its class, its dict, its code, and what _law_field gives of it -/
def ErrAt (K : PySem.W.Frag) (cls : Value) (d : Option Addr) (H : Hp) (code : Str) (v : V) : Prop :=
  ∃ (C dd : Addr) (fs : List (Str × V)), cls = .ref C ∧ d = some dd ∧ H dd = some (.xd fs) ∧ XfC K C ∧ PySem.W.findIn K (.ref C) "code" = some none ∧ fs.lookup ("code" : Str) = some (V.str code) ∧
    (((code = "UnknownLetter" ∨ code = "ParseError") ∧ PySem.W.findIn K (.ref C) "position" = some none ∧ fs.lookup ("position" : Str) = some v) ∨ ((code = "InvalidLetters" ∨ code = "LettersDiffer") ∧ v = .non))
def spFld (K : PySem.W.Frag) : SpX := fun a cls d vs H Q _ => ∃ code v, vs = [.ref a] ∧ ErrAt K cls d H code v ∧ ∀ H', Same H H' → Q v H'
end Own

namespace Own
open PySem PySem.Spec PyProof.Rows L2 SX
/-- C() of an error class with an own __init__ -/
theorem pmk0 {X : Cx} {CX : CXT} {x : Str} {C fI : Addr} {k : Nat} {fd : FuncData} {ps : List Str} {sp : Sp} {p pos : Pos} (T : OexC X.K C)
    (iC : PySem.W.findIn X.K (.ref C) "__init__" = some (some (.ref fI))) (tI : PySem.W.typeIn X.K (.ref fI) = some (.type "function"))
    (F1 : FnOk X.prog X.w X.K X.mg X.base CX k fI fd ps sp) (hr : Room (k + 1) X.A) (hb : Binds X.K fd ps []) (hx : Passes CX X (fun _ _ _ => False))
    (hg : Gl X x) (hm : X.mg x = some (.ref C)) (hdb : (x == ("__debug__" : Str)) = false := by decide) :
    PMk X (.Call (.Name x p) [] [] pos) (tMkO C sp [] tNil) := by
  rintro pins ⟨hp, g, dr, tk, os⟩ σ H Q I ⟨_, asks⟩
  obtain ⟨_, _, _, _, bm, _, _, _, _, _, _, _, _, _, _, cls, refs⟩ := T.cls
  -- the error lies right behind its empty tuple of arguments
  let a : Addr := hp.objs.size + 1
  let h2 := (hp.push (PySem.W.kdv_tup [])).push (PySem.HandSPX.excO C hp.objs.size)
  have young : hp.objs.size ≤ a := Nat.le_add_right _ _
  have wish := asks a (I.hok.fresh young)
  have stays : ∀ b o, hp.get? b = some o → h2.get? b = some o := fun b o e => by
    have e1 : (hp.push (PySem.W.kdv_tup [])).get? b = some o := Heap.get?_push_of_some _ e
    exact Heap.get?_push_of_some _ e1
  have lies : h2.get? a = some (PySem.HandSPX.excO C hp.objs.size) := by
    show ((hp.push (PySem.W.kdv_tup [])).push (PySem.HandSPX.excO C hp.objs.size)).get? (hp.objs.size + 1) = _
    heap_get
  have I2 : Inv X pins σ (upd H a (exo a C none)) ⟨h2, g, dr, tk, os⟩ := I.laid (t' := tk) stays young (exo_ok lies)
  have rel : Vals [V.ref a] [Value.ref a] := .cons rfl .nil
  have init := F1.run _ X.stack ⟨h2, g, dr, tk, os⟩ _ ⟨[.ref a], []⟩ [.ref a] _ _ (fun _ _ _ => False)
    (hr.make C [] []) (I2.env0.make C [] []) (hb _ [.ref a] I2.kIn (F1.len _ _ _ _ wish)) rel wish
  refine wpAny_Call_Name_kw (ld_glob I hg hm (PySem.W.callWith_K0 I.kIn T.kC (wpAny_call
    (PySem.HandSPX.call_own F.excBase_ValueError (fun Y => PySem.HandSPX.refsVE_contains Y bm refs) (I.kIn _ _ cls)
      (PySem.W.looks_findIn I.kIn iC) (fun self => PySem.W.bind_fn I.kIn self tI) (Nat.zero_le _) (codeAny_mono init ?_)))) hdb)
  rintro (er | fl) s' out
  · exact hx pins σ _ _ er s' I2 out
  · cases fl with
    | ret u =>
      obtain ⟨_, H2, o1, o2, o3, o4, rv, rfl, d, fs, ea, ed, hd, q⟩ := out
      exact ⟨rv, mk_end (raises_own T.exC T.tyC) I young stays o3 o4 o1 o2 ea ed hd q⟩
    | _ => exact out.elim

/-- self.code = «code» -/
def spI0 (K : PySem.W.Frag) (C : Addr) (code : Str) : Sp := fun vs H Q _ => ∃ a, vs = [.ref a] ∧ H a = some (exo a C none) ∧
  ∀ dx, H dx = none → dx ≠ a → Q .non (upd (upd H dx (exd dx [("code", .str code)])) a (exo a C (some dx)))
/-- self.code = «code»; self.position = position -/
def spI1 (K : PySem.W.Frag) (C : Addr) (code : Str) : Sp := fun vs H Q _ => ∃ a v, vs = [.ref a, v] ∧ H a = some (exo a C none) ∧
  ∀ dx, H dx = none → dx ≠ a → Q .non (upd (upd (upd H dx (exd dx [("code", .str code)])) a (exo a C (some dx))) dx (exd dx [("position", v), ("code", .str code)]))
/-- what is left behind a raise -/
theorem after0 {H1 : Hp} {a dx C : Addr} {fs : List (Str × V)} {o : HO} (na : H1 a = none) (nd : (upd H1 a o) dx = none) (ne : dx ≠ a) :
    H1 dx = none ∧ Same H1 (upd (del (upd (upd (upd H1 a o) dx (exd dx fs)) a (exo a C (some dx))) a) dx (.xd fs)) := by
  have n1 : H1 dx = none := by rw [upd_ne ne] at nd; exact nd
  refine ⟨n1, fun b u e => ?_⟩
  have b1 : b ≠ a := ne_of_none e na
  have b2 : b ≠ dx := ne_of_none e n1
  rw [upd_ne b2, del_ne b1, upd_ne b1, upd_ne b2, upd_ne b1]
  exact e
theorem after1 {H1 : Hp} {a dx C : Addr} {fs gs : List (Str × V)} {o : HO} (na : H1 a = none) (nd : (upd H1 a o) dx = none) (ne : dx ≠ a) :
    H1 dx = none ∧ Same H1 (upd (del (upd (upd (upd (upd H1 a o) dx (exd dx gs)) a (exo a C (some dx))) dx (exd dx fs)) a) dx (.xd fs)) := by
  have n1 : H1 dx = none := by rw [upd_ne ne] at nd; exact nd
  refine ⟨n1, fun b u e => ?_⟩
  have b1 : b ≠ a := ne_of_none e na
  have b2 : b ≠ dx := ne_of_none e n1
  rw [upd_ne b2, del_ne b1, upd_ne b2, upd_ne b1, upd_ne b2, upd_ne b1]
  exact e
/-- the facts of an error class -/
structure ErrC (K : PySem.W.Frag) (mg : Str → Option Value) (x : Str) (C : Addr) : Prop where
  ox : OexC K C
  gl : mg x = some (.ref C)
  nc : PySem.W.findIn K (.ref C) "code" = some none
  np : PySem.W.findIn K (.ref C) "position" = some none
  xf : XfC K C

/-! ### _law_try -/
def TTry (K : PySem.W.Frag) (CF CM : Addr) : (XK → Hp → VK → Prop) → Hp → VK → Prop := fun tl H Q =>
  tl (fun cls d H' => PySem.W.exmAny K cls [.ref CF, .ref CM] = some true ∧ ∃ code v, ErrAt K cls d H' code v ∧
      ∀ H'' t, Same H' H'' → H'' t = none → Q (.ref t) (upd H'' t (.tup [.str code, v]))) H
    (fun v H' => 2 ≤ sizeLine ∧ ∀ t, H' t = none → Q (.ref t) (upd H' t (.tup [.str (Str.ofString "value"), v])))
/-- valid letters -/
structure Valid (cs : List Nat) : Prop where
  lo : 2 ≤ cs.length
  hi : cs.length ≤ 4
  az : ∀ c ∈ cs, 97 ≤ c ∧ c ≤ 122
  nd : cs.Nodup
def spCL (C : Addr) : Sp := fun vs H Q E => ∃ cs, vs = [.str (S cs)] ∧ cs.length ≤ 1000 ∧ (Valid cs → ∀ H', Same H H' → Q .non H') ∧
  (¬ Valid cs → ∀ H' d, Same H H' → H' d = some (.xd [("code", .str "InvalidLetters")]) → E (.ref C) (some d) H')
def spCT (C : Addr) : Sp := fun vs H Q E => ∃ gs xs, vs = [.str (S gs), .str (S xs)] ∧ ((∀ c ∈ xs, c ∈ gs) → ∀ H', Same H H' → Q .non H') ∧
  (∀ (i c : Nat), xs[i]? = some c → c ∉ gs → (∀ (j c' : Nat), j < i → xs[j]? = some c' → c' ∈ gs) → ∀ H' d, Same H H' →
    H' d = some (.xd [("position", .int (i : Nat)), ("code", .str "UnknownLetter")]) → E (.ref C) (some d) H')
theorem err_il {K : PySem.W.Frag} {mg : Str → Option Value} {x : Str} {C d : Addr} {H : Hp} (T : ErrC K mg x C) (h : H d = some (.xd [("code", .str "InvalidLetters")])) :
    ErrAt K (.ref C) (some d) H "InvalidLetters" .non := ⟨C, d, _, rfl, rfl, h, T.xf, T.nc, rfl, .inr ⟨.inl rfl, rfl⟩⟩
theorem err_ul {K : PySem.W.Frag} {mg : Str → Option Value} {x : Str} {C d : Addr} {H : Hp} {v : V} (T : ErrC K mg x C) (h : H d = some (.xd [("position", v), ("code", .str "UnknownLetter")])) :
    ErrAt K (.ref C) (some d) H "UnknownLetter" v := ⟨C, d, _, rfl, rfl, h, T.xf, T.nc, rfl, .inl ⟨.inl rfl, T.np, rfl⟩⟩
end Own

namespace Own
open PySem PySem.Spec PyProof.Rows L2 SX RZ
def topS (i : Nat) : Stmt :=
  PySem.Challenge.pw_ownfill_k01_letters_and_texts_checked.main.body.getD i (.Pass ⟨0, 0, 0, 0⟩)
section
variable {P : Program} {w : World} {K : PySem.W.Frag} {mg : Str → Option Value} {base : Heap}
abbrev sDraws : Stmt := topS 12
theorem scDraws : FnScope ["_law_script", "_law_state", "_law_cell"] ["_law_script"] (defScope sDraws) :=
  ⟨rfl, rfl, rfl, by decide +kernel, rfl, by decide +kernel, by decide +kernel⟩
theorem ok_draws {f : Addr} {fd : FuncData} (F : Fun K "_law_draws" "_law_draws" sDraws f fd)
    (mi : mg "int" = none) (ml : mg "list" = none) :
    FnOk P w K mg base CX0 1 f fd ["_law_script"] (spDraws K) := by
  refine F.ok scDraws (fun vs H Q E h => ?_) (fun cdv A outer s H vs Q E hr h => ?_)
  · obtain ⟨a, ns, rfl, _⟩ := h
    rfl
  · obtain ⟨a, ns, rfl, hS, q⟩ := h
    refine ⟨_, pss_cons (ps_set (i := 1) scDraws.nd rfl (.inl rfl) pe_int)
      (pss_cons (ps_for PassesOwn.never rfl
          (pi_list (pe_slice sl_list (pv 0) po_none (po_some pe_int)))
          (pg_name (i := 2) scDraws.nd rfl (.inl rfl))
          (pss_one (ps_set (i := 1) scDraws.nd rfl (.inl rfl)
            (pe_op op_mod (pe_callTy call_int1 (by rfl) mi (by decide +kernel) (pa_cons
              (pe_op op_add (pe_op op_add (pe_op op_mul (pv 1) pe_int)
                (pe_op op_mod (pe_callTy call_int1 (by rfl) mi (by decide +kernel) (pa_cons (pv 2) pa_nil)) pe_int))
                pe_int) pa_nil)) pe_int))))
      (pss_one (ps_ret (pe_lst (pa_cons (pe_callTy call_list_of (by rfl) ml (by decide +kernel)
          (pa_cons (pe_slice sl_list (pv 0) po_none (po_some pe_int)) pa_nil))
        (pa_cons pe_int (pa_cons pe_int (pa_cons (pv 1) (pa_cons pe_int pa_nil))))))))), ?_⟩
    refine ⟨.ref a, rfl, 63, rfl, a, ns.map V.int, rfl, hS, fun p np => ?_⟩
    have hcut : cutV (ns.map V.int) none (some 63) = (ns.take 63).map V.int := by
      unfold cutV
      rw [HT.sIx_none, show HT.sIx (ns.map V.int).length (ns.map V.int).length (some 63) =
        min 63 (ns.map V.int).length from HT.sIx_nat _ _ 63, List.drop_zero, Nat.sub_zero,
        ← List.map_take]
      congr 1
      rw [List.length_map, List.take_eq_take_iff]
      omega
    rw [hcut]
    have s1 : Same H (upd H p (.lst ((ns.take 63).map V.int))) := fun b o e => by
      rw [upd_ne (ne_of_none e np)]; exact e
    refine ⟨p, rfl, ⟨_, .inl (.inl upd_same)⟩, for_list (K := K) (a := p) (xs := (ns.take 63).map V.int)
      (fun i σ H' => ∃ (st : Int) (v : Option V), σ = [some (.ref a), some (.int st), v] ∧
        H' = upd H p (.lst ((ns.take 63).map V.int)))
      ⟨3833, none, rfl, rfl⟩ (fun i σ H' _ ⟨_, _, _, e⟩ => by rw [e]; exact .inl (.inl upd_same)) ?_ ?_⟩
    · rintro i y σ H' hi ⟨st, v, rfl, rfl⟩
      obtain ⟨u, rfl⟩ : ∃ u, y = V.int u := by
        rw [List.getElem?_map] at hi
        cases e : (ns.take 63)[i]? with
        | none => rw [e] at hi; cases hi
        | some u => rw [e] at hi; exact ⟨u, (Option.some.inj hi).symm⟩
      refine ⟨_, rfl, _, _, rfl, rfl, .inr ⟨by decide, by decide⟩, _, rfl, .inl ⟨_, rfl, _, _, rfl, rfl,
        (by show (0 : Int) < 2147483587; decide), _, _, rfl, rfl, _, _, rfl, rfl, .inl ⟨_, rfl, _, _, rfl, rfl,
        (by show (0 : Int) < 2147483647; decide), ?_⟩⟩⟩
      exact ⟨_, _, rfl, rfl⟩
    · rintro σ H' ⟨st, v, rfl, rfl⟩
      refine ⟨.ref a, rfl, 63, rfl, a, ns.map V.int, rfl, s1.seq hS, fun p2 np2 => ?_⟩
      rw [hcut]
      refine ⟨p2, _, rfl, .inl (.inl (.inl upd_same)), fun l nl => ?_⟩
      refine ⟨.int st, rfl, (by show 5 ≤ sizeLine; decide), fun r nr => ?_⟩
      have s2 := fun b o (e : H b = some o) => s1 b o e
      refine q _ r (fun b o e => ?_) ?_ ?_
      · have e1 := s1 b o e
        have e2 : (upd (upd H p (.lst ((ns.take 63).map V.int))) p2 (.lst ((ns.take 63).map V.int))) b = some o := by
          rw [upd_ne (ne_of_none e1 np2)]; exact e1
        have e3 : (upd (upd (upd H p (.lst ((ns.take 63).map V.int))) p2 (.lst ((ns.take 63).map V.int))) l
            (.lst ((ns.take 63).map V.int))) b = some o := by
          rw [upd_ne (ne_of_none e2 nl)]; exact e2
        rw [upd_ne (ne_of_none e3 nr)]
        exact e3
      · cases e : H r with
        | none => rfl
        | some o =>
          have e1 := s1 r o e
          have e2 : (upd (upd H p (.lst ((ns.take 63).map V.int))) p2 (.lst ((ns.take 63).map V.int))) r = some o := by
            rw [upd_ne (ne_of_none e1 np2)]; exact e1
          rw [upd_ne (ne_of_none e2 nl)] at nr
          rw [e2] at nr
          cases nr
      · refine ⟨l, ns.take 63, 0, 0, st, 0, Int.le_refl 0, upd_same, ?_⟩
        have nlr : l ≠ r := fun e => by
          rw [← e, upd_same] at nr
          cases nr
        rw [upd_ne nlr, upd_same]
abbrev sDraw : Stmt := topS 13
theorem scDraw : FnScope ["_law_rng", "_law_sides", "_law_cell", "_law_digit", "_law_seed"]
    ["_law_rng", "_law_sides"] (defScope sDraw) :=
  ⟨rfl, rfl, rfl, by decide +kernel, rfl, by decide +kernel, by decide +kernel⟩
theorem ok_draw {f : Addr} {fd : FuncData} (F : Fun K "_law_draw" "_law_draw" sDraw f fd)
    (mi : mg "int" = none) (ml : mg "len" = none) :
    FnOk P w K mg base CX0 1 f fd ["_law_rng", "_law_sides"] spDraw := by
  refine F.ok scDraw (fun vs H Q E h => ?_) (fun cdv A outer s H vs Q E hr h => ?_)
  · obtain ⟨r, n, rfl, _⟩ := h
    rfl
  · obtain ⟨r, n, rfl, hn, hn2, ⟨l, ns, i, b, z, c, R⟩, q⟩ := h
    have R0 : RngL H r l := ⟨ns, i, b, z, c, R⟩
    refine ⟨_, pss_cons (ps_asg (pe_op op_add (pe_ix ix_list (pv 0) pe_int (fun _ _ => rfl)) pe_int)
        (pg_sub (pv 0) pe_int set_list))
      (C8.pss_cut (ps_if (PW.pt (pw_and (pt_cmpR op_eq (pe_ix ix_list (pv 0) pe_int (fun _ _ => rfl)) pe_int (nomark _))
          (pw_and1 (pt_cmpR op_lt (pe_ix ix_list (pv 0) pe_int (fun _ _ => rfl))
            (pe_callB call_len_seq (by rfl) ml PySem.boot_len (pa_cons (pe_ix ix_list (pv 0) pe_int (fun _ _ => rfl)) pa_nil))
            (nomark _)))))
        (pss_cons (ps_set (i := 2) scDraw.nd rfl (.inl rfl)
            (pe_ix ix_list (pe_ix ix_list (pv 0) pe_int (fun _ _ => rfl)) (pe_ix ix_list (pv 0) pe_int (fun _ _ => rfl)) (fun _ _ => rfl)))
        (pss_cons (ps_asg (pe_op op_add (pe_ix ix_list (pv 0) pe_int (fun _ _ => rfl)) pe_int) (pg_sub (pv 0) pe_int set_list))
        (pss_one (ps_if (pt_cmpR op_ge (pv 2) (pe_op op_pow pe_int pe_int) (nomark _))
          (pss_one (ps_asg (pv 2) (pg_sub (pv 0) pe_int set_list)))
          (pss_one (ps_asg (pe_op op_mod (pe_callTy call_int1 (by rfl) mi (by decide +kernel) (pa_cons
              (pe_op op_add (pe_op op_add (pe_op op_mul (pe_ix ix_list (pv 0) pe_int (fun _ _ => rfl)) pe_int)
                (pe_op op_mul (pe_op op_mod (pe_callTy call_int1 (by rfl) mi (by decide +kernel) (pa_cons (pv 2) pa_nil)) pe_int) pe_int))
                pe_int) pa_nil)) pe_int) (pg_sub (pv 0) pe_int set_list)))))))
        pss_nil)
      (pss_cons (ps_if (pt_cmpR op_gt (pe_ix ix_list (pv 0) pe_int (fun _ _ => rfl)) pe_int (nomark _))
        (pss_cons (ps_set (i := 3) scDraw.nd rfl (.inl rfl) (pe_op op_mod (pe_callTy call_int1 (by rfl) mi (by decide +kernel)
            (pa_cons (pe_ix ix_list (pv 0) pe_int (fun _ _ => rfl)) pa_nil)) (pv 1)))
        (pss_cons (ps_asg (pe_op op_fdiv (pe_ix ix_list (pv 0) pe_int (fun _ _ => rfl)) (pv 1)) (pg_sub (pv 0) pe_int set_list))
        (pss_one (ps_ret (pv 3))))) pss_nil)
      (pss_cons (ps_set (i := 4) scDraw.nd rfl (.inl rfl) (pe_ix ix_list (pv 0) pe_int (fun _ _ => rfl)))
      (pss_cons (ps_asg (pe_op op_mod (pe_callTy call_int1 (by rfl) mi (by decide +kernel) (pa_cons
          (pe_op op_add (pe_op op_add (pe_op op_add (pe_op op_mul (pv 4) pe_int)
            (pe_op op_mul (pe_op op_fdiv (pv 4) pe_int) pe_int))
            (pe_op op_mul (pe_ix ix_list (pv 0) pe_int (fun _ _ => rfl)) pe_int)) pe_int) pa_nil)) pe_int)
          (pg_sub (pv 0) pe_int set_list))
      (pss_one (ps_ret (pe_op op_mod (pe_callTy call_int1 (by rfl) mi (by decide +kernel) (pa_cons
          (pe_op op_add (pe_op op_fdiv (pe_ix ix_list (pv 0) pe_int (fun _ _ => rfl)) pe_int)
            (pe_op op_mul (pe_op op_mod (pe_callTy call_int1 (by rfl) mi (by decide +kernel)
              (pa_cons (pe_ix ix_list (pv 0) pe_int (fun _ _ => rfl)) pa_nil)) pe_int) pe_int)) pa_nil)) (pv 1)))))))), ?_⟩
    have at0 : ∀ {l : Addr} {i b z c : Int}, atI [V.ref l, .int i, .int b, .int z, .int c] 0 = some (.ref l) := atI_nat (j := 0) rfl
    have at1 : ∀ {l : Addr} {i b z c : Int}, atI [V.ref l, .int i, .int b, .int z, .int c] 1 = some (.int i) := atI_nat (j := 1) rfl
    have at2 : ∀ {l : Addr} {i b z c : Int}, atI [V.ref l, .int i, .int b, .int z, .int c] 2 = some (.int b) := atI_nat (j := 2) rfl
    have at3 : ∀ {l : Addr} {i b z c : Int}, atI [V.ref l, .int i, .int b, .int z, .int c] 3 = some (.int z) := atI_nat (j := 3) rfl
    have at4 : ∀ {l : Addr} {i b z c : Int}, atI [V.ref l, .int i, .int b, .int z, .int c] 4 = some (.int c) := atI_nat (j := 4) rfl
    -- rng[4] += 1
    refine ⟨_, rfl, r, _, 4, _, rfl, rfl, SqL.of R.2.1, at4, _, _, rfl, rfl, _, rfl, r, _, 4, 4, rfl, rfl, R.2.1, rfl, ?_⟩
    have R1 : RngV (upd H r (.lst [.ref l, .int i, .int b, .int z, .int (c + 1)])) r l ns i b z (c + 1) := R.put R.1
    have g1 : ∀ x o, x ≠ r → H x = some o → upd H r (.lst [.ref l, .int i, .int b, .int z, .int (c + 1)]) x = some o :=
      fun x o nx e => by rw [upd_ne nx]; exact e
    refine ⟨fun σ H' => ∃ v2 v3 v4, σ = [some (.ref r), some (.int n), v2, v3, v4] ∧
      (∀ x o, x ≠ r → H x = some o → H' x = some o) ∧ RngL H' r l, ?_, ?_⟩
    · -- the script's next cell
      refine ⟨_, rfl, r, _, 2, _, rfl, rfl, SqL.of R1.2.1, at2, rfl, _, rfl, ?_⟩
      refine ite2 (fun _ => ?_) (fun _ => iteF ⟨none, none, none, rfl, g1, _, _, _, _, _, R1⟩)
      refine ⟨_, rfl, r, _, 1, _, rfl, rfl, SqL.of R1.2.1, at1, _, rfl, r, _, 0, _, rfl, rfl, SqL.of R1.2.1, at0,
        l, _, rfl, .inl (SqL.of R1.2.2), _, _, rfl, rfl, _, rfl, ?_⟩
      refine ite2 (fun hlt => ?_) (fun _ => ⟨none, none, none, rfl, g1, _, _, _, _, _, R1⟩)
      have hlt2 : i < ((ns.map V.int).length : Int) := of_decide_eq_true hlt
      rw [List.length_map] at hlt2
      obtain ⟨j, rfl⟩ := Int.eq_ofNat_of_zero_le R.1
      have hj : j < ns.length := by omega
      have gj : (ns.map V.int)[j]? = some (.int ns[j]) := by
        rw [List.getElem?_map, List.getElem?_eq_getElem hj]; rfl
      refine ⟨_, rfl, r, _, 0, _, rfl, rfl, SqL.of R1.2.1, at0, _, rfl, r, _, 1, _, rfl, rfl, SqL.of R1.2.1, at1,
        l, _, _, _, rfl, rfl, SqL.of R1.2.2, atI_nat gj, ?_⟩
      refine ⟨_, rfl, r, _, 1, _, rfl, rfl, SqL.of R1.2.1, at1, _, _, rfl, rfl, _, rfl, r, _, 1, 1, rfl, rfl, R1.2.1, rfl, ?_⟩
      have R2 := R1.put (i' := (j : Int) + 1) (b' := b) (s' := z) (c' := c + 1) (by omega)
      have g2 : ∀ x o, x ≠ r → H x = some o →
          upd (upd H r (.lst [.ref l, .int (j : Int), .int b, .int z, .int (c + 1)])) r
            (.lst [.ref l, .int ((j : Int) + 1), .int b, .int z, .int (c + 1)]) x = some o :=
        fun x o nx e => by rw [upd_ne nx]; exact g1 x o nx e
      refine ⟨_, rfl, _, _, rfl, rfl, ⟨by decide, by decide, by decide⟩, _, _, rfl, rfl, _, rfl, ?_⟩
      refine ite2 (fun _ => ?_) (fun _ => ?_)
      · refine ⟨_, rfl, _, rfl, r, _, 2, 2, rfl, rfl, R2.2.1, rfl, ?_⟩
        exact ⟨_, none, none, rfl, fun x o nx e => by rw [upd_ne nx]; exact g2 x o nx e, _, _, _, _, _, R2.put (by omega)⟩
      · refine ⟨_, rfl, r, _, 3, _, rfl, rfl, SqL.of R2.2.1, at3, _, _, rfl, rfl, .inr ⟨by decide, by decide⟩, _, rfl,
          .inl ⟨_, rfl, _, _, rfl, rfl, (by show (0 : Int) < 2147483579; decide), _, _, rfl, rfl, .inr ⟨by decide, by decide⟩,
          _, _, rfl, rfl, _, _, rfl, rfl, .inl ⟨_, rfl, _, _, rfl, rfl, (by show (0 : Int) < 2147483647; decide),
          _, rfl, r, _, 3, 3, rfl, rfl, R2.2.1, rfl, ?_⟩⟩⟩
        exact ⟨_, none, none, rfl, fun x o nx e => by rw [upd_ne nx]; exact g2 x o nx e, _, _, _, _, _, R2.put (by omega)⟩
    · rintro σ H' ⟨v2, v3, v4, rfl, g, ns, i, b, z, c, R⟩
      refine ⟨_, rfl, r, _, 2, _, rfl, rfl, SqL.of R.2.1, at2, _, _, rfl, rfl, _, rfl, ?_⟩
      refine ite2 (fun hb => ?_) (fun _ => ?_)
      · refine ⟨_, rfl, r, _, 2, _, rfl, rfl, SqL.of R.2.1, at2, .inl ⟨_, rfl, _, rfl, _, _, rfl, rfl, hn, ?_⟩⟩
        refine ⟨_, rfl, r, _, 2, _, rfl, rfl, SqL.of R.2.1, at2, _, rfl, _, _, rfl, rfl, ⟨hn, by omega⟩, _, rfl, r, _, 2, 2, rfl, rfl, R.2.1, rfl, ?_⟩
        refine ⟨_, rfl, q _ _ ⟨fun x o nx e => by rw [upd_ne nx]; exact g x o nx e, l, R0, _, _, _, _, _, R.put R.1⟩ ?_ ?_⟩
        · exact Int.emod_nonneg _ (by omega)
        · exact Int.emod_lt_of_pos _ hn
      · refine ⟨_, rfl, r, _, 3, _, rfl, rfl, SqL.of R.2.1, at3, ?_⟩
        refine ⟨_, rfl, _, _, rfl, rfl, .inr ⟨by decide, by decide⟩, _, rfl, _, _, rfl, rfl, ⟨by decide, by decide⟩,
          _, _, rfl, rfl, .inr ⟨by decide, by decide⟩, _, _, rfl, rfl, _, rfl, r, _, 4, _, rfl, rfl, SqL.of R.2.1, at4,
          _, _, rfl, rfl, .inr ⟨by decide, by decide⟩, _, _, rfl, rfl, _, _, rfl, rfl, .inl ⟨_, rfl, _, _, rfl, rfl,
          (by show (0 : Int) < 2147483647; decide), _, rfl, r, _, 3, 3, rfl, rfl, R.2.1, rfl, ?_⟩⟩
        have R2 := fun z' => R.put (i' := i) (b' := b) (s' := z') (c' := c) R.1
        refine ⟨_, rfl, r, _, 3, _, rfl, rfl, SqL.of (R2 _).2.1, at3, _, _, rfl, rfl, ⟨by decide, by decide⟩, _, rfl, r, _, 3, _, rfl, rfl,
          SqL.of (R2 _).2.1, at3, .inl ⟨_, rfl, _, _, rfl, rfl, (by show (0 : Int) < 7907; decide), _, _, rfl, rfl, .inr ⟨by decide, by decide⟩,
          _, _, rfl, rfl, .inl ⟨_, rfl, _, rfl, _, _, rfl, rfl, hn, ?_⟩⟩⟩
        refine q _ _ ⟨fun x o nx e => by rw [upd_ne nx]; exact g x o nx e, l, R0, _, _, _, _, _, R2 _⟩ ?_ ?_
        · exact Int.emod_nonneg _ (by omega)
        · exact Int.emod_lt_of_pos _ hn
abbrev sPick : Stmt := topS 14
theorem scPick : FnScope ["_law_rng", "_law_things"] ["_law_rng", "_law_things"] (defScope sPick) :=
  ⟨rfl, rfl, rfl, by decide +kernel, rfl, by decide +kernel, by decide +kernel⟩
theorem ok_pick {f fD : Addr} {fd fdD : FuncData} (F : Fun K "_law_pick" "_law_pick" sPick f fd)
    (FD : Fun K "_law_draw" "_law_draw" sDraw fD fdD) (bD : Binds K fdD ["_law_rng", "_law_sides"] [])
    (gD : mg "_law_draw" = some (.ref fD)) (mi : mg "int" = none) (ml : mg "len" = none) :
    FnOk P w K mg base CX0 2 f fd ["_law_rng", "_law_things"] (spPick K) := by
  have GD : FnOk P w K mg base CX0 1 fD fdD ["_law_rng", "_law_sides"] spDraw := ok_draw FD mi ml
  refine F.ok scPick (fun vs H Q E h => ?_) (fun cdv A outer s H vs Q E hr h => ?_)
  · obtain ⟨r, x, rfl, _⟩ := h
    rfl
  · obtain ⟨r, x, rfl, R, h⟩ := h
    refine ⟨_, pss_one (ps_ret (pe_ix ix_seq (pv 1) (pe_call GD hr (by rfl) gD FD.kp bD .nil pass0
      (pa_cons (pv 0) (pa_cons (pe_callB call_len (by rfl) ml PySem.boot_len (pa_cons (pv 1) pa_nil)) pa_nil)))
      (fun _ _ => rfl))), ?_⟩
    rcases h with ⟨a, xs, rfl, nar, hS, h0, h1, q⟩ | ⟨cs, rfl, h0, h1, q⟩
    · refine ⟨_, rfl, _, rfl, _, rfl, _, xs.length, rfl, .inl ⟨_, hS, rfl⟩, r, _, rfl, by omega, by omega, R, fun H' k g k0 k1 => ?_⟩
      obtain ⟨j, rfl⟩ := Int.eq_ofNat_of_zero_le k0
      have hj : j < xs.length := by omega
      exact .inl ⟨a, xs, _, xs[j], rfl, rfl, g.seq nar hS, atI_nat (List.getElem?_eq_getElem hj), q _ _ g (List.getElem_mem hj)⟩
    · refine ⟨_, rfl, _, rfl, _, rfl, _, cs.length, rfl, ⟨by rw [S_len]; exact small h1, by rw [S_len]⟩, r, _, rfl, by omega, by omega, R, fun H' k g k0 k1 => ?_⟩
      obtain ⟨j, rfl⟩ := Int.eq_ofNat_of_zero_le k0
      have hj : j < cs.length := by omega
      exact .inr (.inr ⟨_, _, cs[j], rfl, rfl, by rw [S_len]; exact small h1, atI_nat (List.getElem?_eq_getElem hj), q _ _ g (List.getElem_mem hj)⟩)
abbrev sLetters : Stmt := topS 18
theorem scLetters : FnScope ["_law_rng", "_law_most", "_law_size", "_law_first", "_law_step", "_law_k"]
    ["_law_rng", "_law_most"] (defScope sLetters) :=
  ⟨rfl, rfl, rfl, by decide +kernel, rfl, by decide +kernel, by decide +kernel⟩
theorem ok_letters {f fD fP : Addr} {fd fdD fdP : FuncData} (F : Fun K "_law_letters" "_law_letters" sLetters f fd)
    (FD : Fun K "_law_draw" "_law_draw" sDraw fD fdD) (bD : Binds K fdD ["_law_rng", "_law_sides"] [])
    (gD : mg "_law_draw" = some (.ref fD))
    (FP : Fun K "_law_pick" "_law_pick" sPick fP fdP) (bP : Binds K fdP ["_law_rng", "_law_things"] [])
    (gP : mg "_law_pick" = some (.ref fP)) (mi : mg "int" = none) (ml : mg "len" = none)
    (mm : mg "min" = none) (mr : mg "range" = none) :
    FnOk P w K mg base CX0 3 f fd ["_law_rng", "_law_most"] spLetters := by
  have GD : FnOk P w K mg base CX0 1 fD fdD ["_law_rng", "_law_sides"] spDraw := ok_draw FD mi ml
  have GP : FnOk P w K mg base CX0 2 fP fdP ["_law_rng", "_law_things"] (spPick K) := ok_pick FP FD bD gD mi ml
  refine F.ok scLetters (fun vs H Q E h => ?_) (fun cdv A outer s H vs Q E hr h => ?_)
  · obtain ⟨r, m, rfl, _⟩ := h
    rfl
  · obtain ⟨r, m, rfl, hm, R, q⟩ := h
    have hr1 : Room 1 _ := hr.mono (by decide)
    refine ⟨_, pss_cons (ps_set (i := 2) scLetters.nd rfl (.inl rfl) (pe_callB (call_min2 rfl) (by rfl) mm (by decide +kernel)
        (pa_cons (pv 1) (pa_cons (pe_call GP hr (by rfl) gP FP.kp bP .nil pass0 (pa_cons (pv 0)
          (pa_cons (pe_lst (pa_cons pe_int (pa_cons pe_int (pa_cons pe_int (pa_cons pe_int (pa_cons pe_int (pa_cons pe_int pa_nil))))))) pa_nil))) pa_nil))))
      (pss_cons (ps_asg (pe_tup (pa_cons (pe_call GD hr1 (by rfl) gD FD.kp bD .nil pass0 (pa_cons (pv 0) (pa_cons pe_int pa_nil)))
          (pa_cons (pe_call GP hr (by rfl) gP FP.kp bP .nil pass0 (pa_cons (pv 0)
          (pa_cons (pe_lst (pa_cons pe_int (pa_cons pe_int (pa_cons pe_int (pa_cons pe_int (pa_cons pe_int pa_nil)))))) pa_nil))) pa_nil)))
          (pg_tup rfl (pgs_cons (pg_name (i := 3) scLetters.nd rfl (.inr rfl)) (pgs_cons (pg_name (i := 4) scLetters.nd rfl (.inr rfl)) pgs_nil))))
      (pss_one (ps_ret (pe_join pe_str (pe_lc (own := [("_law_k", 5)]) (g := gName 5) (tt := tYes) rfl scLetters.nd
        (pi_range1 rfl mr (pa_cons (pv 2) pa_nil))
        (blkOk_by (N := ["_law_rng", "_law_most", "_law_size", "_law_first", "_law_step", "_law_k"]) (sc := defScope sLetters) (by decide +kernel))
        (fun _ _ _ _ _ => pg_name (i := 5) scLetters.nd rfl (Or.inl rfl)) (fun _ _ _ _ _ => pts_nil)
        (fun _ _ _ _ _ => pe_ix ix_str pe_str (pe_op op_mod (pe_callTy call_int1 (by rfl) mi (by decide +kernel)
          (pa_cons (pe_op op_add (pv 3) (pe_op op_mul (pv 4) (pv 5))) pa_nil)) pe_int) (fun _ _ => rfl))))))), ?_⟩
    obtain ⟨xr, er⟩ := R.ex
    refine ⟨_, rfl, _, rfl, (by show 6 ≤ sizeLine; decide), fun l nl => ?_⟩
    refine ⟨r, .ref l, rfl, R.same (same_new nl), .inl ⟨l, _, rfl, (ne_of_none er nl).symm, .inl (.inl upd_same), by decide, by decide, fun H1 v g1 hv => ?_⟩⟩
    obtain ⟨j, rfl, hj⟩ : ∃ j : Nat, v = .int j ∧ j ∈ [2, 3, 4] := by
      simp only [List.mem_cons, List.not_mem_nil, or_false] at hv
      rcases hv with e | e | e | e | e | e <;>
        first | exact ⟨2, e, by decide⟩ | exact ⟨3, e, by decide⟩ | exact ⟨4, e, by decide⟩
    have G1 : Go r H H1 := Go.after R (same_new nl) g1
    obtain ⟨n, hn1, hn2, hn3⟩ : ∃ n : Nat, (if (j : Int) < m then (j : Int) else m) = (n : Int) ∧ n ∈ [2, 3, 4] ∧ (n : Int) ≤ m := by
      have hj2 : 2 ≤ j ∧ j ≤ 4 := by
        simp only [List.mem_cons, List.not_mem_nil, or_false] at hj
        omega
      by_cases h : (j : Int) < m
      · rw [if_pos h]
        exact ⟨j, rfl, hj, by omega⟩
      · rw [if_neg h]
        refine ⟨m.toNat, by omega, ?_, by omega⟩
        simp only [List.mem_cons, List.not_mem_nil, or_false]
        omega
    refine ⟨_, _, rfl, ?_⟩
    rw [hn1]
    refine ⟨_, rfl, r, 26, rfl, by decide, by decide, g1.rng, fun H2 f g2 f0 f1 => ?_⟩
    obtain ⟨f, rfl⟩ := Int.eq_ofNat_of_zero_le f0
    obtain ⟨x2, e2⟩ := g2.rng.ex
    refine ⟨_, rfl, (by show 5 ≤ sizeLine; decide), fun l2 nl2 => ?_⟩
    refine ⟨r, .ref l2, rfl, g2.rng.same (same_new nl2), .inl ⟨l2, _, rfl, (ne_of_none e2 nl2).symm, .inl (.inl upd_same), by decide, by decide, fun H3 v g3 hv => ?_⟩⟩
    obtain ⟨t, rfl, ht⟩ : ∃ j : Nat, v = .int j ∧ j ∈ [1, 3, 5, 25, 7] := by
      simp only [List.mem_cons, List.not_mem_nil, or_false] at hv
      rcases hv with e | e | e | e | e <;>
        first | exact ⟨1, e, by decide⟩ | exact ⟨3, e, by decide⟩ | exact ⟨5, e, by decide⟩ | exact ⟨25, e, by decide⟩ | exact ⟨7, e, by decide⟩
    have G3 : Go r H H3 := (G1.trans g2).trans (Go.after g2.rng (same_new nl2) g3)
    refine ⟨(by show 2 ≤ sizeLine; decide), fun T nT => ?_⟩
    refine ⟨T, _, rfl, .inl (.inl upd_same), rfl, _, _, rfl, _, _, rfl, rfl, ?_⟩
    have G4 := G3.same (same_new (o := .tup [.int (f : Int), .int (t : Int)]) nT)
    have hn4 : n ≤ 4 := by
      simp only [List.mem_cons, List.not_mem_nil, or_false] at hn2
      omega
    refine ⟨⟨_, rfl⟩, _, rfl, _, rfl, by omega, by omega, fun D nD => ?_⟩
    have t25 : t ≤ 25 := by
      simp only [List.mem_cons, List.not_mem_nil, or_false] at ht
      omega
    refine lc_range (lo := 0) (n := (n : Int).toNat)
      (fun i H' => H' = upd (upd H3 T (.tup [.int (f : Int), .int (t : Int)])) D (.lst ((lets f t i).map fun c => V.str (S [c])))) rfl ?_ ?_
    · rintro i H' hi rfl
      have ei : ((f : Int) + (t : Int) * (0 + (i : Int))) % 26 = (((f + t * i) % 26 : Nat) : Int) := by
        rw [Int.zero_add, ← Int.natCast_mul]
        generalize t * i = u
        omega
      have ec : (List.range' 97 26)[(f + t * i) % 26]? = some (97 + (f + t * i) % 26) := by
        rw [List.getElem?_range' (by omega)]
        simp
      refine ⟨rfl, _, rfl, _, rfl, _, rfl, _, _, rfl, rfl, .inl ⟨by omega, by omega⟩, _, _, rfl, rfl, .inl ⟨_, rfl, _, _, rfl, rfl,
        (by show (0 : Int) < 26; decide), ?_⟩⟩
      refine ⟨_, _, 97 + (f + t * i) % 26, rfl, rfl, by decide, ?_, _, upd_same, ?_, ?_⟩
      · show atI (Str.ofString "abcdefghijklmnopqrstuvwxyz").cps.toList (((f : Int) + (t : Int) * (0 + (i : Int))) % 26) = _
        rw [az, ei]
        exact atI_nat ec
      · rw [List.length_map]
        unfold lets
        rw [List.length_map, List.length_range]
        exact small1000 (by omega)
      · rw [upd_upd]
        unfold lets
        rw [List.range_succ, List.map_append, List.map_append]
        rfl
    · rintro H' rfl
      have nDr : D ≠ r := by
        obtain ⟨x4, e4⟩ := G4.rng.ex
        exact (ne_of_none e4 nD).symm
      refine ⟨_, D, (lets f t n).map (fun c => S [c]), rfl, rfl, .inl (.inl (.inl ?_)), ?_, ?_⟩
      · rw [upd_same, List.map_map]
        rfl
      · rw [one_len]
        have : (lets f t n).length = n := by unfold lets; rw [List.length_map, List.length_range]
        rw [this]
        show n + _ * 0 ≤ _
        omega
      · rw [joinC]
        refine q _ _ (G4.same (same_new nD)) (lets_good (by omega) ht hn2) ?_
        have : (lets f t n).length = n := by unfold lets; rw [List.length_map, List.length_range]
        omega
abbrev sWord : Stmt := topS 19
theorem scWord : FnScope ["_law_rng", "_law_signs", "_law_most", "_law_k"]
    ["_law_rng", "_law_signs", "_law_most"] (defScope sWord) :=
  ⟨rfl, rfl, rfl, by decide +kernel, rfl, by decide +kernel, by decide +kernel⟩
theorem ok_word {f fD fP : Addr} {fd fdD fdP : FuncData} (F : Fun K "_law_word" "_law_word" sWord f fd)
    (FD : Fun K "_law_draw" "_law_draw" sDraw fD fdD) (bD : Binds K fdD ["_law_rng", "_law_sides"] [])
    (gD : mg "_law_draw" = some (.ref fD))
    (FP : Fun K "_law_pick" "_law_pick" sPick fP fdP) (bP : Binds K fdP ["_law_rng", "_law_things"] [])
    (gP : mg "_law_pick" = some (.ref fP)) (mi : mg "int" = none) (ml : mg "len" = none)
    (mr : mg "range" = none) :
    FnOk P w K mg base CX0 3 f fd ["_law_rng", "_law_signs", "_law_most"] spWord := by
  have GD : FnOk P w K mg base CX0 1 fD fdD ["_law_rng", "_law_sides"] spDraw := ok_draw FD mi ml
  have GP : FnOk P w K mg base CX0 2 fP fdP ["_law_rng", "_law_things"] (spPick K) := ok_pick FP FD bD gD mi ml
  refine F.ok scWord (fun vs H Q E h => ?_) (fun cdv A outer s H vs Q E hr h => ?_)
  · obtain ⟨r, gs, m, rfl, _⟩ := h
    rfl
  · obtain ⟨r, gs, m, rfl, h0, h1, m0, m1, R, q⟩ := h
    have hr1 : Room 1 _ := hr.mono (by decide)
    refine ⟨_, pss_one (ps_ret (pe_join pe_str (pe_lc (own := [("_law_k", 3)]) (g := gName 3) (tt := tYes) rfl scWord.nd
        (pi_range1 rfl mr (pa_cons (pe_call GD hr1 (by rfl) gD FD.kp bD .nil pass0 (pa_cons (pv 0) (pa_cons (pe_op op_add (pv 2) pe_int) pa_nil))) pa_nil))
        (blkOk_by (N := ["_law_rng", "_law_signs", "_law_most", "_law_k"]) (sc := defScope sWord) (by decide +kernel))
        (fun _ _ _ _ _ => pg_name (i := 3) scWord.nd rfl (Or.inl rfl)) (fun _ _ _ _ _ => pts_nil)
        (fun _ _ _ _ _ => pe_call GP hr (by rfl) gP FP.kp bP .nil pass0 (pa_cons (pv 0) (pa_cons (pv 1) pa_nil)))))), ?_⟩
    refine ⟨⟨_, rfl⟩, _, rfl, _, rfl, _, _, rfl, rfl, r, _, rfl, by omega, by omega, R, fun H1 k g1 k0 k1 => ?_⟩
    obtain ⟨n, rfl⟩ := Int.eq_ofNat_of_zero_le k0
    refine ⟨_, rfl, by omega, by omega, fun D nD => ?_⟩
    obtain ⟨xr, er⟩ := g1.rng.ex
    have nDr : D ≠ r := (ne_of_none er nD).symm
    refine lc_range (lo := 0) (n := (n : Int).toNat)
      (fun i H' => ∃ cs : List Nat, H' D = some (.lst (cs.map fun c => V.str (S [c]))) ∧ (∀ c ∈ cs, c ∈ gs) ∧ cs.length = i ∧ Go r H1 H')
      ⟨[], upd_same, (fun c hc => nomatch hc), rfl, (Go.refl g1.rng).same (same_new nD)⟩ ?_ ?_
    · rintro i H' hi ⟨cs, hD, hc, hn, g⟩
      refine ⟨rfl, _, rfl, _, rfl, r, _, rfl, g.rng, .inr ⟨gs, rfl, h0, h1, fun H2 c g2 hcm => ?_⟩⟩
      refine ⟨_, g2.1 _ _ nDr hD, ?_, ?_⟩
      · rw [List.length_map]
        exact small1000 (by omega)
      · refine ⟨cs ++ [c], ?_, fun x hx => ?_, by rw [List.length_append, hn]; rfl, ?_⟩
        · rw [upd_same, List.map_append]
          rfl
        · rcases List.mem_append.mp hx with h | h
          · exact hc x h
          · rw [List.mem_singleton.mp h]; exact hcm
        · exact (g.trans g2).put nD
    · rintro H' ⟨cs, hD, hc, hn, g⟩
      refine ⟨_, D, cs.map (fun c => S [c]), rfl, rfl, .inl (.inl (.inl ?_)), ?_, ?_⟩
      · rw [hD, List.map_map]
        rfl
      · rw [one_len]
        show cs.length + _ * 0 ≤ _
        omega
      · rw [joinC]
        exact q _ _ (g1.trans g) hc (by omega)
abbrev sSame : Stmt := topS 15
theorem scSame : FnScope ["_law_found", "_law_due", "_law_a", "_law_b"] ["_law_found", "_law_due"] (defScope sSame) :=
  ⟨rfl, rfl, rfl, by decide +kernel, rfl, by decide +kernel, by decide +kernel⟩
theorem same_step {f : Addr} {fd : FuncData} {n : Nat} (F : Fun K "_law_same" "_law_same" sSame f fd) (T : SameT mg)
    (bS : Binds K fd ["_law_found", "_law_due"] []) (gS : mg "_law_same" = some (.ref f))
    (GS : FnOk P w K mg base CX0 n f fd ["_law_found", "_law_due"] (spSm K n)) :
    FnOk P w K mg base CX0 (n + 1) f fd ["_law_found", "_law_due"] (spSm K (n + 1)) := by
  refine F.ok scSame (fun vs H Q E h => ?_) (fun cdv A outer s H vs Q E hr h => ?_)
  · obtain ⟨x, y, rfl, _⟩ := h
    rfl
  · obtain ⟨x, y, rfl, h, q⟩ := h
    refine ⟨_, pss_cons (ps_if (pt_val (pe_callB call_isiT (by rfl) T.isi (by decide +kernel) (pa_cons (pv 1) (pa_cons
          (pe_tup (pa_cons (pe_bltn (v := .ty "list") (u := .type "list") (by rfl) T.list (by decide +kernel) rfl)
            (pa_cons (pe_bltn (v := .ty "tuple") (u := .type "tuple") (by rfl) T.tuple (by decide +kernel) rfl) pa_nil))) pa_nil))))
        (pss_cons (ps_if (PW.pt (pw_or
            (pt_cmpR op_ne (pe_callB call_isi (by rfl) T.isi (by decide +kernel) (pa_cons (pv 0) (pa_cons (pe_bltn (v := .ty "list") (u := .type "list") (by rfl) T.list (by decide +kernel) rfl) pa_nil)))
              (pe_callB call_isi (by rfl) T.isi (by decide +kernel) (pa_cons (pv 1) (pa_cons (pe_bltn (v := .ty "list") (u := .type "list") (by rfl) T.list (by decide +kernel) rfl) pa_nil))) (nomark _))
            (pw_or1 (pt_cmpR op_ne (pe_callB call_isi (by rfl) T.isi (by decide +kernel) (pa_cons (pv 0) (pa_cons (pe_bltn (v := .ty "tuple") (u := .type "tuple") (by rfl) T.tuple (by decide +kernel) rfl) pa_nil)))
              (pe_callB call_isi (by rfl) T.isi (by decide +kernel) (pa_cons (pv 1) (pa_cons (pe_bltn (v := .ty "tuple") (u := .type "tuple") (by rfl) T.tuple (by decide +kernel) rfl) pa_nil))) (nomark _)))))
          pss_never pss_nil)
        (pss_one (ps_ret (pe_and (pe_cmpR op_eq (pe_callB call_len (by rfl) T.len PySem.boot_len (pa_cons (pv 0) pa_nil)) (pe_callB call_len (by rfl) T.len PySem.boot_len (pa_cons (pv 1) pa_nil)) (nomark _))
          (pe_one (pe_callB (cr_all rfl) (by rfl) T.all (by decide +kernel) (pa_cons
            (pe_lc (own := [("_law_a", 2), ("_law_b", 3)]) (g := gTup K 2 (gCons (gName 2) (gCons (gName 3) gNil))) (tt := tYes) rfl scSame.nd
              (pi_zipA (by rfl) T.zip (pa_cons (pv 0) (pa_cons (pv 1) pa_nil)))
              (blkOk_by (N := ["_law_found", "_law_due", "_law_a", "_law_b"]) (sc := defScope sSame) (by decide +kernel))
              (fun _ _ _ _ _ => pg_tup rfl (pgs_cons (pg_name (i := 2) scSame.nd rfl (Or.inl rfl)) (pgs_cons (pg_name (i := 3) scSame.nd rfl (Or.inl rfl)) pgs_nil)))
              (fun _ _ _ _ _ => pts_nil)
              (fun _ _ _ _ _ => pe_call GS hr (by rfl) gS F.kp bS .nil pass0 (pa_cons (pv 2) (pa_cons (pv 3) pa_nil)))) pa_nil)))))))
        pss_nil)
      (pss_cons (ps_if (PW.pt (pw_or (pt_cmpR op_isN (pv 1) pe_non (nomark _)) (pw_or1 (pt_cmpR op_isN (pv 0) pe_non (nomark _)))))
        (pss_one (ps_ret (pe_and (pe_cmpR op_isN (pv 1) pe_non (nomark _)) (pe_one (pe_cmpR op_isN (pv 0) pe_non (nomark _)))))) pss_nil)
      (pss_cons (ps_if (PW.pt (pw_or
            (pt_cmpR op_ne (pe_callB call_isi (by rfl) T.isi (by decide +kernel) (pa_cons (pv 1) (pa_cons (pe_bltn (v := .ty "bool") (u := .type "bool") (by rfl) T.bool (by decide +kernel) rfl) pa_nil)))
              (pe_callB call_isi (by rfl) T.isi (by decide +kernel) (pa_cons (pv 0) (pa_cons (pe_bltn (v := .ty "bool") (u := .type "bool") (by rfl) T.bool (by decide +kernel) rfl) pa_nil))) (nomark _))
            (pw_or1 (pt_cmpR op_ne (pe_callB call_isi (by rfl) T.isi (by decide +kernel) (pa_cons (pv 1) (pa_cons (pe_bltn (v := .ty "int") (u := .type "int") (by rfl) T.int (by decide +kernel) rfl) pa_nil)))
              (pe_callB call_isi (by rfl) T.isi (by decide +kernel) (pa_cons (pv 0) (pa_cons (pe_bltn (v := .ty "int") (u := .type "int") (by rfl) T.int (by decide +kernel) rfl) pa_nil))) (nomark _)))))
          pss_never pss_nil)
      (pss_one (ps_ret (pe_and (pe_cmpR op_eq (pe_callB call_isi (by rfl) T.isi (by decide +kernel) (pa_cons (pv 1) (pa_cons (pe_bltn (v := .ty "str") (u := .type "str") (by rfl) T.str (by decide +kernel) rfl) pa_nil)))
              (pe_callB call_isi (by rfl) T.isi (by decide +kernel) (pa_cons (pv 0) (pa_cons (pe_bltn (v := .ty "str") (u := .type "str") (by rfl) T.str (by decide +kernel) rfl) pa_nil))) (nomark _))
        (pe_one (pe_cmpR op_eq (pv 0) (pv 1) (nomark _)))))))), ?_⟩
    rcases h with ⟨rfl, hf⟩ | ⟨a, b, xs, ys, rfl, rfl, hab, l1, l2, k⟩
    · obtain ⟨t, hty, k1, k2, ⟨b1, k3⟩, ⟨b2, k4⟩, ⟨b3, k5⟩⟩ := flat_ty (K := K) hf
      refine ⟨_, rfl, (by show 2 ≤ sizeLine; decide), fun tp ntp => ?_⟩
      have s1 := same_new (o := .tup [.ty "list", .ty "tuple"]) ntp
      refine ⟨x, tp, _, .type t, [.type "list", .type "tuple"], false, rfl, upd_same, .cons (.ty _) (.cons (.ty _) .nil), hty _, kit2 k1 k2, false, rfl, iteF ?_⟩
      by_cases hx : x = .non
      · subst hx
        refine ⟨_, rfl, rfl, _, rfl, ?_⟩
        rw [decide_eq_true rfl]
        refine ⟨_, rfl, rfl, true, by rw [decide_eq_true rfl], iteT ⟨_, rfl, rfl, ?_⟩⟩
        rw [decide_eq_true rfl]
        exact q _ s1
      · refine ⟨_, rfl, rfl, _, rfl, ?_⟩
        rw [decide_eq_false hx]
        refine ⟨_, rfl, rfl, _, rfl, ?_⟩
        rw [decide_eq_false hx]
        refine ⟨_, rfl, x, .ty "bool", .type t, .type "bool", b1, rfl, .ty _, hty _, kit_ty k3, _, rfl, x, .ty "bool", .type t, .type "bool", b1, rfl, .ty _, hty _, kit_ty k3, rfl, _, rfl, ?_⟩
        refine iteNS rfl ?_
        refine ⟨_, rfl, x, .ty "int", .type t, .type "int", b2, rfl, .ty _, hty _, kit_ty k4, _, rfl, x, .ty "int", .type t, .type "int", b2, rfl, .ty _, hty _, kit_ty k4, rfl, _, rfl, ?_⟩
        refine iteNS rfl ?_
        refine ⟨_, rfl, x, .ty "str", .type t, .type "str", b3, rfl, .ty _, hty _, kit_ty k5, _, rfl, x, .ty "str", .type t, .type "str", b3, rfl, .ty _, hty _, kit_ty k5, rfl, true, by rw [decide_eq_true rfl], iteT ?_⟩
        refine ⟨_, rfl, _, rfl, ?_, ?_⟩
        · cases x with
          | non => exact absurd rfl hx
          | bl b => rfl
          | int i => rfl
          | str z => rfl
          | _ => exact hf.elim
        · rw [decide_eq_true rfl]
          exact q _ s1
    · refine ⟨_, rfl, (by show 2 ≤ sizeLine; decide), fun tp ntp => ?_⟩
      have s1 := same_new (o := .tup [.ty "list", .ty "tuple"]) ntp
      have turn : ∀ (D : Addr) (nD : (upd H tp (.tup [.ty "list", .ty "tuple"])) D = none) (i : Nat) (x : V) (H' H'' : Hp),
          (Same (upd H tp (.tup [.ty "list", .ty "tuple"])) H' ∧ H' D = some (.lst ((List.replicate i true).map V.bl))) → i < xs.length →
          YPair (fun i => xs[i]?) (fun i => ys[i]?) i H' x H'' →
          gTup K 2 (gCons (gName 2) (gCons (gName 3) gNil)) x [some (.ref a), some (.ref b), none, none] H'' fun σ2 H2 =>
            wipe σ2 [2, 3] = wipe [some (.ref a), some (.ref b), none, none] [2, 3] ∧ tYes σ2 H2 fun c H3 =>
            if c = true then tCall (spSm K n) [] E0 (tCons (tVar 2) (tCons (tVar 3) tNil)) σ2 H3 fun y H4 => ∃ acc, H4 D = some (.lst acc) ∧ acc.length < sizeLine ∧
              (Same (upd H tp (.tup [.ty "list", .ty "tuple"])) (upd H4 D (.lst (acc ++ [y]))) ∧ (upd H4 D (.lst (acc ++ [y]))) D = some (.lst ((List.replicate (i + 1) true).map V.bl)))
            else (Same (upd H tp (.tup [.ty "list", .ty "tuple"])) H3 ∧ H3 D = some (.lst ((List.replicate (i + 1) true).map V.bl))) := by
        rintro D nD i x H' H'' ⟨sm, hD⟩ hi ⟨T, u, v, rfl, nT, rfl, hu, hv⟩
        have s2 := same_new (o := .tup [u, v]) nT
        refine ⟨T, _, rfl, .inl (.inl upd_same), rfl, _, _, rfl, _, _, rfl, rfl, rfl, ?_⟩
        refine ⟨_, rfl, _, rfl, u, v, rfl, (k i u v hu hv).same ((s1.trans sm).trans s2), fun H4 s4 => ?_⟩
        refine ⟨_, s4 _ _ (s2 _ _ hD), ?_, fun b o e => ?_, ?_⟩
        · rw [List.length_map, List.length_replicate]
          exact small1000 (by omega)
        · rw [upd_ne (ne_of_none e nD)]
          exact s4 _ _ (s2 _ _ (sm _ _ e))
        · rw [upd_same, List.replicate_succ', List.map_append]
          rfl
      have fin : ∀ (D : Addr) (H' : Hp), (Same (upd H tp (.tup [.ty "list", .ty "tuple"])) H' ∧ H' D = some (.lst ((List.replicate xs.length true).map V.bl))) →
          rAll K [.ref D] H' fun v H' => Q v H' := by
        rintro D H' ⟨sm, hD⟩
        refine ⟨D, _, rfl, .inl (.inl hD), ?_⟩
        have e : (List.replicate xs.length true).all id = true := by
          rw [List.all_eq_true]
          intro c hc
          rw [List.eq_of_mem_replicate hc]
          rfl
        rw [e]
        exact q _ (s1.trans sm)
      rcases hab with ⟨ha, hb⟩ | ⟨ha, hb⟩
      · have ha := s1.seq ha
        have hb := s1.seq hb
        refine ⟨.ref b, tp, _, .type "list", [.type "list", .type "tuple"], true, rfl, upd_same, .cons (.ty _) (.cons (.ty _) .nil), tyL hb, kit2 (r := true) (s := false) (by decide +kernel) (by decide +kernel), true, rfl, iteT ?_⟩
        refine ⟨_, rfl, .ref a, .ty "list", .type "list", .type "list", true, rfl, .ty _, tyL ha, kit_ty (by decide +kernel), _, rfl, .ref b, .ty "list", .type "list", .type "list", true, rfl, .ty _, tyL hb, kit_ty (by decide +kernel), rfl, _, rfl, ?_⟩
        refine iteNS rfl ?_
        refine ⟨_, rfl, .ref a, .ty "tuple", .type "list", .type "tuple", false, rfl, .ty _, tyL ha, kit_ty (by decide +kernel), _, rfl, .ref b, .ty "tuple", .type "list", .type "tuple", false, rfl, .ty _, tyL hb, kit_ty (by decide +kernel), rfl, _, rfl, ?_⟩
        refine iteNS rfl ?_
        refine ⟨_, rfl, _, xs.length, rfl, .inl ⟨_, ha, rfl⟩, _, rfl, _, xs.length, rfl, .inl ⟨_, hb, l2⟩, rfl, true, by rw [decide_eq_true rfl], iteT ?_⟩
        refine ⟨_, rfl, _, rfl, a, b, xs, ys, rfl, .inl ⟨ha, hb, fun D nD => ?_⟩⟩
        refine lc_it (walk_zip (K := K) (a := a) (b := b) (xs := xs) (ys := ys) (n := xs.length) (by omega))
          (fun i H' => Same (upd H tp (.tup [.ty "list", .ty "tuple"])) H' ∧ H' D = some (.lst ((List.replicate i true).map V.bl)))
          ⟨same_new nD, upd_same⟩ (fun i H' _ ⟨sm, _⟩ => ⟨sm.seq ha, sm.seq hb⟩) (fun i x H' H'' hi p y => turn D nD i x H' H'' p hi y) (fun H' p => fin D H' p)
      · have ha := same_t s1 ha
        have hb := same_t s1 hb
        refine ⟨.ref b, tp, _, .type "tuple", [.type "list", .type "tuple"], true, rfl, upd_same, .cons (.ty _) (.cons (.ty _) .nil), tyT hb, kit2 (r := false) (s := true) (by decide +kernel) (by decide +kernel), true, rfl, iteT ?_⟩
        refine ⟨_, rfl, .ref a, .ty "list", .type "tuple", .type "list", false, rfl, .ty _, tyT ha, kit_ty (by decide +kernel), _, rfl, .ref b, .ty "list", .type "tuple", .type "list", false, rfl, .ty _, tyT hb, kit_ty (by decide +kernel), rfl, _, rfl, ?_⟩
        refine iteNS rfl ?_
        refine ⟨_, rfl, .ref a, .ty "tuple", .type "tuple", .type "tuple", true, rfl, .ty _, tyT ha, kit_ty (by decide +kernel), _, rfl, .ref b, .ty "tuple", .type "tuple", .type "tuple", true, rfl, .ty _, tyT hb, kit_ty (by decide +kernel), rfl, _, rfl, ?_⟩
        refine iteNS rfl ?_
        refine ⟨_, rfl, _, xs.length, rfl, .inr ⟨_, ha, rfl⟩, _, rfl, _, xs.length, rfl, .inr ⟨_, hb, l2⟩, rfl, true, by rw [decide_eq_true rfl], iteT ?_⟩
        refine ⟨_, rfl, _, rfl, a, b, xs, ys, rfl, .inr ⟨ha, hb, fun D nD => ?_⟩⟩
        refine lc_it (walk_zT (K := K) (a := a) (b := b) (xs := xs) (ys := ys) (n := xs.length) (by omega))
          (fun i H' => Same (upd H tp (.tup [.ty "list", .ty "tuple"])) H' ∧ H' D = some (.lst ((List.replicate i true).map V.bl)))
          ⟨same_new nD, upd_same⟩ (fun i H' _ ⟨sm, _⟩ => ⟨same_t sm ha, same_t sm hb⟩) (fun i x H' H'' hi p y => turn D nD i x H' H'' p hi y) (fun H' p => fin D H' p)

theorem ok_same {f : Addr} {fd : FuncData} (F : Fun K "_law_same" "_law_same" sSame f fd) (T : SameT mg)
    (bS : Binds K fd ["_law_found", "_law_due"] []) (gS : mg "_law_same" = some (.ref f)) :
    ∀ n, FnOk P w K mg base CX0 n f fd ["_law_found", "_law_due"] (spSm K n)
  | 0 => ⟨fun vs H Q E h => (let ⟨_, _, _, h, _⟩ := h; h.elim), fun A outer s H args us vs Q E _ _ _ _ h => (let ⟨_, _, _, h, _⟩ := h; h.elim)⟩
  | n + 1 => same_step F T bS gS (ok_same F T bS gS n)
abbrev sField : Stmt := topS 16
theorem scField : FnScope ["_law_e"] ["_law_e"] (defScope sField) :=
  ⟨rfl, rfl, rfl, by decide +kernel, rfl, by decide +kernel, by decide +kernel⟩
theorem ok_field {f : Addr} {fd : FuncData} (F : Fun K "_law_field" "_law_field" sField f fd) :
    FnP P w K mg base 1 f fd ["_law_e"] (spFld K) := by
  refine fn_ofP F scField (fun a cls d vs H Q E h => ?_) (fun cdv A outer s H vs Q a oe cls d hz hf hr h => ?_)
  · obtain ⟨code, v, rfl, _⟩ := h
    rfl
  · obtain ⟨code, v, rfl, ⟨C, dd, fs, rfl, rfl, hd, T, nc, lc, hv⟩, q⟩ := h
    have hp : (a, oe) ∈ (L2H.cxH CX0 P w K mg base ["_law_e"] "_law_field" (defScope sField) f cdv A outer s H E0 (a, oe)).pn := List.mem_singleton.mpr rfl
    refine ⟨_, pss_cons (ps_if (pt_cmpR op_in_seq (pe_xg hp hz hf (pv 0)) (pe_tup (pa_cons pe_str (pa_cons pe_str pa_nil))) (by rfl)) (pss_one (ps_ret (pe_xg hp hz hf (pv 0)))) pss_nil)
      (pss_cons (ps_if (pt_cmpR op_in_seq (pe_xg hp hz hf (pv 0)) (pe_tup (pa_cons pe_str (pa_cons pe_str (pa_cons pe_str pa_nil)))) (by rfl)) pss_never pss_nil)
      (pss_cons (ps_if (pt_cmpR op_in_seq (pe_xg hp hz hf (pv 0)) (pe_tup (pa_cons pe_str (pa_cons pe_str (pa_cons pe_str (pa_cons pe_str (pa_cons pe_str (pa_cons pe_str pa_nil))))))) (by rfl)) pss_never pss_nil)
      (pss_cons (ps_if (pt_cmpR op_in_seq (pe_xg hp hz hf (pv 0)) (pe_tup (pa_cons pe_str (pa_cons pe_str pa_nil))) (by rfl)) pss_never pss_nil)
      (pss_one (ps_ret (pe_ifExp (pt_cmpR op_eq (pe_xg hp hz hf (pv 0)) pe_str (nomark _)) (pe_xg hp hz hf (pv 0)) pe_non)))))), ?_⟩
    refine ⟨_, rfl, rfl, C, dd, fs, _, rfl, T, nc, rfl, hd, lc, (by show 2 ≤ sizeLine; decide), fun t1 n1 => ?_⟩
    have s1 := same_new (o := .tup [.str (Str.ofString "UnknownLetter"), .str (Str.ofString "ParseError")]) n1
    refine ⟨t1, _, rfl, .inr (.inl (.inl upd_same)), rfl, rfl, ?_⟩
    rcases hv with ⟨hc, np, lp⟩ | ⟨hc, rfl⟩
    · have e : inV (.str code) [.str (Str.ofString "UnknownLetter"), .str (Str.ofString "ParseError")] = true := by
        rcases hc with rfl | rfl <;> decide +kernel
      refine ⟨true, congrArg V.bl e, iteT ?_⟩
      exact ⟨_, rfl, rfl, C, dd, fs, _, rfl, T, np, rfl, s1 _ _ hd, lp, q _ s1⟩
    · have e : inV (.str code) [.str (Str.ofString "UnknownLetter"), .str (Str.ofString "ParseError")] = false := by
        rcases hc with rfl | rfl <;> decide +kernel
      refine ⟨false, congrArg V.bl e, iteF ?_⟩
      refine ⟨_, rfl, rfl, C, dd, fs, _, rfl, T, nc, rfl, s1 _ _ hd, lc, (by show 3 ≤ sizeLine; decide), fun t2 n2 => ?_⟩
      have s2 := s1.trans (same_new (o := .tup [.str (Str.ofString "TooLong"), .str (Str.ofString "TooMany"), .str (Str.ofString "LimitReached")]) n2)
      refine ⟨t2, _, rfl, .inr (.inl (.inl upd_same)), rfl, rfl, ?_⟩
      have e : inV (.str code) [.str (Str.ofString "TooLong"), .str (Str.ofString "TooMany"), .str (Str.ofString "LimitReached")] = false := by
        rcases hc with rfl | rfl <;> decide +kernel
      refine ⟨false, congrArg V.bl e, iteF ?_⟩
      refine ⟨_, rfl, rfl, C, dd, fs, _, rfl, T, nc, rfl, s2 _ _ hd, lc, (by show 6 ≤ sizeLine; decide), fun t3 n3 => ?_⟩
      have s3 := s2.trans (same_new (o := .tup [.str (Str.ofString "InvalidName"), .str (Str.ofString "WrongKind"), .str (Str.ofString "CircularName"), .str (Str.ofString "NameInUse"), .str (Str.ofString "DuplicateName"), .str (Str.ofString "UnknownName")]) n3)
      refine ⟨t3, _, rfl, .inr (.inl (.inl upd_same)), rfl, rfl, ?_⟩
      have e : inV (.str code) [.str (Str.ofString "InvalidName"), .str (Str.ofString "WrongKind"), .str (Str.ofString "CircularName"), .str (Str.ofString "NameInUse"), .str (Str.ofString "DuplicateName"), .str (Str.ofString "UnknownName")] = false := by
        rcases hc with rfl | rfl <;> decide +kernel
      refine ⟨false, congrArg V.bl e, iteF ?_⟩
      refine ⟨_, rfl, rfl, C, dd, fs, _, rfl, T, nc, rfl, s3 _ _ hd, lc, (by show 2 ≤ sizeLine; decide), fun t4 n4 => ?_⟩
      have s4 := s3.trans (same_new (o := .tup [.str (Str.ofString "InvalidGame"), .str (Str.ofString "InvalidCommand")]) n4)
      refine ⟨t4, _, rfl, .inr (.inl (.inl upd_same)), rfl, rfl, ?_⟩
      have e : inV (.str code) [.str (Str.ofString "InvalidGame"), .str (Str.ofString "InvalidCommand")] = false := by
        rcases hc with rfl | rfl <;> decide +kernel
      refine ⟨false, congrArg V.bl e, iteF ?_⟩
      refine ⟨_, rfl, rfl, C, dd, fs, _, rfl, T, nc, rfl, s4 _ _ hd, lc, rfl, ?_⟩
      have e : decide (V.str code = V.str (Str.ofString "InvalidMachine")) = false := by
        rcases hc with rfl | rfl <;> decide +kernel
      refine ⟨false, congrArg V.bl e, iteF ?_⟩
      exact q _ s4
abbrev sTry : Stmt := topS 17
theorem scTry : FnScope ["_law_ask", "_law_e"] ["_law_ask"] (defScope sTry) :=
  ⟨rfl, rfl, rfl, by decide +kernel, rfl, by decide +kernel, by decide +kernel⟩
theorem try_gives {X : Cx} {g fF CF CM : Addr} {cdg : Value} {q : Str} {fdF : FuncData} (mF : X.mg "FillError" = some (.ref CF)) (mM : X.mg "Missing" = some (.ref CM))
    (FP : FnP X.prog X.w X.K X.mg X.base 1 fF fdF ["_law_e"] (spFld X.K)) (gF : X.mg "_law_field" = some (.ref fF)) (kF : PySem.W.keepIn X.K (.ref fF) = true)
    (bF : Binds X.K fdF ["_law_e"] []) (hr : Room 2 X.A) :
    LamX.GivesTo X ["_law_ask", "_law_e"] "_law_try" (defScope sTry) g cdg (defBody sTry) "_law_ask" q (TTry X.K CF CM) := by
  intro f c' s H Q tl act hc h
  have hrH : L2H.RoomH 1 (X.A.deeper (envOfC "_law_try" (defScope sTry) s.heap.objs.size g cdg)) := L2H.roomH_of (hr.deeper _)
  refine ⟨_, pss_one (ps_two (X := (cxOf C8.CX0 X.prog X.w X.K X.mg X.base ["_law_ask", "_law_e"] "_law_try" (defScope sTry) g cdg X.A X.stack s H C8.E0).nox) (c1 := .ref CF) (c2 := .ref CM) (i := 1)
      (tb := fun W D σ H => ∃ Ech : XK, (∀ cls d σ' H', Ech cls d H' → W cls d σ' H') ∧ σ[0]? = some (some (.ref f)) ∧ H c' = some (LamX.CodeO c' q) ∧
        tl Ech H (fun v H1 => 2 ≤ sizeLine ∧ ∀ t, H1 t = none → D.rt (.ref t) (upd H1 t (.tup [.str (Str.ofString "value"), v]))))
      (ts := fun a cls d => tRet (tTup (tCons (tXg X.K a cls d "code" (tVar 1)) (tCons (fun σ H Q => tCons (tVar 1) tNil σ H fun vs H1 => spFld X.K a cls d vs H1 Q E0) tNil))))
      rfl rfl scTry.nd rfl rfl (by rfl) mF (by decide) (by rfl) mM (by decide)
      (fun W pn xe tk _ => ?_)
      (fun a oe cls d pn hz hf => pss_one (ps_ret (pe_tup (pa_cons (pe_xg (X := (cxOf C8.CX0 X.prog X.w X.K X.mg X.base ["_law_ask", "_law_e"] "_law_try" (defScope sTry) g cdg X.A X.stack s H C8.E0).nox.suite a ((a, oe) :: pn)) (List.mem_cons_self ..) hz hf (pv 1))
        (pa_cons (pe_callP (X := (cxOf C8.CX0 X.prog X.w X.K X.mg X.base ["_law_ask", "_law_e"] "_law_try" (defScope sTry) g cdg X.A X.stack s H C8.E0).nox.suite a ((a, oe) :: pn)) (List.mem_cons_self ..) hz hf FP ⟨hrH.dp, hrH.un⟩ (by rfl) gF kF bF (pa_cons (pv 1) pa_nil)) pa_nil)))))), ?_⟩
  · refine ⟨fun pins s' σ H' D I h' => ?_⟩
    obtain ⟨Ech, hW, h1, h2, h3⟩ := h'
    refine (pss_one (ps_ret (pe_tup (pa_cons pe_str (pa_cons (act W pn xe Ech _ _ tk hW) pa_nil))))).run pins s' σ H' D I ⟨h1, h2, ?_⟩
    exact h3
  · refine ⟨_, fun cls d σ' H' hE => ?_, rfl, hc, h⟩
    obtain ⟨e1, code, v, ER, q⟩ := hE
    refine ⟨e1, fun a na hlen => ?_⟩
    have h1 : (σ'.set 1 (some (.ref a)))[1]? = some (some (.ref a)) := List.getElem?_set_self (by rw [hlen]; show 1 < 2; decide)
    obtain ⟨C, dd, fs, rfl, rfl, hd, T, nc, lc, hv⟩ := id ER
    refine ⟨_, h1, rfl, C, dd, fs, _, rfl, T, nc, rfl, hd, lc, _, h1, code, v, rfl, ER, fun H2 s2 => ?_⟩
    exact ⟨(by show 2 ≤ sizeLine; decide), fun t nt => q _ t s2 nt⟩
abbrev sInitIL : Stmt := inClass (topS 2) 0
theorem scInitIL : FnScope ["self"] ["self"] (defScope sInitIL) := ⟨rfl, rfl, rfl, by decide +kernel, rfl, by decide +kernel, by decide +kernel⟩
theorem ok_initIL {f C : Addr} {fd : FuncData} (F : Fun K "__init__" "InvalidLetters.__init__" sInitIL f fd) (T : ErrC K mg "InvalidLetters" C) :
    FnOk P w K mg base CX0 1 f fd ["self"] (spI0 K C "InvalidLetters") := by
  refine F.ok scInitIL (fun vs H Q E h => ?_) (fun cdv A outer s H vs Q E hr h => ?_)
  · obtain ⟨a, rfl, _⟩ := h
    rfl
  · obtain ⟨a, rfl, ha, q⟩ := h
    refine ⟨_, pss_one (ps_ost (pv 0) pe_str), ?_⟩
    exact ⟨_, rfl, a, C, rfl, T.ox, T.nc, .inl ⟨ha, fun dx n ne => q dx n ne⟩⟩
abbrev sInitUL : Stmt := inClass (topS 3) 0
theorem scInitUL : FnScope ["self", "position"] ["self", "position"] (defScope sInitUL) := ⟨rfl, rfl, rfl, by decide +kernel, rfl, by decide +kernel, by decide +kernel⟩
theorem ok_initUL {f C : Addr} {fd : FuncData} (F : Fun K "__init__" "UnknownLetter.__init__" sInitUL f fd) (T : ErrC K mg "UnknownLetter" C) :
    FnOk P w K mg base CX0 1 f fd ["self", "position"] (spI1 K C "UnknownLetter") := by
  refine F.ok scInitUL (fun vs H Q E h => ?_) (fun cdv A outer s H vs Q E hr h => ?_)
  · obtain ⟨a, v, rfl, _⟩ := h
    rfl
  · obtain ⟨a, v, rfl, ha, q⟩ := h
    refine ⟨_, pss_cons (ps_ost (pv 0) pe_str) (pss_one (ps_ost (pv 0) (pv 1))), ?_⟩
    refine ⟨_, rfl, a, C, rfl, T.ox, T.nc, .inl ⟨ha, fun dx n ne => ?_⟩⟩
    refine ⟨_, rfl, _, rfl, a, C, rfl, T.ox, T.np, .inr ⟨dx, _, upd_same, by rw [upd_ne ne, upd_same], by decide, q dx n ne⟩⟩
abbrev sCheckL : Stmt := topS 9
theorem scCheckL : FnScope ["letters", "at", "letter"] ["letters"] (defScope sCheckL) :=
  ⟨rfl, rfl, rfl, by decide +kernel, rfl, by decide +kernel, by decide +kernel⟩
theorem ok_checkL {f fI C : Addr} {fd fdI : FuncData} (F : Fun K "check_letters" "check_letters" sCheckL f fd) (T : ErrC K mg "InvalidLetters" C)
    (FI : Fun K "__init__" "InvalidLetters.__init__" sInitIL fI fdI) (bI : Binds K fdI ["self"] []) (iC : PySem.W.findIn K (.ref C) "__init__" = some (some (.ref fI))) (tI : PySem.W.typeIn K (.ref fI) = some (.type "function"))
    (me : mg "enumerate" = none) (ml : mg "len" = none) (mL : ∃ t, mg "LEAST_LETTERS" = some (.int 2 t)) (mM : ∃ t, mg "MOST_LETTERS" = some (.int 4 t)) (mA : ∃ t, mg "LOWERCASE" = some (.str "abcdefghijklmnopqrstuvwxyz" t)) :
    FnOk P w K mg base (L2.CX P w) 3 f fd ["letters"] (spCL C) := by
  have GI : FnOk P w K mg base CX0 1 fI fdI ["self"] (spI0 K C "InvalidLetters") := ok_initIL FI T
  obtain ⟨tL, mL⟩ := mL
  obtain ⟨tM, mM⟩ := mM
  obtain ⟨tA, mA⟩ := mA
  refine F.okX scCheckL (fun vs H Q E h => ?_) (fun cdv A outer s H vs Q E hr h => ?_)
  · obtain ⟨cs, rfl, _⟩ := h
    rfl
  · obtain ⟨cs, rfl, hl, qv, qe⟩ := h
    refine ⟨_, pss_cons (ps_if (pt_not (pt_chain op_le op_le (pe_glob (v := .int 2) (by rfl) mL ⟨_, rfl⟩) (pe_callB call_len_str (by rfl) ml PySem.boot_len (pa_cons (pv 0) pa_nil)) (pe_glob (v := .int 4) (by rfl) mM ⟨_, rfl⟩)))
        (pss_one (ps_raise rfl (takes_of rfl rfl rfl rfl) (pmk0 T.ox iC tI GI hr bI pass0 (by rfl) T.gl))) pss_nil)
      (pss_one (ps_for (passes_of rfl) rfl (pi_enS (by rfl) me (pa_cons (pv 0) pa_nil))
        (pg_tup rfl (pgs_cons (pg_name (i := 1) scCheckL.nd rfl (.inl rfl)) (pgs_cons (pg_name (i := 2) scCheckL.nd rfl (.inl rfl)) pgs_nil)))
        (pss_one (ps_if (PW.pt (pw_or (pt_cmpR op_notIn_sign (pv 2) (pe_glob (v := .str (Str.ofString "abcdefghijklmnopqrstuvwxyz")) (by rfl) mA ⟨_, rfl⟩) rfl) (pw_or1 (pt_cmpR op_in_sign (pv 2) (pe_slice C8.sl_txt (pv 0) po_none (po_some (pv 1))) rfl))))
          (pss_one (ps_raise rfl (takes_of rfl rfl rfl rfl) (pmk0 T.ox iC tI GI hr bI pass0 (by rfl) T.gl))) pss_nil)))), ?_⟩
    have hz : (S cs).length ≤ sizeLine := by rw [S_len]; exact small hl
    -- a raise of it
    have bad : ∀ (H1 : Hp), Same H H1 → ¬ Valid cs → tMkO C (spI0 K C "InvalidLetters") [] tNil [] H1 fun cls d H' => E cls d H' := by
      intro H1 s1 hv
      refine ⟨Nat.zero_le _, fun a na => ⟨a, rfl, upd_same, fun dx nd ne => ⟨rfl, dx, _, upd_same, by rw [upd_ne ne, upd_same], ?_, ?_⟩⟩⟩
      · exact (after0 (C := C) (fs := []) na nd ne).1
      · exact qe hv _ _ (s1.trans (after0 na nd ne).2) upd_same
    have hbs : ((S cs).length : Int) = (cs.length : Int) := by rw [S_len]
    refine ⟨_, rfl, _, rfl, hz, _, _, rfl, rfl, _, rfl, ?_⟩
    rw [hbs]
    refine ite2 (fun h2 => ?_) (fun h2 => ?_)
    rotate_left
    · refine ⟨false, rfl, iteT ?_⟩
      refine bad _ (Same.refl _) fun v => h2 (decide_eq_true ?_)
      have := v.lo
      omega
    refine ⟨_, _, rfl, rfl, _, rfl, ?_⟩
    have hlo : 2 ≤ cs.length := by
      have := of_decide_eq_true h2
      omega
    by_cases h4 : cs.length ≤ 4
    rotate_left
    · have e : decide ((cs.length : Int) ≤ 4) = false := decide_eq_false (by omega)
      rw [e]
      exact iteT (bad _ (Same.refl _) fun v => h4 v.hi)
    have e : decide ((cs.length : Int) ≤ 4) = true := decide_eq_true (by omega)
    rw [e]
    refine iteF ?_
    refine ⟨_, rfl, _, rfl, for_it (walkE (z := S cs)) (fun i σ H' => ∃ v1 v2, σ = [some (.str (S cs)), v1, v2] ∧ Same H H' ∧ (∀ c ∈ cs.take i, 97 ≤ c ∧ c ≤ 122) ∧ (cs.take i).Nodup)
      ⟨none, none, rfl, Same.refl _, (fun c hc => by rw [List.take_zero] at hc; cases hc), by rw [List.take_zero]; exact List.Pairwise.nil⟩ (fun _ _ _ _ _ => trivial) ?_ ?_⟩
    · rintro i x σ H' H'' hi ⟨v1, v2, rfl, s1, haz, hnd⟩ ⟨T, c, rfl, nT, hc, rfl⟩
      have hc2 : cs[i]? = some c := by rw [← List.getElem?_toArray]; exact hc
      have s2 := s1.trans (same_new (o := .tup [.int (i : Nat), .str ⟨#[c]⟩]) nT)
      refine ⟨T, _, rfl, .inl (.inl upd_same), rfl, _, _, rfl, _, _, rfl, rfl, ?_⟩
      refine ⟨_, rfl, c, _, rfl, rfl, _, rfl, ?_⟩
      have hcm : c ∈ cs := List.mem_of_getElem? hc2
      have hil : i < cs.length := (List.getElem?_eq_some_iff.mp hc2).1
      by_cases hl2 : 97 ≤ c ∧ c ≤ 122
      rotate_left
      · have e : (!decide (c ∈ (Str.ofString "abcdefghijklmnopqrstuvwxyz").cps.toList)) = true := by
          rw [az]
          show (!decide (c ∈ List.range' 97 26)) = true
          rw [decide_eq_false fun h => hl2 (by have := List.mem_range'.mp h; omega)]
          rfl
        rw [e]
        refine iteT (iteT ?_)
        exact bad _ s2 fun v => hl2 (v.az c hcm)
      have e : (!decide (c ∈ (Str.ofString "abcdefghijklmnopqrstuvwxyz").cps.toList)) = false := by
        rw [az]
        show (!decide (c ∈ List.range' 97 26)) = false
        rw [decide_eq_true (List.mem_range'.mpr ⟨c - 97, by omega, by omega⟩)]
        rfl
      rw [e]
      refine ⟨_, rfl, _, rfl, _, rfl, _, rfl, _, rfl, hz, c, _, rfl, rfl, _, rfl, ?_⟩
      rw [slice_to (a := cs) (i := ((i : Nat) : Int)) (by omega)]
      show (if decide (c ∈ cs.take (((i : Nat) : Int).toNat)) = true then _ else _)
      rw [Int.toNat_natCast]
      have ht : cs.take (i + 1) = cs.take i ++ [c] := by rw [List.take_add_one, hc2]; rfl
      refine ite2 (fun hin => ?_) (fun hin => ?_)
      · refine bad _ s2 fun v => ?_
        have nd2 : (cs.take i ++ [c]).Nodup := by
          rw [← ht]
          exact (List.take_sublist _ _).nodup v.nd
        have := (List.nodup_append.mp nd2).2.2 c (of_decide_eq_true hin) c (List.mem_singleton.mpr rfl)
        exact this rfl
      · refine ⟨_, _, rfl, s2, ?_, ?_⟩
        · rw [ht]
          intro x hx
          rcases List.mem_append.mp hx with h | h
          · exact haz x h
          · rw [List.mem_singleton.mp h]; exact hl2
        · rw [ht]
          refine List.nodup_append.mpr ⟨hnd, by simp, fun z hz z' hz' e => ?_⟩
          rw [List.mem_singleton.mp hz'] at e
          rw [e] at hz
          exact hin (decide_eq_true hz)
    · rintro σ H' ⟨v1, v2, rfl, s1, haz, hnd⟩
      have e : cs.take (S cs).cps.size = cs := List.take_of_length_le (Nat.le_of_eq rfl)
      rw [e] at haz hnd
      exact qv ⟨hlo, h4, haz, hnd⟩ _ s1
abbrev sCheckT : Stmt := topS 10
theorem scCheckT : FnScope ["letters", "text", "at", "letter"] ["letters", "text"] (defScope sCheckT) :=
  ⟨rfl, rfl, rfl, by decide +kernel, rfl, by decide +kernel, by decide +kernel⟩
theorem ok_checkT {f fI C : Addr} {fd fdI : FuncData} (F : Fun K "check_text" "check_text" sCheckT f fd) (T : ErrC K mg "UnknownLetter" C)
    (FI : Fun K "__init__" "UnknownLetter.__init__" sInitUL fI fdI) (bI : Binds K fdI ["self", "position"] []) (iC : PySem.W.findIn K (.ref C) "__init__" = some (some (.ref fI))) (tI : PySem.W.typeIn K (.ref fI) = some (.type "function"))
    (me : mg "enumerate" = none) :
    FnOk P w K mg base (L2.CX P w) 3 f fd ["letters", "text"] (spCT C) := by
  have GI : FnOk P w K mg base CX0 1 fI fdI ["self", "position"] (spI1 K C "UnknownLetter") := ok_initUL FI T
  refine F.okX scCheckT (fun vs H Q E h => ?_) (fun cdv A outer s H vs Q E hr h => ?_)
  · obtain ⟨gs, xs, rfl, _⟩ := h
    rfl
  · obtain ⟨gs, xs, rfl, qv, qe⟩ := h
    refine ⟨_, pss_one (ps_for (passes_of rfl) rfl (pi_enS (by rfl) me (pa_cons (pv 1) pa_nil))
      (pg_tup rfl (pgs_cons (pg_name (i := 2) scCheckT.nd rfl (.inl rfl)) (pgs_cons (pg_name (i := 3) scCheckT.nd rfl (.inl rfl)) pgs_nil)))
      (pss_one (ps_if (pt_cmpR op_notIn_sign (pv 3) (pv 0) rfl)
        (pss_one (ps_raise rfl (takes_of rfl rfl rfl rfl) (pmk_oex T.ox iC tI GI hr bI .nil pass0 (by rfl) T.gl (pa_cons (pv 2) pa_nil)))) pss_nil))), ?_⟩
    refine ⟨_, rfl, _, rfl, for_it (walkE (z := S xs)) (fun i σ H' => ∃ v2 v3, σ = [some (.str (S gs)), some (.str (S xs)), v2, v3] ∧ Same H H' ∧ ∀ (j c' : Nat), j < i → xs[j]? = some c' → c' ∈ gs)
      ⟨none, none, rfl, Same.refl _, (fun j c' h => absurd h (Nat.not_lt_zero _))⟩ (fun _ _ _ _ _ => trivial) ?_ ?_⟩
    · rintro i x σ H' H'' hi ⟨v2, v3, rfl, s1, hall⟩ ⟨T', c, rfl, nT, hc, rfl⟩
      have hc2 : xs[i]? = some c := by rw [← List.getElem?_toArray]; exact hc
      have s2 := s1.trans (same_new (o := .tup [.int (i : Nat), .str ⟨#[c]⟩]) nT)
      refine ⟨T', _, rfl, .inl (.inl upd_same), rfl, _, _, rfl, _, _, rfl, rfl, ?_⟩
      refine ⟨_, rfl, _, rfl, c, _, rfl, rfl, _, rfl, ?_⟩
      by_cases hcm : c ∈ gs
      · refine iteNS hcm ?_
        refine ⟨_, _, rfl, s2, fun j c' hj hx => ?_⟩
        by_cases e : j = i
        · rw [e, hc2] at hx
          rw [← Option.some.inj hx]
          exact hcm
        · exact hall j c' (by omega) hx
      · have e : (!decide (c ∈ (S gs).cps.toList)) = true := by
          show (!decide (c ∈ gs)) = true
          rw [decide_eq_false hcm]
          rfl
        rw [e]
        refine iteT ⟨_, rfl, (by show 1 ≤ 1000; decide), fun a na => ⟨a, _, rfl, upd_same, fun dx nd ne => ⟨rfl, dx, _, ?_, upd_same, ?_, ?_⟩⟩⟩
        · rw [upd_ne ne.symm, upd_same]
        · exact (after0 (C := C) (fs := []) na nd ne).1
        · exact qe i c hc2 hcm hall _ _ (s2.trans (after1 na nd ne).2) upd_same
    · rintro σ H' ⟨v2, v3, rfl, s1, hall⟩
      refine qv (fun c hc => ?_) _ s1
      obtain ⟨j, hj⟩ := List.mem_iff_getElem?.mp hc
      exact hall j c (List.getElem?_eq_some_iff.mp hj).1 hj
abbrev sBent : Stmt := topS 20
theorem scBent : FnScope ["_law_rng", "_law_signs", "_law_at", "_law_sign"] ["_law_rng", "_law_signs"] (defScope sBent) :=
  ⟨rfl, rfl, rfl, by decide +kernel, rfl, by decide +kernel, by decide +kernel⟩
def spBent : Sp := fun vs H Q _ => ∃ (r : Addr) (gs : List Nat), vs = [.ref r, .str (S gs)] ∧ gs.length ≤ 100 ∧ Rng H r ∧
  ∀ H' cs, Go r H H' → cs.length ≤ 1000 → Q (.str (S cs)) H'
theorem ok_bent {f fD fP : Addr} {fd fdD fdP : FuncData} (F : Fun K "_law_bent_letters" "_law_bent_letters" sBent f fd) (ml : mg "len" = none)
    (CD : Cl P w K mg base "_law_draw" 1 ["_law_rng", "_law_sides"] spDraw fD fdD) (CP : Cl P w K mg base "_law_pick" 2 ["_law_rng", "_law_things"] (spPick K) fP fdP) :
    FnOk P w K mg base CX0 3 f fd ["_law_rng", "_law_signs"] spBent := by
  refine F.ok scBent (fun vs H Q E h => ?_) (fun cdv A outer s H vs Q E hr h => ?_)
  · obtain ⟨r, gs, rfl, _⟩ := h
    rfl
  · obtain ⟨r, gs, rfl, hl, R, q⟩ := h
    refine ⟨_, pss_cons (ps_set (i := 2) scBent.nd rfl (.inl rfl) (pe_cl CD hr (by decide) (by rfl) (pa_cons (pv 0) (pa_cons (pe_op op_add (pe_callB call_len_str (by rfl) ml PySem.boot_len (pa_cons (pv 1) pa_nil)) pe_int) pa_nil))))
      (pss_cons (ps_set (i := 3) scBent.nd rfl (.inl rfl) (pe_cl CP hr (by decide) (by rfl) (pa_cons (pv 0) (pa_cons pe_str pa_nil))))
      (pss_one (ps_ret (pe_cl CP hr (by decide) (by rfl) (pa_cons (pv 0) (pa_cons (pe_lst
        (pa_cons (pv 1)
        (pa_cons (pe_op op_add_str (pe_op op_add_str (pe_slice C8.sl_txt (pv 1) po_none (po_some (pv 2))) (pv 3)) (pe_slice C8.sl_txt (pv 1) (po_some (pv 2)) po_none))
        (pa_cons (pe_op op_add_str (pe_op op_add_str (pe_slice C8.sl_txt (pv 1) po_none (po_some (pv 2))) (pv 3)) (pe_slice C8.sl_txt (pv 1) (po_some (pe_op op_add (pv 2) pe_int)) po_none))
        (pa_cons (pe_slice C8.sl_txt (pv 1) po_none (po_some (pv 2)))
        (pa_cons (pe_op op_add_str (pv 1) (pe_slice C8.sl_txt (pv 1) po_none (po_some (pv 2))))
        (pa_cons (pe_slice C8.sl_txt (pv 1) po_none (po_some pe_int)) pa_nil))))))) pa_nil)))))), ?_⟩
    have hz : (S gs).length ≤ sizeLine := by rw [S_len]; exact small (by omega)
    refine ⟨_, rfl, _, rfl, _, rfl, hz, _, _, rfl, rfl, r, _, rfl, by rw [S_len]; omega, by rw [S_len]; omega, R, fun H1 k g1 k0 k1 => ?_⟩
    obtain ⟨j, rfl⟩ := Int.eq_ofNat_of_zero_le k0
    have ab : Str.ofString "abcxyzABZ09 -{}" = S [97, 98, 99, 120, 121, 122, 65, 66, 90, 48, 57, 32, 45, 123, 125] := by decide +kernel
    refine ⟨_, rfl, r, _, rfl, g1.rng, .inr ⟨[97, 98, 99, 120, 121, 122, 65, 66, 90, 48, 57, 32, 45, 123, 125], congrArg V.str ab, by decide, by decide, fun H2 c g2 hc => ?_⟩⟩
    have e1 : Txt.slice (S gs) none (some (j : Int)) = S (gs.take j) := slice_to (by omega)
    have e2 : Txt.slice (S gs) (some (j : Int)) none = S (gs.drop j) := slice_from (by omega)
    have e3 : Txt.slice (S gs) (some ((j : Int) + 1)) none = S (gs.drop (j + 1)) := slice_from (a := gs) (i := (j : Int) + 1) (by omega)
    have e4 : Txt.slice (S gs) none (some 1) = S (gs.take 1) := slice_to (a := gs) (i := 1) (by decide)
    have t1 : (gs.take j).length ≤ 100 := by rw [List.length_take]; omega
    have t2 : (gs.drop j).length ≤ 100 := by rw [List.length_drop]; omega
    have t3 : (gs.drop (j + 1)).length ≤ 100 := by rw [List.length_drop]; omega
    have z1 : (Txt.slice (S gs) none (some (j : Int))).length + (S [c]).length ≤ sizeLine := by rw [e1, S_len, S_len]; exact small (by show _ + 1 ≤ 1000; omega)
    have z2 : (Txt.slice (S gs) none (some (j : Int)) ++ S [c]).length + (Txt.slice (S gs) (some (j : Int)) none).length ≤ sizeLine := by
      rw [e1, e2, S_cat, S_len, S_len, List.length_append]; exact small (by show _ + 1 + _ ≤ 1000; omega)
    have z3 : (Txt.slice (S gs) none (some (j : Int)) ++ S [c]).length + (Txt.slice (S gs) (some ((j : Int) + 1)) none).length ≤ sizeLine := by
      rw [e1, e3, S_cat, S_len, S_len, List.length_append]; exact small (by show _ + 1 + _ ≤ 1000; omega)
    have z5 : (S gs).length + (Txt.slice (S gs) none (some (j : Int))).length ≤ sizeLine := by rw [e1, S_len, S_len]; exact small (by omega)
    refine ⟨_, rfl, _, rfl, ?_⟩
    refine ⟨_, rfl, _, rfl, _, rfl, _, rfl, hz, _, rfl, _, _, rfl, rfl, z1, _, rfl, _, rfl, _, rfl, _, rfl, hz, _, _, rfl, rfl, z2, ?_⟩
    refine ⟨_, rfl, _, rfl, _, rfl, _, rfl, hz, _, rfl, _, _, rfl, rfl, z1, _, rfl, _, rfl, _, _, rfl, rfl, _, rfl, _, rfl, hz, _, _, rfl, rfl, z3, ?_⟩
    refine ⟨_, rfl, _, rfl, _, rfl, _, rfl, hz, ?_⟩
    refine ⟨_, rfl, _, rfl, _, rfl, _, rfl, _, rfl, hz, _, _, rfl, rfl, z5, ?_⟩
    refine ⟨_, rfl, _, rfl, _, rfl, hz, ?_⟩
    refine ⟨(by show 6 ≤ sizeLine; decide), fun l nl => ?_⟩
    obtain ⟨xr, er⟩ := g2.rng.ex
    refine ⟨r, .ref l, rfl, g2.rng.same (same_new nl), .inl ⟨l, _, rfl, (ne_of_none er nl).symm, .inl (.inl upd_same), (by show 0 < 6; decide), (by show 6 ≤ 1000; decide), fun H3 v g3 hv => ?_⟩⟩
    have G3 := (g1.trans g2).trans (Go.after g2.rng (same_new nl) g3)
    rw [e1, e2, e3, e4, S_cat, S_cat, S_cat, S_cat] at hv
    simp only [List.mem_cons, List.not_mem_nil, or_false] at hv
    rcases hv with e | e | e | e | e | e <;> (rw [e]; refine q _ _ G3 ?_)
    · omega
    · rw [List.length_append, List.length_append]; show _ + 1 + _ ≤ _; omega
    · rw [List.length_append, List.length_append]; show _ + 1 + _ ≤ _; omega
    · omega
    · rw [List.length_append]; omega
    · rw [List.length_take]; omega
end
end Own

namespace Own
open PySem PySem.Spec PyProof.Rows L2 SX
/-! ### tables of code objects, and the drawer -/
theorem Same.extN {H H' : Hp} (s : Same H H') : LamX.ExtN H H' := fun b o h _ => s b o h
theorem tabs_same {T : List (Addr × Str)} {H H' : Hp} (t : LamX.Tabs T H) (s : Same H H') : LamX.Tabs T H' := t.ext s
theorem tabs_go {T : List (Addr × Str)} {r : Addr} {H H' : Hp} (t : LamX.Tabs T H) (g : Go r H H') : LamX.Tabs T H' := by
  intro p hp
  obtain ⟨ps, h1, h2, h3⟩ := t p hp
  obtain ⟨xs, er⟩ := g.rng0.ex
  refine ⟨ps, g.1 _ _ (ne_of h1 er fun e => by cases e) h1, h2, fun pos cv hc => ?_⟩
  obtain ⟨c, e1, e2⟩ := h3 pos cv hc
  exact ⟨c, e1, g.1 _ _ (ne_of e2 er fun e => by unfold LamX.CodeO at e; cases e) e2⟩
theorem rng_extN {r : Addr} {H H' : Hp} (R : Rng H r) (e : LamX.ExtN H H') : Rng H' r := by
  obtain ⟨l, ns, i, b, z, c, R⟩ := R
  exact ⟨l, ns, i, b, z, c, R.1, e _ _ R.2.1 (fun ps h => by cases h), e _ _ R.2.2 (fun ps h => by cases h)⟩
/-- all but the tables and the drawer at r stay; there is a drawer -/
structure Keep (T : List (Addr × Str)) (r : Addr) (H : Hp) : Prop where
  rng : Rng H r
  tab : LamX.Tabs T H
theorem Keep.same {T : List (Addr × Str)} {r : Addr} {H H' : Hp} (k : Keep T r H) (s : Same H H') : Keep T r H' := ⟨k.rng.same s, tabs_same k.tab s⟩
theorem Keep.go {T : List (Addr × Str)} {r : Addr} {H H' : Hp} (k : Keep T r H) (g : Go r H H') : Keep T r H' := ⟨g.rng, tabs_go k.tab g⟩
theorem Keep.ext {T : List (Addr × Str)} {r : Addr} {H H' : Hp} (k : Keep T r H) (e : LamX.ExtN H H') (t : LamX.Tabs T H') : Keep T r H' := ⟨rng_extN k.rng e, t⟩
theorem Keep.new {T : List (Addr × Str)} {r p : Addr} {H : Hp} {o : HO} (k : Keep T r H) (n : H p = none) : Keep T r (upd H p o) := k.same (same_new n)
/-! ### two calls tried -/
section
variable {K : PySem.W.Frag} {mg : Str → Option Value} {T : List (Addr × Str)} {CF CM C : Addr} {H : Hp} {σ : L2.St} {Q : VK} {x : Str} {ta : TA}
theorem lam_CL {cs : List Nat} (EC : ErrC K mg x C) (hx : PySem.W.exmAny K (.ref C) [.ref CF, .ref CM] = some true) (hT : LamX.Tabs T H)
    (ha : ∀ H1 (k : List V → Hp → Prop), k [.str (S cs)] H1 → ta σ H1 k) (hl : cs.length ≤ 1000)
    (q : ∀ H' t code, LamX.ExtN H H' → LamX.Tabs T H' → H' t = some (.tup [.str code, .non]) → (Valid cs ∧ code = Str.ofString "value" ∨ ¬ Valid cs ∧ code = Str.ofString "InvalidLetters") → Q (.ref t) H') :
    LamX.tLam T (TTry K CF CM) (fun E => tCall (spCL C) [] E ta) σ H Q := by
  refine ⟨hT, fun H1 e1 t1 => ?_⟩
  refine ha H1 _ ⟨cs, rfl, hl, fun hv H2 s2 => ⟨by decide, fun t nt => ?_⟩, fun hv H2 d s2 hd => ⟨hx, _, _, err_il EC hd, fun H3 t s3 nt => ?_⟩⟩
  · exact q _ t _ (e1.trans (Same.extN (s2.trans (same_new nt)))) (tabs_same t1 (s2.trans (same_new nt))) upd_same (.inl ⟨hv, rfl⟩)
  · exact q _ t _ (e1.trans (Same.extN ((s2.trans s3).trans (same_new nt)))) (tabs_same t1 ((s2.trans s3).trans (same_new nt))) upd_same (.inr ⟨hv, rfl⟩)
/-- the first sign of xs that is none of gs -/
def Bad (gs xs : List Nat) (i : Nat) : Prop := ∃ c : Nat, xs[i]? = some c ∧ c ∉ gs ∧ ∀ (j c' : Nat), j < i → xs[j]? = some c' → c' ∈ gs
theorem Bad.one {gs xs : List Nat} {i j : Nat} (a : Bad gs xs i) (b : Bad gs xs j) : i = j := by
  obtain ⟨c, h1, h2, h3⟩ := a
  obtain ⟨d, k1, k2, k3⟩ := b
  rcases Nat.lt_trichotomy i j with h | h | h
  · exact absurd (k3 i c h h1) h2
  · exact h
  · exact absurd (h3 j d h k1) k2
theorem lam_CT {gs xs : List Nat} (EC : ErrC K mg x C) (hx : PySem.W.exmAny K (.ref C) [.ref CF, .ref CM] = some true) (hT : LamX.Tabs T H)
    (ha : ∀ H1 (k : List V → Hp → Prop), k [.str (S gs), .str (S xs)] H1 → ta σ H1 k)
    (q : ∀ H' t code v, LamX.ExtN H H' → LamX.Tabs T H' → H' t = some (.tup [.str code, v]) →
      ((∀ c ∈ xs, c ∈ gs) ∧ code = Str.ofString "value" ∧ v = .non ∨ ∃ i : Nat, Bad gs xs i ∧ code = Str.ofString "UnknownLetter" ∧ v = .int (i : Nat)) → Q (.ref t) H') :
    LamX.tLam T (TTry K CF CM) (fun E => tCall (spCT C) [] E ta) σ H Q := by
  refine ⟨hT, fun H1 e1 t1 => ?_⟩
  refine ha H1 _ ⟨gs, xs, rfl, fun hv H2 s2 => ⟨by decide, fun t nt => ?_⟩, fun i c hc hn hall H2 d s2 hd => ⟨hx, _, _, err_ul EC hd, fun H3 t s3 nt => ?_⟩⟩
  · exact q _ t _ _ (e1.trans (Same.extN (s2.trans (same_new nt)))) (tabs_same t1 (s2.trans (same_new nt))) upd_same (.inl ⟨hv, rfl, rfl⟩)
  · exact q _ t _ _ (e1.trans (Same.extN ((s2.trans s3).trans (same_new nt)))) (tabs_same t1 ((s2.trans s3).trans (same_new nt))) upd_same (.inr ⟨i, ⟨c, hc, hn, hall⟩, rfl, rfl⟩)
end
/-! ### signs that stand twice, signs that are none of the letters -/
def twL (cs : List Nat) (n : Nat) : List Nat := (List.range n).filter fun i => decide (cs.getD i 0 ∈ cs.take i)
def wrL (gs xs : List Nat) (n : Nat) : List Nat := (List.range n).filter fun i => !decide (xs.getD i 0 ∈ gs)
theorem twL_step {cs : List Nat} {i c : Nat} (h : cs[i]? = some c) : twL cs (i + 1) = twL cs i ++ (if decide (c ∈ cs.take i) = true then [i] else []) := by
  have e : cs.getD i 0 = c := by rw [List.getD_eq_getElem?_getD, h]; rfl
  unfold twL
  rw [List.range_succ, List.filter_append, ← e]
  congr 1
  show (match decide (cs.getD i 0 ∈ List.take i cs) with | true => [i] | false => []) = _
  cases decide (cs.getD i 0 ∈ List.take i cs) <;> rfl
theorem wrL_step {gs xs : List Nat} {i c : Nat} (h : xs[i]? = some c) : wrL gs xs (i + 1) = wrL gs xs i ++ (if (!decide (c ∈ gs)) = true then [i] else []) := by
  have e : xs.getD i 0 = c := by rw [List.getD_eq_getElem?_getD, h]; rfl
  unfold wrL
  rw [List.range_succ, List.filter_append, ← e]
  congr 1
  show (match !decide (xs.getD i 0 ∈ gs) with | true => [i] | false => []) = _
  cases decide (xs.getD i 0 ∈ gs) <;> rfl
theorem twL_len {cs : List Nat} {n : Nat} : (twL cs n).length ≤ n := by
  unfold twL
  exact Nat.le_trans (List.length_filter_le _ _) (Nat.le_of_eq List.length_range)
theorem wrL_len {gs xs : List Nat} {n : Nat} : (wrL gs xs n).length ≤ n := by
  unfold wrL
  exact Nat.le_trans (List.length_filter_le _ _) (Nat.le_of_eq List.length_range)
theorem tw_nil {cs : List Nat} : twL cs cs.length = [] ↔ cs.Nodup := by
  unfold twL
  rw [List.filter_eq_nil_iff]
  constructor
  · intro h
    have main : ∀ n, n ≤ cs.length → (cs.take n).Nodup := by
      intro n
      induction n with
      | zero => intro _; rw [List.take_zero]; exact List.Pairwise.nil
      | succ n ih =>
        intro hn
        have hc : cs[n]? = some cs[n] := List.getElem?_eq_getElem (by omega)
        have ht : cs.take (n + 1) = cs.take n ++ [cs[n]] := by rw [List.take_add_one, hc]; rfl
        rw [ht]
        refine List.nodup_append.mpr ⟨ih (by omega), by simp, fun z hz z' hz' e => ?_⟩
        rw [List.mem_singleton.mp hz'] at e
        have := h n (List.mem_range.mpr (by omega))
        rw [List.getD_eq_getElem?_getD, hc] at this
        exact this (decide_eq_true (by rw [← e]; exact hz))
    have := main cs.length (Nat.le_refl _)
    rw [List.take_length] at this
    exact this
  · intro nd i hi hd
    have hn := List.mem_range.mp hi
    have hc : cs[i]? = some cs[i] := List.getElem?_eq_getElem hn
    have ht : cs.take (i + 1) = cs.take i ++ [cs[i]] := by rw [List.take_add_one, hc]; rfl
    have nd2 : (cs.take i ++ [cs[i]]).Nodup := by
      rw [← ht]
      exact (List.take_sublist _ _).nodup nd
    rw [List.getD_eq_getElem?_getD, hc] at hd
    exact (List.nodup_append.mp nd2).2.2 _ (of_decide_eq_true hd) _ (List.mem_singleton.mpr rfl) rfl
theorem wr_cases {gs xs : List Nat} : (wrL gs xs xs.length = [] ∧ ∀ c ∈ xs, c ∈ gs) ∨ ∃ i rest, wrL gs xs xs.length = i :: rest ∧ Bad gs xs i := by
  have memI : ∀ {i c : Nat}, xs[i]? = some c → c ∉ gs → i ∈ wrL gs xs xs.length := by
    intro i c hc hn
    unfold wrL
    rw [List.mem_filter]
    refine ⟨List.mem_range.mpr (List.getElem?_eq_some_iff.mp hc).1, ?_⟩
    rw [List.getD_eq_getElem?_getD, hc]
    show (!decide (c ∈ gs)) = true
    rw [decide_eq_false hn]
    rfl
  cases h : wrL gs xs xs.length with
  | nil =>
    refine .inl ⟨rfl, fun c hc => ?_⟩
    obtain ⟨i, hi⟩ := List.mem_iff_getElem?.mp hc
    refine Decidable.byContradiction fun hn => ?_
    have := memI hi hn
    rw [h] at this
    cases this
  | cons i rest =>
    refine .inr ⟨i, rest, rfl, ?_⟩
    have hi : i ∈ wrL gs xs xs.length := by rw [h]; exact List.mem_cons_self ..
    have hp : (wrL gs xs xs.length).Pairwise (· < ·) := List.Pairwise.sublist List.filter_sublist List.pairwise_lt_range
    unfold wrL at hi
    rw [List.mem_filter] at hi
    obtain ⟨h1, h2⟩ := hi
    have hlt : i < xs.length := List.mem_range.mp h1
    have hc : xs[i]? = some xs[i] := List.getElem?_eq_getElem hlt
    rw [List.getD_eq_getElem?_getD, hc] at h2
    refine ⟨xs[i], hc, fun hm => ?_, fun j c' hj hx => ?_⟩
    · have h2 : (!decide (xs[i] ∈ gs)) = true := h2
      rw [decide_eq_true hm] at h2
      cases h2
    · refine Decidable.byContradiction fun hn => ?_
      have := memI hx hn
      rw [h] at this hp
      rcases List.mem_cons.mp this with e | e
      · omega
      · have := (List.pairwise_cons.mp hp).1 j e
        omega
/-! ### lists of ints compared with nothing -/
abbrev nint (n : Nat) : V := .int (n : Int)
theorem dp_ints {K : PySem.W.Frag} {H : Hp} : ∀ ns : List Nat, DpAll K H (ns.map nint) (ns.map fun n : Nat => PyData.int (n : Int))
  | [] => .nil
  | _ :: r => .cons (.int _) (dp_ints r)
theorem lay_ints : ∀ ns : List Nat, PyData.canLayAll0 (ns.map fun n : Nat => PyData.int (n : Int)) = true
  | [] => rfl
  | n :: r => by
    show (PyData.canLay0 (.int (n : Int)) && PyData.canLayAll0 (r.map fun n : Nat => PyData.int (n : Int))) = true
    rw [lay_ints r, Bool.and_true]
    rfl
theorem dep_ints : ∀ ns : List Nat, PyData.depthAll (ns.map fun n : Nat => PyData.int (n : Int)) = 0
  | [] => rfl
  | n :: r => by
    show max (PyData.depth (.int (n : Int))) (PyData.depthAll (r.map fun n : Nat => PyData.int (n : Int))) = 0
    rw [dep_ints r]
    rfl
theorem shp_ints {ns : List Nat} : SeqAt.shaped (.list (ns.map fun n : Nat => PyData.int (n : Int))) = true := by
  unfold SeqAt.shaped
  have e : (PyData.list (ns.map fun n : Nat => PyData.int (n : Int))).depth = 1 := by
    show PyData.depthAll (ns.map fun n : Nat => PyData.int (n : Int)) + 1 = 1
    rw [dep_ints]
  rw [e]
  show (PyData.canLayAll0 (ns.map fun n : Nat => PyData.int (n : Int)) && decide (1 ≤ 64)) = true
  rw [lay_ints]
  rfl
theorem eqv_nil {ns : List Nat} : PyData.eqv (.list (ns.map fun n : Nat => PyData.int (n : Int))) (.list []) = decide (ns = []) := by
  cases ns with
  | nil => rfl
  | cons n r =>
    rw [decide_eq_false (fun e => by cases e)]
    rfl
/-- two tuples of flat things -/
theorem Eqd.tup {K : PySem.W.Frag} {H : Hp} {n : Nat} {a b : Addr} {xs : List V} (h1 : H a = some (.tup xs)) (h2 : H b = some (.tup xs)) (hl : xs.length ≤ 1000) (hf : ∀ x ∈ xs, Flat x) :
    Eqd K H (n + 2) (.ref a) (.ref b) := by
  refine Or.inr ⟨a, b, xs, xs, rfl, rfl, .inr ⟨.inl (.inl h1), .inl (.inl h2)⟩, hl, rfl, fun i u v hu hv => ?_⟩
  have e := Option.some.inj (hu.symm.trans hv)
  subst e
  exact Eqd.refl (hf _ (List.mem_of_getElem? hu))
theorem dp_two {K : PySem.W.Frag} {H : Hp} {t : Addr} {z : Str} (h : H t = some (.tup [.str z, .non])) : Dp K H (.ref t) (.tuple [.str z, .none]) :=
  .tup (.inl (.inl h)) (.cons (.str _) (.cons .non .nil))
/-! ### readings with one end -/
theorem and3 {t1 t3 : TE} {σ : L2.St} {H : Hp} {Q : VK} {i : Nat} {b1 b2 b3 : Bool} (h1 : ∀ k : VK, k (.bl b1) H → t1 σ H k) (h2 : σ[i]? = some (some (.bl b2)))
    (h3 : ∀ k : VK, (∀ H', Same H H' → k (.bl b3) H') → t3 σ H k) (q : ∀ H', Same H H' → Q (.bl (b1 && (b2 && b3))) H') : tAndV t1 (tAndV (tVar i) t3) σ H Q := by
  refine h1 _ ⟨b1, rfl, ?_⟩
  cases b1 with
  | false => exact iteF (q _ (Same.refl _))
  | true =>
    refine iteT ⟨_, h2, b2, rfl, ?_⟩
    cases b2 with
    | false => exact iteF (q _ (Same.refl _))
    | true => exact iteT (h3 _ fun H' s => q _ s)
theorem tIf_red {σ : L2.St} {H : Hp} {Q : VK} {i : Nat} {b : Bool} {z1 z2 : Str} (h : σ[i]? = some (some (.bl b)))
    (q : ∀ p, H p = none → Q (.ref p) (upd H p (.tup [.str (if b = true then z1 else z2), .non]))) :
    tIf (tB (tVar i)) (tTup (tCons (tC (.str z1)) (tCons (tC .non) tNil))) (tTup (tCons (tC (.str z2)) (tCons (tC .non) tNil))) σ H Q := by
  refine ⟨_, h, b, rfl, ?_⟩
  cases b with
  | true => exact iteT ⟨(by show 2 ≤ sizeLine; decide), fun p np => q p np⟩
  | false => exact iteF ⟨(by show 2 ≤ sizeLine; decide), fun p np => q p np⟩
/-- what is due of a text to be checked -/
def Alt (gs xs : List Nat) (code : Str) (v : V) : Prop :=
  (∀ c ∈ xs, c ∈ gs) ∧ code = Str.ofString "value" ∧ v = .non ∨ ∃ i : Nat, Bad gs xs i ∧ code = Str.ofString "UnknownLetter" ∧ v = .int (i : Nat)
theorem Alt.one {gs xs : List Nat} {z z' : Str} {v v' : V} (a : Alt gs xs z v) (b : Alt gs xs z' v') : z = z' ∧ v = v' := by
  rcases a with ⟨h, rfl, rfl⟩ | ⟨i, B, rfl, rfl⟩ <;> rcases b with ⟨h', rfl, rfl⟩ | ⟨j, B', rfl, rfl⟩
  · exact ⟨rfl, rfl⟩
  · obtain ⟨c, h1, h2, _⟩ := B'
    exact absurd (h c (List.mem_of_getElem? h1)) h2
  · obtain ⟨c, h1, h2, _⟩ := B
    exact absurd (h' c (List.mem_of_getElem? h1)) h2
  · rw [B.one B']
    exact ⟨rfl, rfl⟩
theorem Alt.flat {gs xs : List Nat} {z : Str} {v : V} (a : Alt gs xs z v) : Flat v := by
  rcases a with ⟨h, rfl, rfl⟩ | ⟨i, B, rfl, rfl⟩ <;> trivial
theorem due_red {K : PySem.W.Frag} {σ : L2.St} {H : Hp} {Q : VK} {i : Nat} {D3 : Addr} {gs ys : List Nat} (h : σ[i]? = some (some (.ref D3))) (hD : H D3 = some (.lst ((wrL gs ys ys.length).map nint)))
    (q : ∀ H' t code v, Same H H' → H' t = some (.tup [.str code, v]) → Alt gs ys code v → Q (.ref t) H') :
    tIf (tTest (tOp (rNeD K) (tVar i) (tLst tNil))) (tTup (tCons (tC (.str (Str.ofString "UnknownLetter"))) (tCons (tOp (rIxL K) (tVar i) (tC (.int 0))) tNil)))
      (tTup (tCons (tC (.str (Str.ofString "value"))) (tCons (tC .non) tNil))) σ H Q := by
  refine ⟨_, h, Nat.zero_le _, fun l nl => ?_⟩
  have s1 := same_new (o := .lst []) nl
  refine ⟨_, _, .lst (.inl (.inl (s1 _ _ hD))) (dp_ints _), .lst (.inl (.inl upd_same)) .nil, shp_ints, by decide +kernel, ?_⟩
  rw [eqv_nil]
  rcases wr_cases (gs := gs) (xs := ys) with ⟨e, ha⟩ | ⟨j, rest, e, hb⟩
  · rw [decide_eq_true e]
    refine ⟨false, rfl, iteF ⟨(by show 2 ≤ sizeLine; decide), fun p np => ?_⟩⟩
    exact q _ p _ _ (s1.trans (same_new np)) upd_same (.inl ⟨ha, rfl, rfl⟩)
  · rw [decide_eq_false (by rw [e]; exact fun h => by cases h)]
    refine ⟨true, rfl, iteT ⟨_, h, _, _, 0, nint j, rfl, rfl, .inl (.inl (s1 _ _ hD)), by rw [e]; exact atI_nat (xs := (j :: rest).map nint) (j := 0) rfl, ?_⟩⟩
    refine ⟨(by show 2 ≤ sizeLine; decide), fun p np => ?_⟩
    exact q _ p _ _ (s1.trans (same_new np)) upd_same (.inr ⟨j, hb, rfl, rfl⟩)
theorem sh_val : SeqAt.shaped (.tuple [.str (Str.ofString "value"), .none]) = true := by decide +kernel
theorem sh_il : SeqAt.shaped (.tuple [.str (Str.ofString "InvalidLetters"), .none]) = true := by decide +kernel
theorem eq_two {z : Str} (h : SeqAt.shaped (.tuple [.str z, .none]) = true) : PyData.eqv (.tuple [.str z, .none]) (.tuple [.str z, .none]) = true := SeqAt.eqv_refl _ (SeqAt.canLay_of_shaped h)
end Own

namespace Own
open PySem PySem.Spec PyProof.Rows L2 SX
abbrev sLaw : Stmt := topS 21
abbrev lawN : List Str := ["_law_script", "_law_rng", "_law_turn", "_law_good", "_law_bent", "_law_plain", "_law_twice", "_law_right", "_law_shown", "_law_spot", "_law_odd", "_law_wrong", "_law_due", "_law_sign", "_law_at"]
theorem scLaw : FnScope lawN ["_law_script"] (defScope sLaw) :=
  ⟨rfl, rfl, rfl, by decide +kernel, rfl, by decide +kernel, by decide +kernel⟩
def spLaw (K : PySem.W.Frag) (Pt : Addr) : Sp := fun vs H Q _ => ∃ (a : Addr) (ns : List Int), vs = [.ref a] ∧ SqL K H a (ns.map V.int) ∧ H Pt = some (.tbl #[]) ∧ ∀ H', Q (.bl true) H'
section
variable {P : Program} {w : World} {K : PySem.W.Frag} {mg : Str → Option Value} {base : Heap}
variable {f1 f2 f3 f4 f5 f6 f7 fP fY fL fT CF CM CL CT c Pt : Addr} {fd1 fd2 fd3 fd4 fd5 fd6 fd7 fdP fdY fdL fdT : FuncData}
theorem ok_law {f : Addr} {kV doc pm ct oc : Value} {an od : Option Addr} {osl : Array (Option Value)}
    (lk : K.lookup f = some ⟨oc, od, .func (PySem.W.fnOf "law" "law" (defArgs sLaw) (defBody sLaw) (defScope sLaw) .none kV doc pm an (.ref c) ct), osl⟩) (hcd : PySem.W.codeIn K (.ref c) "law" = true)
    (TB : LamX.TabB base mg c Pt)
    (mr : mg "range" = none) (ml : mg "len" = none) (ma : mg "all" = none)
    (cDs : Cl P w K mg base "_law_draws" 1 ["_law_script"] (spDraws K) f1 fd1)
    (cLt : Cl P w K mg base "_law_letters" 3 ["_law_rng", "_law_most"] spLetters f2 fd2)
    (cBt : Cl P w K mg base "_law_bent_letters" 3 ["_law_rng", "_law_signs"] spBent f3 fd3)
    (cWd : Cl P w K mg base "_law_word" 3 ["_law_rng", "_law_signs", "_law_most"] spWord f4 fd4)
    (cDr : Cl P w K mg base "_law_draw" 1 ["_law_rng", "_law_sides"] spDraw f5 fd5)
    (cPk : Cl P w K mg base "_law_pick" 2 ["_law_rng", "_law_things"] (spPick K) f6 fd6)
    (cSm : Cl P w K mg base "_law_same" 2 ["_law_found", "_law_due"] (spSm K 2) f7 fd7)
    (mF : mg "FillError" = some (.ref CF)) (mM : mg "Missing" = some (.ref CM))
    (FP : FnP P w K mg base 1 fP fdP ["_law_e"] (spFld K)) (gP : mg "_law_field" = some (.ref fP)) (kP : PySem.W.keepIn K (.ref fP) = true) (bP : Binds K fdP ["_law_e"] [])
    (FY : Fun K "_law_try" "_law_try" sTry fY fdY) (gY : mg "_law_try" = some (.ref fY)) (bY : Binds K fdY ["_law_ask"] [])
    (GL : FnOk P w K mg base (L2.CX P w) 3 fL fdL ["letters"] (spCL CL)) (gL : mg "check_letters" = some (.ref fL)) (kL : PySem.W.keepIn K (.ref fL) = true) (bL : Binds K fdL ["letters"] [])
    (EL : ErrC K mg "InvalidLetters" CL) (xL : PySem.W.exmAny K (.ref CL) [.ref CF, .ref CM] = some true)
    (GT : FnOk P w K mg base (L2.CX P w) 3 fT fdT ["letters", "text"] (spCT CT)) (gT : mg "check_text" = some (.ref fT)) (kT : PySem.W.keepIn K (.ref fT) = true) (bT : Binds K fdT ["letters", "text"] [])
    (ET : ErrC K mg "UnknownLetter" CT) (xT : PySem.W.exmAny K (.ref CT) [.ref CF, .ref CM] = some true)
    (mM4 : ∃ t, mg "MOST_LETTERS" = some (.int 4 t)) :
    FnOk P w K mg base CX0 6 f (PySem.W.fnOf "law" "law" (defArgs sLaw) (defBody sLaw) (defScope sLaw) .none kV doc pm an (.ref c) ct) ["_law_script"] (spLaw K Pt) := by
  obtain ⟨t4, mM4⟩ := mM4
  obtain ⟨ocY, odY, kVY, docY, pmY, anY, cdY, ctY, oslY, rfl, lkY, hcY⟩ := FY.ex
  refine fn_of lk hcd scLaw (fun vs H Q E h => ?_) (fun A outer s H vs Q E hr h => ?_)
  · obtain ⟨a, ns, rfl, _⟩ := h
    rfl
  · obtain ⟨a, ns, rfl, hS, hPt, q⟩ := h
    refine ⟨_, pss_cons (ps_set (i := 1) scLaw.nd rfl (.inl rfl) (pe_cl cDs hr (by decide) (by rfl) (pa_cons (pv 0) pa_nil)))
      (pss_cons (ps_for (passes_of rfl) rfl (pi_range1 rfl mr (pa_cons pe_int pa_nil)) (pg_name (i := 2) scLaw.nd rfl (.inl rfl))
        (pss_cons (ps_set (i := 3) scLaw.nd rfl (.inr rfl) (pe_cl cLt hr (by decide) (by rfl) (pa_cons (pv 1) (pa_cons pe_int pa_nil))))
        (pss_cons (ps_set (i := 4) scLaw.nd rfl (.inr rfl) (pe_cl cBt hr (by decide) (by rfl) (pa_cons (pv 1) (pa_cons (pv 3) pa_nil))))
        (pss_cons (ps_set (i := 5) scLaw.nd rfl (.inl rfl) (pe_callB (cr_all rfl) (by rfl) ma (by decide +kernel) (pa_cons (pe_lc (own := [("_law_sign", 13)]) (g := gName 13) (tt := tYes) rfl scLaw.nd (pi_str (pv 4)) (blkOk_by (N := lawN) (sc := defScope sLaw) (by decide +kernel)) (fun _ _ _ _ _ => pg_name (i := 13) scLaw.nd rfl (Or.inl rfl)) (fun _ _ _ _ _ => pts_nil) (fun _ _ _ _ _ => pe_cmpR op_in_sign (pv 13) pe_str rfl)) pa_nil)))
        (pss_cons (ps_setLc (i := 6) (own := [("_law_at", 14)]) (g := gName 14) rfl scLaw.nd rfl rfl (sw_true rfl rfl rfl (by decide +kernel)) (pi_range1 rfl mr (pa_cons (pe_callB call_len_str (by rfl) ml PySem.boot_len (pa_cons (pv 4) pa_nil)) pa_nil)) (blkOk_by (N := lawN) (sc := defScope sLaw) (by decide +kernel)) (fun _ _ _ _ _ => pg_name (i := 14) scLaw.nd rfl (Or.inl rfl)) (fun _ _ _ _ _ => pts_one (pt_cmpR op_in_sign (pe_ix ix_str (pv 4) (pv 14) (fun _ _ => rfl)) (pe_slice C8.sl_txt (pv 4) po_none (po_some (pv 14))) rfl)) (fun _ _ _ _ _ => pv 14))
        (pss_cons (ps_set (i := 7) scLaw.nd rfl (.inl rfl) (pe_and (pe_chain op_le op_le pe_int (pe_callB call_len_str (by rfl) ml PySem.boot_len (pa_cons (pv 4) pa_nil)) pe_int) (pe_and (pv 5) (pe_one (pe_cmpR (op_eqD hr.units) (pv 6) (pe_lst pa_nil) (nomark _))))))
        (pss_cons (ps_if (pt_cmpR (op_neD hr.units) (LamX.pe_lamcall (T := [(Pt, (envOfC "law" (defScope sLaw) 0 f (.ref c)).qual ++ "<lambda>")]) (TT := TTry K CF CM) (t := fun E => tCall (spCL CL) [] E (tCons (tVar 4) tNil)) (k := 3) (by rfl) gY FY.kp lkY hcY bY scTry rfl (Or.inl rfl) (try_gives mF mM FP gP kP bP (hr.mono (by decide))) TB rfl (List.Mem.head _) (fun p hp _ => by rw [List.mem_singleton.mp hp]; rfl) hr (LamX.lamS_by (by show LamX.lamSB (defScope sLaw) _ = true; decide +kernel)) rfl (fun _ _ _ _ _ => rfl) (fun A outer s H E f' c' hr2 => pe_call GL hr2 (by rfl) gL kL bL .nil (passes_call (takes_of rfl rfl rfl rfl) (fun _ _ _ _ h => h)) (pa_cons (pv 4) pa_nil))) (pe_ifExp (pt_val (pv 7)) (pe_tup (pa_cons pe_str (pa_cons pe_non pa_nil))) (pe_tup (pa_cons pe_str (pa_cons pe_non pa_nil)))) (nomark _)) pss_never pss_nil)
        (pss_cons (ps_asg (pe_tup (pa_cons (pe_cl cWd hr (by decide) (by rfl) (pa_cons (pv 1) (pa_cons (pv 3) (pa_cons pe_int pa_nil)))) (pa_cons (pe_cl cDr hr (by decide) (by rfl) (pa_cons (pv 1) (pa_cons pe_int pa_nil))) pa_nil))) (pg_tup rfl (pgs_cons (pg_name (i := 8) scLaw.nd rfl (.inr rfl)) (pgs_cons (pg_name (i := 9) scLaw.nd rfl (.inl rfl)) pgs_nil))))
        (pss_cons (ps_set (i := 10) scLaw.nd rfl (.inr rfl) (pe_op op_add_str (pe_op op_add_str (pe_slice C8.sl_txt (pv 8) po_none (po_some (pv 9))) (pe_cl cPk hr (by decide) (by rfl) (pa_cons (pv 1) (pa_cons pe_str pa_nil)))) (pe_slice C8.sl_txt (pv 8) (po_some (pe_op op_add (pv 9) (pe_cl cDr hr (by decide) (by rfl) (pa_cons (pv 1) (pa_cons pe_int pa_nil))))) po_none)))
        (pss_cons (ps_setLc (i := 11) (own := [("_law_at", 14)]) (g := gName 14) rfl scLaw.nd rfl rfl (sw_true rfl rfl rfl (by decide +kernel)) (pi_range1 rfl mr (pa_cons (pe_callB call_len_str (by rfl) ml PySem.boot_len (pa_cons (pv 10) pa_nil)) pa_nil)) (blkOk_by (N := lawN) (sc := defScope sLaw) (by decide +kernel)) (fun _ _ _ _ _ => pg_name (i := 14) scLaw.nd rfl (Or.inl rfl)) (fun _ _ _ _ _ => pts_one (pt_cmpR op_notIn_sign (pe_ix ix_str (pv 10) (pv 14) (fun _ _ => rfl)) (pv 3) rfl)) (fun _ _ _ _ _ => pv 14))
        (pss_cons (ps_set (i := 12) scLaw.nd rfl (.inl rfl) (pe_ifExp (pt_cmpR (op_neD hr.units) (pv 11) (pe_lst pa_nil) (nomark _)) (pe_tup (pa_cons pe_str (pa_cons (pe_ix ix_list (pv 11) pe_int (fun _ _ => rfl)) pa_nil))) (pe_tup (pa_cons pe_str (pa_cons pe_non pa_nil)))))
        (pss_cons (ps_if (pt_not (pt_val (pe_cl cSm hr (by decide) (by rfl) (pa_cons (LamX.pe_lamcall (T := [(Pt, (envOfC "law" (defScope sLaw) 0 f (.ref c)).qual ++ "<lambda>")]) (TT := TTry K CF CM) (t := fun E => tCall (spCT CT) [] E (tCons (tVar 3) (tCons (tVar 10) tNil))) (k := 3) (by rfl) gY FY.kp lkY hcY bY scTry rfl (Or.inl rfl) (try_gives mF mM FP gP kP bP (hr.mono (by decide))) TB rfl (List.Mem.head _) (fun p hp _ => by rw [List.mem_singleton.mp hp]; rfl) hr (LamX.lamS_by (by show LamX.lamSB (defScope sLaw) _ = true; decide +kernel)) rfl (fun _ _ _ _ _ => rfl) (fun A outer s H E f' c' hr2 => pe_call GT hr2 (by rfl) gT kT bT .nil (passes_call (takes_of rfl rfl rfl rfl) (fun _ _ _ _ h => h)) (pa_cons (pv 3) (pa_cons (pv 10) pa_nil)))) (pa_cons (pv 12) pa_nil))))) pss_never pss_nil)
        (pss_one (ps_if (pt_cmpR (op_neD hr.units) (LamX.pe_lamcall (T := [(Pt, (envOfC "law" (defScope sLaw) 0 f (.ref c)).qual ++ "<lambda>")]) (TT := TTry K CF CM) (t := fun E => tCall (spCT CT) [] E (tCons (tVar 3) (tCons (tVar 8) tNil))) (k := 3) (by rfl) gY FY.kp lkY hcY bY scTry rfl (Or.inl rfl) (try_gives mF mM FP gP kP bP (hr.mono (by decide))) TB rfl (List.Mem.head _) (fun p hp _ => by rw [List.mem_singleton.mp hp]; rfl) hr (LamX.lamS_by (by show LamX.lamSB (defScope sLaw) _ = true; decide +kernel)) rfl (fun _ _ _ _ _ => rfl) (fun A outer s H E f' c' hr2 => pe_call GT hr2 (by rfl) gT kT bT .nil (passes_call (takes_of rfl rfl rfl rfl) (fun _ _ _ _ h => h)) (pa_cons (pv 3) (pa_cons (pv 8) pa_nil)))) (pe_tup (pa_cons pe_str (pa_cons pe_non pa_nil))) (nomark _)) pss_never pss_nil))))))))))))))
      (pss_one (ps_ret (pe_and (pe_cmpR op_eq (pe_glob (v := .int 4) (by rfl) mM4 ⟨_, rfl⟩) pe_int (nomark _)) (pe_one (pe_cmpR (op_eqD hr.units) (LamX.pe_lamcall (T := [(Pt, (envOfC "law" (defScope sLaw) 0 f (.ref c)).qual ++ "<lambda>")]) (TT := TTry K CF CM) (t := fun E => tCall (spCL CL) [] E (tCons (tC (.str (Str.ofString ""))) tNil)) (k := 3) (by rfl) gY FY.kp lkY hcY bY scTry rfl (Or.inl rfl) (try_gives mF mM FP gP kP bP (hr.mono (by decide))) TB rfl (List.Mem.head _) (fun p hp _ => by rw [List.mem_singleton.mp hp]; rfl) hr (LamX.lamS_by (by show LamX.lamSB (defScope sLaw) _ = true; decide +kernel)) rfl (fun _ _ _ _ _ => rfl) (fun A outer s H E f' c' hr2 => pe_call GL hr2 (by rfl) gL kL bL .nil (passes_call (takes_of rfl rfl rfl rfl) (fun _ _ _ _ h => h)) (pa_cons pe_str pa_nil))) (pe_tup (pa_cons pe_str (pa_cons pe_non pa_nil))) (nomark _))))))), ?_⟩
    refine ⟨_, rfl, a, ns, rfl, hS, fun H1 r s1 nr R => ?_⟩
    have k1 : Keep [(Pt, (envOfC "law" (defScope sLaw) 0 f (.ref c)).qual ++ "<lambda>")] r H1 := ⟨R, fun p hp => by
      rw [List.mem_singleton.mp hp]
      exact LamX.TabS.nil (s1 _ _ hPt)⟩
    refine ⟨10, rfl, by decide, by decide, ?_⟩
    refine for_range (lo := 0) (n := (10 : Int).toNat)
      (fun i σ H' => ∃ v2 v3 v4 v5 v6 v7 v8 v9 v10 v11 v12, σ = [some (.ref a), some (.ref r), v2, v3, v4, v5, v6, v7, v8, v9, v10, v11, v12, none, none] ∧ Keep [(Pt, (envOfC "law" (defScope sLaw) 0 f (.ref c)).qual ++ "<lambda>")] r H')
      ⟨none, none, none, none, none, none, none, none, none, none, none, rfl, k1⟩ ?_ ?_
    · rintro i σ H2 hi ⟨v2, v3, v4, v5, v6, v7, v8, v9, v10, v11, v12, rfl, k2⟩
      -- good
      refine ⟨_, rfl, r, 4, rfl, by decide, k2.rng, fun H3 gs g3 hg _ => ?_⟩
      have hgl : gs.length ≤ 100 := by have := hg.hi; omega
      -- bent
      refine ⟨_, rfl, _, rfl, r, gs, rfl, hgl, g3.rng, fun H4 cs g4 hcl => ?_⟩
      have k4 := (k2.go g3).go g4
      have hzc : (S cs).length ≤ sizeLine := by rw [S_len]; exact small hcl
      -- plain
      refine ⟨_, rfl, _, rfl, fun D nD => ?_⟩
      refine lc_it (walk_str (z := S cs)) (fun i H' => H' = upd H4 D (.lst (((cs.take i).map fun x => decide (x ∈ List.range' 97 26)).map V.bl))) rfl (fun _ _ _ _ => trivial) ?_ ?_
      · rintro i x H' H'' hi rfl ⟨rfl, z, hz, rfl⟩
        have hz2 : cs[i]? = some z := by rw [← List.getElem?_toArray]; exact hz
        refine ⟨rfl, _, rfl, z, _, rfl, rfl, _, upd_same, ?_, ?_⟩
        · rw [List.length_map, List.length_map, List.length_take]
          exact small1000 (by omega)
        · rw [upd_upd, List.take_add_one, hz2, List.map_append, List.map_append, az]
          rfl
      rintro H' rfl
      have e : cs.take (S cs).cps.size = cs := List.take_of_length_le (Nat.le_of_eq rfl)
      rw [e]
      refine ⟨D, _, rfl, .inl (.inl upd_same), ?_⟩
      have k5 := k4.new (o := .lst ((cs.map fun x => decide (x ∈ List.range' 97 26)).map V.bl)) nD
      generalize hH5 : upd H4 D (.lst ((cs.map fun x => decide (x ∈ List.range' 97 26)).map V.bl)) = H5 at k5
      -- twice
      refine ⟨_, rfl, _, rfl, hzc, _, rfl, by rw [S_len]; omega, by rw [S_len]; omega, fun D2 nD2 => ?_⟩
      refine lc_range (lo := 0) (n := ((S cs).length : Int).toNat)
        (fun i H' => H' = upd H5 D2 (.lst ((twL cs i).map nint))) rfl ?_ ?_
      · rintro i H' hi rfl
        rw [S_len] at hi
        have hi2 : i < cs.length := by omega
        have hz2 : cs[i]? = some cs[i] := List.getElem?_eq_getElem hi2
        refine ⟨rfl, _, rfl, _, rfl, _, _, cs[i], rfl, rfl, hzc, ?_, ?_⟩
        · rw [Int.zero_add]
          exact atI_nat hz2
        refine ⟨_, rfl, _, rfl, _, rfl, _, rfl, hzc, cs[i], _, rfl, rfl, ?_⟩
        refine ⟨_, rfl, ?_⟩
        have e0 : ((0 : Int) + (i : Int)) = (i : Int) := Int.zero_add _
        rw [e0]
        rw [slice_to (a := cs) (i := ((i : Nat) : Int)) (by omega)]
        show (if decide (cs[i] ∈ cs.take (((i : Nat) : Int).toNat)) = true then _ else _)
        rw [Int.toNat_natCast]
        refine ite2 (fun hin => ?_) (fun hin => ?_)
        · refine ⟨_, rfl, _, upd_same, ?_, ?_⟩
          · rw [List.length_map]
            exact small1000 (by have := twL_len (cs := cs) (n := i); omega)
          · rw [upd_upd, twL_step hz2, if_pos hin, List.map_append]
            rfl
        · rw [twL_step hz2, if_neg hin, List.append_nil]
      rintro H' rfl
      have en : ((S cs).length : Int).toNat = cs.length := by rw [S_len, Int.toNat_natCast]
      rw [en]
      have k6 := k5.new (o := .lst ((twL cs cs.length).map nint)) nD2
      have hD2 : (upd H5 D2 (.lst ((twL cs cs.length).map nint))) D2 = some (.lst ((twL cs cs.length).map nint)) := upd_same
      generalize upd H5 D2 (.lst ((twL cs cs.length).map nint)) = H6 at k6 hD2
      -- right
      dsimp only [gName, tSeq, tAsg]
      refine and3 (b1 := decide (2 ≤ cs.length) && decide (cs.length ≤ 4)) (b2 := (cs.map fun x => decide (x ∈ List.range' 97 26)).all id) (b3 := decide (twL cs cs.length = [])) (fun k hk => ?_) (by rfl) (fun k hk => ?_) (fun H7 s7 => ?_)
      · refine ⟨_, rfl, _, rfl, hzc, _, _, rfl, rfl, _, rfl, ?_⟩
        have hbs : ((S cs).length : Int) = (cs.length : Int) := by rw [S_len]
        rw [hbs]
        refine ite2 (fun h => ?_) (fun h => ?_)
        · refine ⟨_, _, rfl, rfl, ?_⟩
          have e1 : decide (2 ≤ cs.length) = true := decide_eq_true (by have := of_decide_eq_true h; omega)
          have e2 : decide ((cs.length : Int) ≤ 4) = decide (cs.length ≤ 4) := decide_eq_decide.mpr (by omega)
          rw [e1, Bool.true_and] at hk
          show k (.bl (decide ((cs.length : Int) ≤ 4))) H6
          rw [e2]
          exact hk
        · have e1 : decide (2 ≤ cs.length) = false := decide_eq_false (fun h2 => h (decide_eq_true (by omega)))
          rw [e1, Bool.false_and] at hk
          exact hk
      · refine ⟨_, rfl, Nat.zero_le _, fun l nl => ?_⟩
        have s1 := same_new (o := .lst []) nl
        refine ⟨_, _, .lst (.inl (.inl (s1 _ _ hD2))) (dp_ints _), .lst (.inl (.inl upd_same)) .nil, shp_ints, by decide +kernel, ?_⟩
        rw [eqv_nil]
        exact hk _ s1
      have hvd : (decide (2 ≤ cs.length) && decide (cs.length ≤ 4) && ((cs.map fun x => decide (x ∈ List.range' 97 26)).all id && decide (twL cs cs.length = []))) = true ↔ Valid cs := by
        rw [Bool.and_eq_true, Bool.and_eq_true, Bool.and_eq_true, decide_eq_true_iff, decide_eq_true_iff, decide_eq_true_iff, tw_nil, List.all_eq_true]
        refine ⟨fun ⟨⟨h1, h2⟩, h3, h4⟩ => ⟨h1, h2, fun z hz => ?_, h4⟩, fun v => ⟨⟨v.lo, v.hi⟩, fun z hz => ?_, v.nd⟩⟩
        · have := of_decide_eq_true (h3 _ (List.mem_map.mpr ⟨z, hz, rfl⟩))
          have := List.mem_range'.mp this
          omega
        · obtain ⟨y, hy, rfl⟩ := List.mem_map.mp hz
          have := v.az y hy
          exact decide_eq_true (List.mem_range'.mpr ⟨y - 97, by omega, by omega⟩)
      generalize (decide (2 ≤ cs.length) && decide (cs.length ≤ 4) && ((cs.map fun x => decide (x ∈ List.range' 97 26)).all id && decide (twL cs cs.length = []))) = b at hvd
      have k7 := k6.same s7
      -- letters checked
      dsimp only [gName, tSeq, tIfS, tTest, tOp]
      refine lam_CL (cs := cs) EL xL k7.tab (fun H1 k hk => ⟨_, rfl, hk⟩) hcl (fun H8 t8 code e8 T8 h8 hv => ?_)
      have k8 := k7.ext e8 T8
      refine tIf_red (b := b) ?_ fun p np => ?_
      · rfl
      have hcode : (if b = true then Str.ofString "value" else Str.ofString "InvalidLetters") = code := by
        rcases hv with ⟨v, rfl⟩ | ⟨v, rfl⟩
        · rw [if_pos (hvd.mpr v)]
        · rw [if_neg fun h => v (hvd.mp h)]
      rw [hcode]
      have sh : SeqAt.shaped (.tuple [.str code, .none]) = true := by
        rcases hv with ⟨_, rfl⟩ | ⟨_, rfl⟩
        · exact sh_val
        · exact sh_il
      refine ⟨_, _, dp_two (by rw [upd_ne (ne_of_none h8 np)]; exact h8), dp_two upd_same, sh, sh, ?_⟩
      rw [eq_two sh]
      refine ⟨false, rfl, iteF ?_⟩
      have k9 := k8.new (o := .tup [.str code, .non]) np
      generalize upd H8 p (.tup [.str code, .non]) = H9 at k9
      -- shown, spot
      refine ⟨_, rfl, _, rfl, r, gs, 12, rfl, by have := hg.lo; omega, by omega, by decide, by decide, k9.rng, fun H10 xs g10 xm xl => ?_⟩
      refine ⟨_, rfl, r, 13, rfl, by decide, by decide, g10.rng, fun H11 k g11 k0 k1 => ?_⟩
      refine ⟨(by show 2 ≤ sizeLine; decide), fun T nT => ?_⟩
      refine ⟨T, _, rfl, .inl (.inl upd_same), rfl, _, _, rfl, _, _, rfl, rfl, ?_⟩
      have k12 := ((k9.go g10).go g11).new (o := .tup [.str (S xs), .int k]) nT
      generalize upd H11 T (.tup [.str (S xs), .int k]) = H12 at k12
      obtain ⟨m, rfl⟩ := Int.eq_ofNat_of_zero_le k0
      have hzx : (S xs).length ≤ sizeLine := by rw [S_len]; exact small (by omega)
      -- odd
      refine ⟨_, rfl, _, rfl, _, rfl, _, rfl, hzx, _, rfl, r, _, rfl, k12.rng, .inr ⟨List.range' 97 26 ++ [65, 32, 123, 45], congrArg V.str (by decide +kernel), by decide, by decide, fun H13 d g13 hd => ?_⟩⟩
      have e1 : Txt.slice (S xs) none (some (m : Int)) = S (xs.take m) := slice_to (by omega)
      have t1 : (xs.take m).length ≤ 12 := by rw [List.length_take]; omega
      refine ⟨_, _, rfl, rfl, by rw [e1, S_len, S_len]; exact small (by show _ + 1 ≤ 1000; omega), ?_⟩
      refine ⟨_, rfl, _, rfl, _, rfl, r, 2, rfl, by decide, by decide, g13.rng, fun H14 j g14 j0 j1 => ?_⟩
      obtain ⟨j, rfl⟩ := Int.eq_ofNat_of_zero_le j0
      have e2 : Txt.slice (S xs) (some ((m : Int) + (j : Int))) none = S (xs.drop (m + j)) := slice_from (a := xs) (i := (m : Int) + (j : Int)) (by omega)
      have t2 : (xs.drop (m + j)).length ≤ 12 := by rw [List.length_drop]; omega
      refine ⟨_, _, rfl, rfl, _, rfl, _, rfl, hzx, _, _, rfl, rfl, by rw [e1, e2, S_cat, S_len, S_len, List.length_append]; exact small (by show _ + 1 + _ ≤ 1000; omega), ?_⟩
      have e3 : S (xs.take m) ++ S [d] ++ S (xs.drop (m + j)) = S (xs.take m ++ [d] ++ xs.drop (m + j)) := by
        rw [show S (xs.take m) ++ S [d] = S (xs.take m ++ [d]) from S_cat _ _]
        exact S_cat _ _
      rw [e1, e2, e3]
      have hyl : (xs.take m ++ [d] ++ xs.drop (m + j)).length ≤ 1000 := by
        rw [List.length_append, List.length_append]
        show _ + 1 + _ ≤ _
        omega
      generalize xs.take m ++ [d] ++ xs.drop (m + j) = ys at hyl
      have k14 := (k12.go g13).go g14
      have hzy : (S ys).length ≤ sizeLine := by rw [S_len]; exact small hyl
      -- wrong
      refine ⟨_, rfl, _, rfl, hzy, _, rfl, by rw [S_len]; omega, by rw [S_len]; omega, fun D3 nD3 => ?_⟩
      refine lc_range (lo := 0) (n := ((S ys).length : Int).toNat)
        (fun i H' => H' = upd H14 D3 (.lst ((wrL gs ys i).map nint))) rfl ?_ ?_
      · rintro i H' hi rfl
        rw [S_len] at hi
        have hi2 : i < ys.length := by omega
        have hz2 : ys[i]? = some ys[i] := List.getElem?_eq_getElem hi2
        refine ⟨rfl, _, rfl, _, rfl, _, _, ys[i], rfl, rfl, hzy, ?_, ?_⟩
        · rw [Int.zero_add]
          exact atI_nat hz2
        refine ⟨_, rfl, ys[i], _, rfl, rfl, _, rfl, ?_⟩
        have e0 : ((0 : Int) + (i : Int)) = (i : Int) := Int.zero_add _
        rw [e0]
        show (if (!decide (ys[i] ∈ gs)) = true then _ else _)
        refine ite2 (fun hin => ?_) (fun hin => ?_)
        · refine ⟨_, rfl, _, upd_same, ?_, ?_⟩
          · rw [List.length_map]
            exact small1000 (by have := wrL_len (gs := gs) (xs := ys) (n := i); omega)
          · rw [upd_upd, wrL_step hz2, if_pos hin, List.map_append]
            rfl
        · rw [wrL_step hz2, if_neg hin, List.append_nil]
      rintro H' rfl
      have en : ((S ys).length : Int).toNat = ys.length := by rw [S_len, Int.toNat_natCast]
      rw [en]
      have k15 := k14.new (o := .lst ((wrL gs ys ys.length).map nint)) nD3
      have hD3 : (upd H14 D3 (.lst ((wrL gs ys ys.length).map nint))) D3 = some (.lst ((wrL gs ys ys.length).map nint)) := upd_same
      generalize upd H14 D3 (.lst ((wrL gs ys ys.length).map nint)) = H15 at k15 hD3
      -- due
      dsimp only [gName, tSeq, tAsg]
      refine due_red (gs := gs) (ys := ys) ?_ hD3 (fun H16 t16 z16 v16 s16 h16 a16 => ?_)
      · rfl
      have k16 := k15.same s16
      -- the text checked
      dsimp only [gName, tSeq, tIfS, tNot, tB, tCall, tCons]
      refine lam_CT (gs := gs) (xs := ys) ET xT k16.tab (fun H1 k hk => ⟨_, rfl, _, rfl, hk⟩) (fun H17 t17 z17 v17 e17 T17 h17 a17 => ?_)
      have k17 := k16.ext e17 T17
      have h16' : H17 t16 = some (.tup [.str z16, v16]) := e17 _ _ h16 (fun ps h => by cases h)
      obtain ⟨rfl, rfl⟩ := Alt.one a16 a17
      refine ⟨_, rfl, _, _, rfl, Eqd.tup (n := 0) h17 h16' (by show 2 ≤ 1000; decide) ?_, fun H18 s18 => ⟨true, rfl, iteF ?_⟩⟩
      · intro y hy
        simp only [List.mem_cons, List.not_mem_nil, or_false] at hy
        rcases hy with e | e
        · rw [e]; trivial
        · rw [e]; exact a16.flat
      have k18 := k17.same s18
      -- and the shown one
      dsimp only [tSeq, tNext, tIfS, tTest, tOp]
      refine lam_CT (gs := gs) (xs := xs) ET xT k18.tab (fun H1 k hk => ⟨_, rfl, _, rfl, hk⟩) (fun H19 t19 z19 v19 e19 T19 h19 a19 => ?_)
      have k19 := k18.ext e19 T19
      obtain ⟨rfl, rfl⟩ := Alt.one a19 (.inl ⟨xm, rfl, rfl⟩)
      refine ⟨(by show 2 ≤ sizeLine; decide), fun p np => ?_⟩
      refine ⟨_, _, dp_two (by rw [upd_ne (ne_of_none h19 np)]; exact h19), dp_two upd_same, sh_val, sh_val, ?_⟩
      rw [eq_two sh_val]
      refine ⟨false, rfl, iteF ?_⟩
      exact ⟨_, _, _, _, _, _, _, _, _, _, _, rfl, k19.new np⟩
    · rintro σ H2 ⟨v2, v3, v4, v5, v6, v7, v8, v9, v10, v11, v12, rfl, k2⟩
      refine ⟨rfl, _, rfl, ?_⟩
      rw [decide_eq_true rfl]
      refine iteT ?_
      dsimp only [tOp]
      refine lam_CL (cs := []) EL xL k2.tab (fun H1 k hk => hk) (Nat.zero_le _) (fun H3 t3 code e3 T3 h3 hv => ?_)
      have hcode : code = Str.ofString "InvalidLetters" := by
        rcases hv with ⟨v, _⟩ | ⟨_, h⟩
        · have := v.lo
          cases this
        · exact h
      subst hcode
      refine ⟨(by show 2 ≤ sizeLine; decide), fun p np => ?_⟩
      refine ⟨_, _, dp_two (by rw [upd_ne (ne_of_none h3 np)]; exact h3), dp_two upd_same, sh_il, sh_il, ?_⟩
      rw [eq_two sh_il]
      exact q _
end
end Own

namespace Own
open PySem PySem.Spec PyProof.Rows L2 SX
theorem all_mk {l : PySem.W.OpenLaw} {w : World} {K : PySem.W.Frag} {h : Heap} {mg : Str → Option Value} {fa cc Pt f1 f2 f3 f4 f5 f6 f7 f8 f9 f10 f11 f12 f13 f14 C1 C2 B1 B2 : Addr}
    (X : K.In h) (G : h.Ns mainGlobals mg) (hfa : mg "law" = some (.ref fa)) (hPt : h.get? Pt = some (PySem.W.tabObj #[]))
    {od1 an1 od2 an2 od3 an3 od4 an4 od5 an5 od6 an6 od7 an7 od8 an8 od9 an9 od10 an10 od11 an11 od12 an12 od13 an13 od14 an14 : Option Addr}
    {sl1 sl2 sl3 sl4 sl5 sl6 sl7 sl8 sl9 sl10 sl11 sl12 sl13 sl14 : Array (Option Value)}
    {oc1 kV1 dc1 pm1 cd1 ct1 oc2 kV2 dc2 pm2 cd2 ct2 oc3 kV3 dc3 pm3 cd3 ct3 oc4 kV4 dc4 pm4 cd4 ct4 oc5 kV5 dc5 pm5 cd5 ct5 oc6 kV6 dc6 pm6 cd6 ct6 oc7 kV7 dc7 pm7 cd7 ct7 oc8 kV8 dc8 pm8 cd8 ct8 oc9 kV9 dc9 pm9 cd9 ct9 oc10 kV10 dc10 pm10 cd10 ct10 oc11 kV11 dc11 pm11 cd11 ct11 oc12 kV12 dc12 pm12 cd12 ct12 oc13 kV13 dc13 pm13 cd13 ct13 oc14 kV14 dc14 pm14 ct14 : Value}
    {t1 t2 t3 : Tok}
    (a1 : PySem.W.nsIn K mainGlobals "check_letters" = some (some (.ref f1)))
    (a2 : PySem.W.nsIn K mainGlobals "check_text" = some (some (.ref f2)))
    (a5 : PySem.W.nsIn K mainGlobals "_law_draws" = some (some (.ref f5)))
    (a6 : PySem.W.nsIn K mainGlobals "_law_draw" = some (some (.ref f6)))
    (a7 : PySem.W.nsIn K mainGlobals "_law_pick" = some (some (.ref f7)))
    (a8 : PySem.W.nsIn K mainGlobals "_law_same" = some (some (.ref f8)))
    (a9 : PySem.W.nsIn K mainGlobals "_law_field" = some (some (.ref f9)))
    (a10 : PySem.W.nsIn K mainGlobals "_law_try" = some (some (.ref f10)))
    (a11 : PySem.W.nsIn K mainGlobals "_law_letters" = some (some (.ref f11)))
    (a12 : PySem.W.nsIn K mainGlobals "_law_word" = some (some (.ref f12)))
    (a13 : PySem.W.nsIn K mainGlobals "_law_bent_letters" = some (some (.ref f13)))
    (a14 : PySem.W.nsIn K mainGlobals "law" = some (some (.ref f14)))
    (e1 : PySem.W.nsIn K mainGlobals "InvalidLetters" = some (some (.ref C1)))
    (e2 : PySem.W.nsIn K mainGlobals "UnknownLetter" = some (some (.ref C2)))
    (a3 : PySem.W.findIn K (.ref C1) "__init__" = some (some (.ref f3))) (y3 : PySem.W.typeIn K (.ref f3) = some (.type "function"))
    (a4 : PySem.W.findIn K (.ref C2) "__init__" = some (some (.ref f4))) (y4 : PySem.W.typeIn K (.ref f4) = some (.type "function"))
    (l1 : K.lookup f1 = some ⟨oc1, od1, .func (PySem.W.fnOf "check_letters" "check_letters" (defArgs sCheckL) (defBody sCheckL) (defScope sCheckL) .none kV1 dc1 pm1 an1 cd1 ct1), sl1⟩)
    (c1 : PySem.W.codeIn K cd1 "check_letters" = true) (k1 : PySem.W.keepIn K (.ref f1) = true)
    (l2 : K.lookup f2 = some ⟨oc2, od2, .func (PySem.W.fnOf "check_text" "check_text" (defArgs sCheckT) (defBody sCheckT) (defScope sCheckT) .none kV2 dc2 pm2 an2 cd2 ct2), sl2⟩)
    (c2 : PySem.W.codeIn K cd2 "check_text" = true) (k2 : PySem.W.keepIn K (.ref f2) = true)
    (l3 : K.lookup f3 = some ⟨oc3, od3, .func (PySem.W.fnOf "__init__" "InvalidLetters.__init__" (defArgs sInitIL) (defBody sInitIL) (defScope sInitIL) .none kV3 dc3 pm3 an3 cd3 ct3), sl3⟩)
    (c3 : PySem.W.codeIn K cd3 "InvalidLetters.__init__" = true) (k3 : PySem.W.keepIn K (.ref f3) = true)
    (l4 : K.lookup f4 = some ⟨oc4, od4, .func (PySem.W.fnOf "__init__" "UnknownLetter.__init__" (defArgs sInitUL) (defBody sInitUL) (defScope sInitUL) .none kV4 dc4 pm4 an4 cd4 ct4), sl4⟩)
    (c4 : PySem.W.codeIn K cd4 "UnknownLetter.__init__" = true) (k4 : PySem.W.keepIn K (.ref f4) = true)
    (l5 : K.lookup f5 = some ⟨oc5, od5, .func (PySem.W.fnOf "_law_draws" "_law_draws" (defArgs sDraws) (defBody sDraws) (defScope sDraws) .none kV5 dc5 pm5 an5 cd5 ct5), sl5⟩)
    (c5 : PySem.W.codeIn K cd5 "_law_draws" = true) (k5 : PySem.W.keepIn K (.ref f5) = true)
    (l6 : K.lookup f6 = some ⟨oc6, od6, .func (PySem.W.fnOf "_law_draw" "_law_draw" (defArgs sDraw) (defBody sDraw) (defScope sDraw) .none kV6 dc6 pm6 an6 cd6 ct6), sl6⟩)
    (c6 : PySem.W.codeIn K cd6 "_law_draw" = true) (k6 : PySem.W.keepIn K (.ref f6) = true)
    (l7 : K.lookup f7 = some ⟨oc7, od7, .func (PySem.W.fnOf "_law_pick" "_law_pick" (defArgs sPick) (defBody sPick) (defScope sPick) .none kV7 dc7 pm7 an7 cd7 ct7), sl7⟩)
    (c7 : PySem.W.codeIn K cd7 "_law_pick" = true) (k7 : PySem.W.keepIn K (.ref f7) = true)
    (l8 : K.lookup f8 = some ⟨oc8, od8, .func (PySem.W.fnOf "_law_same" "_law_same" (defArgs sSame) (defBody sSame) (defScope sSame) .none kV8 dc8 pm8 an8 cd8 ct8), sl8⟩)
    (c8 : PySem.W.codeIn K cd8 "_law_same" = true) (k8 : PySem.W.keepIn K (.ref f8) = true)
    (l9 : K.lookup f9 = some ⟨oc9, od9, .func (PySem.W.fnOf "_law_field" "_law_field" (defArgs sField) (defBody sField) (defScope sField) .none kV9 dc9 pm9 an9 cd9 ct9), sl9⟩)
    (c9 : PySem.W.codeIn K cd9 "_law_field" = true) (k9 : PySem.W.keepIn K (.ref f9) = true)
    (l10 : K.lookup f10 = some ⟨oc10, od10, .func (PySem.W.fnOf "_law_try" "_law_try" (defArgs sTry) (defBody sTry) (defScope sTry) .none kV10 dc10 pm10 an10 cd10 ct10), sl10⟩)
    (c10 : PySem.W.codeIn K cd10 "_law_try" = true) (k10 : PySem.W.keepIn K (.ref f10) = true)
    (l11 : K.lookup f11 = some ⟨oc11, od11, .func (PySem.W.fnOf "_law_letters" "_law_letters" (defArgs sLetters) (defBody sLetters) (defScope sLetters) .none kV11 dc11 pm11 an11 cd11 ct11), sl11⟩)
    (c11 : PySem.W.codeIn K cd11 "_law_letters" = true) (k11 : PySem.W.keepIn K (.ref f11) = true)
    (l12 : K.lookup f12 = some ⟨oc12, od12, .func (PySem.W.fnOf "_law_word" "_law_word" (defArgs sWord) (defBody sWord) (defScope sWord) .none kV12 dc12 pm12 an12 cd12 ct12), sl12⟩)
    (c12 : PySem.W.codeIn K cd12 "_law_word" = true) (k12 : PySem.W.keepIn K (.ref f12) = true)
    (l13 : K.lookup f13 = some ⟨oc13, od13, .func (PySem.W.fnOf "_law_bent_letters" "_law_bent_letters" (defArgs sBent) (defBody sBent) (defScope sBent) .none kV13 dc13 pm13 an13 cd13 ct13), sl13⟩)
    (c13 : PySem.W.codeIn K cd13 "_law_bent_letters" = true) (k13 : PySem.W.keepIn K (.ref f13) = true)
    (l14 : K.lookup f14 = some ⟨oc14, od14, .func (PySem.W.fnOf "law" "law" (defArgs sLaw) (defBody sLaw) (defScope sLaw) .none kV14 dc14 pm14 an14 (.ref cc) ct14), sl14⟩)
    (c14 : PySem.W.codeIn K (.ref cc) "law" = true) (k14 : PySem.W.keepIn K (.ref f14) = true)
    (b1 : PySem.W.nsIn K mainGlobals "FillError" = some (some (.ref B1)))
    (b2 : PySem.W.nsIn K mainGlobals "Missing" = some (some (.ref B2)))
    (x1 : OexC K C1) (xf1 : XfC K C1) (nc1 : PySem.W.findIn K (.ref C1) "code" = some none) (np1 : PySem.W.findIn K (.ref C1) "position" = some none)
    (xm1 : PySem.W.exmAny K (.ref C1) [.ref B1, .ref B2] = some true)
    (x2 : OexC K C2) (xf2 : XfC K C2) (nc2 : PySem.W.findIn K (.ref C2) "code" = some none) (np2 : PySem.W.findIn K (.ref C2) "position" = some none)
    (xm2 : PySem.W.exmAny K (.ref C2) [.ref B1, .ref B2] = some true)
    (v1 : PySem.W.nsIn K mainGlobals "LEAST_LETTERS" = some (some (.int 2 t1)))
    (v2 : PySem.W.nsIn K mainGlobals "MOST_LETTERS" = some (some (.int 4 t2)))
    (v3 : PySem.W.nsIn K mainGlobals "LOWERCASE" = some (some (.str "abcdefghijklmnopqrstuvwxyz" t3)))
    (nT : K.lookup Pt = none) (hC : PySem.W.codeHdIn K cc Pt = true)
    (z1 : PySem.W.nsIn K mainGlobals "enumerate" = some none)
    (z2 : PySem.W.nsIn K mainGlobals "int" = some none)
    (z3 : PySem.W.nsIn K mainGlobals "list" = some none)
    (z4 : PySem.W.nsIn K mainGlobals "len" = some none)
    (z5 : PySem.W.nsIn K mainGlobals "isinstance" = some none)
    (z6 : PySem.W.nsIn K mainGlobals "tuple" = some none)
    (z7 : PySem.W.nsIn K mainGlobals "all" = some none)
    (z8 : PySem.W.nsIn K mainGlobals "zip" = some none)
    (z9 : PySem.W.nsIn K mainGlobals "bool" = some none)
    (z10 : PySem.W.nsIn K mainGlobals "str" = some none)
    (z11 : PySem.W.nsIn K mainGlobals "min" = some none)
    (z12 : PySem.W.nsIn K mainGlobals "range" = some none)
    : LamX.LawAtS l w K CX0 6 63 "_law_script" mg fa h := by
  have e := hfa.symm.trans (PySem.W.mg_of X G a14)
  cases e
  have F1 := fun_mk (st := sCheckL) l1 c1 k1
  have g1 := PySem.W.mg_of X G a1
  have F2 := fun_mk (st := sCheckT) l2 c2 k2
  have g2 := PySem.W.mg_of X G a2
  have F3 := fun_mk (st := sInitIL) l3 c3 k3
  have F4 := fun_mk (st := sInitUL) l4 c4 k4
  have F5 := fun_mk (st := sDraws) l5 c5 k5
  have g5 := PySem.W.mg_of X G a5
  have F6 := fun_mk (st := sDraw) l6 c6 k6
  have g6 := PySem.W.mg_of X G a6
  have F7 := fun_mk (st := sPick) l7 c7 k7
  have g7 := PySem.W.mg_of X G a7
  have F8 := fun_mk (st := sSame) l8 c8 k8
  have g8 := PySem.W.mg_of X G a8
  have F9 := fun_mk (st := sField) l9 c9 k9
  have g9 := PySem.W.mg_of X G a9
  have F10 := fun_mk (st := sTry) l10 c10 k10
  have g10 := PySem.W.mg_of X G a10
  have F11 := fun_mk (st := sLetters) l11 c11 k11
  have g11 := PySem.W.mg_of X G a11
  have F12 := fun_mk (st := sWord) l12 c12 k12
  have g12 := PySem.W.mg_of X G a12
  have F13 := fun_mk (st := sBent) l13 c13 k13
  have g13 := PySem.W.mg_of X G a13
  have F14 := fun_mk (st := sLaw) l14 c14 k14
  have g14 := PySem.W.mg_of X G a14
  have E1 : ErrC K mg "InvalidLetters" C1 := ⟨x1, PySem.W.mg_of X G e1, nc1, np1, xf1⟩
  have E2 : ErrC K mg "UnknownLetter" C2 := ⟨x2, PySem.W.mg_of X G e2, nc2, np2, xf2⟩
  have h_FillError := PySem.W.mg_of X G b1
  have h_Missing := PySem.W.mg_of X G b2
  have h_LEAST_LETTERS := PySem.W.mg_of X G v1
  have h_MOST_LETTERS := PySem.W.mg_of X G v2
  have h_LOWERCASE := PySem.W.mg_of X G v3
  have m_enumerate := PySem.W.mg_none_of X G z1
  have m_int := PySem.W.mg_none_of X G z2
  have m_list := PySem.W.mg_none_of X G z3
  have m_len := PySem.W.mg_none_of X G z4
  have m_isinstance := PySem.W.mg_none_of X G z5
  have m_tuple := PySem.W.mg_none_of X G z6
  have m_all := PySem.W.mg_none_of X G z7
  have m_zip := PySem.W.mg_none_of X G z8
  have m_bool := PySem.W.mg_none_of X G z9
  have m_str := PySem.W.mg_none_of X G z10
  have m_min := PySem.W.mg_none_of X G z11
  have m_range := PySem.W.mg_none_of X G z12
  have d1 := F1.binds (ps := ["letters"]) fun _ _ _ _ _ _ us hl => match us, hl with | [_], _ => rfl
  have d2 := F2.binds (ps := ["letters", "text"]) fun _ _ _ _ _ _ us hl => match us, hl with | [_, _], _ => rfl
  have d3 := F3.binds (ps := ["self"]) fun _ _ _ _ _ _ us hl => match us, hl with | [_], _ => rfl
  have d4 := F4.binds (ps := ["self", "position"]) fun _ _ _ _ _ _ us hl => match us, hl with | [_, _], _ => rfl
  have d5 := F5.binds (ps := ["_law_script"]) fun _ _ _ _ _ _ us hl => match us, hl with | [_], _ => rfl
  have d6 := F6.binds (ps := ["_law_rng", "_law_sides"]) fun _ _ _ _ _ _ us hl => match us, hl with | [_, _], _ => rfl
  have d7 := F7.binds (ps := ["_law_rng", "_law_things"]) fun _ _ _ _ _ _ us hl => match us, hl with | [_, _], _ => rfl
  have d8 := F8.binds (ps := ["_law_found", "_law_due"]) fun _ _ _ _ _ _ us hl => match us, hl with | [_, _], _ => rfl
  have d9 := F9.binds (ps := ["_law_e"]) fun _ _ _ _ _ _ us hl => match us, hl with | [_], _ => rfl
  have d10 := F10.binds (ps := ["_law_ask"]) fun _ _ _ _ _ _ us hl => match us, hl with | [_], _ => rfl
  have d11 := F11.binds (ps := ["_law_rng", "_law_most"]) fun _ _ _ _ _ _ us hl => match us, hl with | [_, _], _ => rfl
  have d12 := F12.binds (ps := ["_law_rng", "_law_signs", "_law_most"]) fun _ _ _ _ _ _ us hl => match us, hl with | [_, _, _], _ => rfl
  have d13 := F13.binds (ps := ["_law_rng", "_law_signs"]) fun _ _ _ _ _ _ us hl => match us, hl with | [_, _], _ => rfl
  refine ⟨PySem.W.fnOf "law" "law" (defArgs sLaw) (defBody sLaw) (defScope sLaw) .none kV14 dc14 pm14 an14 (.ref cc) ct14, [(cc, Pt)], spLaw K Pt, fun p hp => by rw [List.mem_singleton.mp hp]; exact hPt, fun p hp => by rw [List.mem_singleton.mp hp]; exact nT, fun p hp => by rw [List.mem_singleton.mp hp]; exact PySem.W.codeHd_of_K X hC, fun s v => .of_eq rfl, fun H a ns _ _ hH hS => ⟨a, ns, rfl, hS, hH _ (List.Mem.head _), fun _ => rfl⟩, fun base _ _ TB => ?_⟩
  have T : SameT mg := ⟨m_isinstance, m_list, m_tuple, m_len, m_all, m_zip, m_bool, m_int, m_str⟩
  have CD : Cl l.prog w K mg base "_law_draw" 1 ["_law_rng", "_law_sides"] spDraw f6 _ := ⟨ok_draw F6 m_int m_len, g6, F6.kp, d6⟩
  have CP : Cl l.prog w K mg base "_law_pick" 2 ["_law_rng", "_law_things"] (spPick K) f7 _ := ⟨ok_pick F7 F6 d6 g6 m_int m_len, g7, F7.kp, d7⟩
  exact ok_law l14 c14 (TB _ (List.Mem.head _)) m_range m_len m_all ⟨ok_draws F5 m_int m_list, g5, F5.kp, d5⟩ ⟨ok_letters F11 F6 d6 g6 F7 d7 g7 m_int m_len m_min m_range, g11, F11.kp, d11⟩
    ⟨ok_bent F13 m_len CD CP, g13, F13.kp, d13⟩ ⟨ok_word F12 F6 d6 g6 F7 d7 g7 m_int m_len m_range, g12, F12.kp, d12⟩ CD CP ⟨ok_same F8 T d8 g8 2, g8, F8.kp, d8⟩
    h_FillError h_Missing (ok_field F9) g9 F9.kp d9 F10 g10 d10
    (ok_checkL F1 E1 F3 d3 a3 y3 m_enumerate m_len ⟨_, h_LEAST_LETTERS⟩ ⟨_, h_MOST_LETTERS⟩ ⟨_, h_LOWERCASE⟩) g1 F1.kp d1 E1 xm1
    (ok_checkT F2 E2 F4 d4 a4 y4 m_enumerate) g2 F2.kp d2 E2 xm2 ⟨_, h_MOST_LETTERS⟩
end Own
open PySem PySem.W PyProof.Rows
set_option maxHeartbeats 0 in
theorem PySem.Challenge.cw_ownfill_k01_letters_and_texts_checked_holds : PySem.Challenge.rw_ownfill_k01_letters_and_texts_checked.Holds := by
  w_on; o_law; k_head; (case hw => w_witness2)
  k_fill
  refine LamX.walk_ofTs (l := PySem.Challenge.rw_ownfill_k01_letters_and_texts_checked) (n := 63) (k := 6) (x := "_law_script") (CX := fun _ => L2.CX0) rfl (by decide) rfl ⟨rfl, by decide, by decide⟩ (fun w h Y => PySem.W.km_in_of Y) ?F (fun _ _ _ _ _ h => h)
  case F =>
    intro w mg fa h Y KX G hmg
    have hT := PySem.W.km_tabs_of Y
    refine' Own.all_mk KX G hmg (hT _ (List.Mem.head _)) ?a1 ?a2 ?a5 ?a6 ?a7 ?a8 ?a9 ?a10 ?a11 ?a12 ?a13 ?a14 ?e1 ?e2 ?a3 ?y3 ?a4 ?y4 ?l1 ?c1 ?k1 ?l2 ?c2 ?k2 ?l3 ?c3 ?k3 ?l4 ?c4 ?k4 ?l5 ?c5 ?k5 ?l6 ?c6 ?k6 ?l7 ?c7 ?k7 ?l8 ?c8 ?k8 ?l9 ?c9 ?k9 ?l10 ?c10 ?k10 ?l11 ?c11 ?k11 ?l12 ?c12 ?k12 ?l13 ?c13 ?k13 ?l14 ?c14 ?k14 ?b1 ?b2 ?x1 ?xf1 ?nc1 ?np1 ?xm1 ?x2 ?xf2 ?nc2 ?np2 ?xm2 ?v1 ?v2 ?v3 ?nT ?hC ?z1 ?z2 ?z3 ?z4 ?z5 ?z6 ?z7 ?z8 ?z9 ?z10 ?z11 ?z12
    (case a1 => k_is)
    (case a2 => k_is)
    (case a5 => k_is)
    (case a6 => k_is)
    (case a7 => k_is)
    (case a8 => k_is)
    (case a9 => k_is)
    (case a10 => k_is)
    (case a11 => k_is)
    (case a12 => k_is)
    (case a13 => k_is)
    (case a14 => k_is)
    (case e1 => k_is)
    (case e2 => k_is)
    (case a3 => k_is)
    (case y3 => k_is)
    (case a4 => k_is)
    (case y4 => k_is)
    (case l1 => k_is)
    (case c1 => k_is)
    (case k1 => k_is)
    (case l2 => k_is)
    (case c2 => k_is)
    (case k2 => k_is)
    (case l3 => k_is)
    (case c3 => k_is)
    (case k3 => k_is)
    (case l4 => k_is)
    (case c4 => k_is)
    (case k4 => k_is)
    (case l5 => k_is)
    (case c5 => k_is)
    (case k5 => k_is)
    (case l6 => k_is)
    (case c6 => k_is)
    (case k6 => k_is)
    (case l7 => k_is)
    (case c7 => k_is)
    (case k7 => k_is)
    (case l8 => k_is)
    (case c8 => k_is)
    (case k8 => k_is)
    (case l9 => k_is)
    (case c9 => k_is)
    (case k9 => k_is)
    (case l10 => k_is)
    (case c10 => k_is)
    (case k10 => k_is)
    (case l11 => k_is)
    (case c11 => k_is)
    (case k11 => k_is)
    (case l12 => k_is)
    (case c12 => k_is)
    (case k12 => k_is)
    (case l13 => k_is)
    (case c13 => k_is)
    (case k13 => k_is)
    (case l14 => k_is)
    (case c14 => k_is)
    (case k14 => k_is)
    (case b1 => k_is)
    (case b2 => k_is)
    (case x1 => exact ⟨⟨_, _, _, _, _, _, _, _, _, _, _, _, _, _, _, by k_is, by decide +kernel⟩, by k_is, by k_is, by k_is, by k_is⟩)
    (case xf1 => exact ⟨by k_is, by k_is, by k_is, by first | k_is | kernel_rfl⟩)
    (case nc1 => k_is)
    (case np1 => k_is)
    (case xm1 => kernel_rfl)
    (case x2 => exact ⟨⟨_, _, _, _, _, _, _, _, _, _, _, _, _, _, _, by k_is, by decide +kernel⟩, by k_is, by k_is, by k_is, by k_is⟩)
    (case xf2 => exact ⟨by k_is, by k_is, by k_is, by first | k_is | kernel_rfl⟩)
    (case nc2 => k_is)
    (case np2 => k_is)
    (case xm2 => kernel_rfl)
    (case v1 => k_is)
    (case v2 => k_is)
    (case v3 => k_is)
    (case nT => kernel_rfl)
    (case hC => kernel_rfl)
    (case z1 => k_is)
    (case z2 => k_is)
    (case z3 => k_is)
    (case z4 => k_is)
    (case z5 => k_is)
    (case z6 => k_is)
    (case z7 => k_is)
    (case z8 => k_is)
    (case z9 => k_is)
    (case z10 => k_is)
    (case z11 => k_is)
    (case z12 => k_is)
