/- Mirrors of code, stage 9: BranchChecks. -/
import Derived.Test.YtbmbhgkjpdpcjaaYc
namespace Go.Proofs.Ytbmbhgkjpdpcjaa.Ab
open Go

/-! ### minecontrol/minecontrollaw09.BranchChecks -/
def law09_BranchChecks_encC (codes : (Sq Int)) (raw : SAir) (s : SSetting) (by_ : Int) : List AV × List Blk := ([.slc 1 codes.n (fun k2757 => [.int .u8 (codes.f k2757)]), .agg [.slc 2 raw.Mine.Places.n (fun k2758 => (SPlace.enc (raw.Mine.Places.f k2758))), .slc 10 raw.Mine.Roads.n (fun k2759 => (SRoad.enc (raw.Mine.Roads.f k2759))), .slc 4 raw.Fans.n (fun k2760 => (SFan.enc (raw.Fans.f k2760))), .slc 3 raw.Doors.n (fun k2761 => (SDoor.enc (raw.Doors.f k2761)))], .agg [.slc 1 s.Fans.n (fun k2762 => [.int .i64 (s.Fans.f k2762)]), .slc 1 s.Doors.n (fun k2763 => [.int .i64 (s.Doors.f k2763)])], .int .i64 by_], [])
def law09_BranchChecks_enc (p : (Sq Int) × SAir × SSetting × Int) : List AV × List Blk := law09_BranchChecks_encC p.1 p.2.1 p.2.2.1 p.2.2.2
theorem law09_BranchChecks_inj (p q : (Sq Int) × SAir × SSetting × Int) (h : law09_BranchChecks_enc p = law09_BranchChecks_enc q) : p = q :=
  (Prod.ext (Sq.av_inj intE_u8 (a := p.1) (b := q.1) (congrArg (fun x : List AV × List Blk => x.1.getD 0 .undef) h)) (Prod.ext (SAir.ext2 (SMine.ext2 (Sq.av_inj SPlace.inj (a := p.2.1.Mine.Places) (b := q.2.1.Mine.Places) (congrArg (fun x : List AV × List Blk => argC x.1 1 0) h)) (Sq.av_inj SRoad.inj (a := p.2.1.Mine.Roads) (b := q.2.1.Mine.Roads) (congrArg (fun x : List AV × List Blk => argC x.1 1 1) h))) (Sq.av_inj SFan.inj (a := p.2.1.Fans) (b := q.2.1.Fans) (congrArg (fun x : List AV × List Blk => argC x.1 1 2) h)) (Sq.av_inj SDoor.inj (a := p.2.1.Doors) (b := q.2.1.Doors) (congrArg (fun x : List AV × List Blk => argC x.1 1 3) h))) (Prod.ext (SSetting.ext2 (Sq.av_inj intE_i64 (a := p.2.2.1.Fans) (b := q.2.2.1.Fans) (congrArg (fun x : List AV × List Blk => argC x.1 2 0) h)) (Sq.av_inj intE_i64 (a := p.2.2.1.Doors) (b := q.2.2.1.Doors) (congrArg (fun x : List AV × List Blk => argC x.1 2 1) h))) (show p.2.2.2 = q.2.2.2 from congrArg intA (congrArg (fun x : List AV × List Blk => x.1.getD 3 .undef) h)))))
noncomputable def law09_BranchChecks_t (codes : (Sq Int)) (raw : SAir) (s : SSetting) (by_ : Int) : DT (Bool) :=
  .bind (New codes) fun z1874 =>
  .bind (Codes_Made z1874) fun z1875 =>
  .bind (Codes_Next (SCodes.mk z1874.l_ z1875.2.2.2) (6 : Int)) fun z1876 =>
  .ite (z1876.1 == (1 : Int)) (
    .bind (Codes_Curve (SCodes.mk z1874.l_ z1876.2)) fun z1877 =>
    .ite (decide ((z1875.1.Fans.n + 1) * 40 ≤ 140737488355328 ∧ (z1875.1.Fans.n + 1) ≤ 1099511627776)) (
      .ite (decide ((z1875.2.1.Fans.n + 1) * 8 ≤ 140737488355328 ∧ (z1875.2.1.Fans.n + 1) ≤ 1099511627776)) (
        .bind (law09_small raw) fun z1878 =>
        .ite (!z1878) (
          .leaf true) (
          .bind (branch_Check (SAir.mk z1875.1.Mine (Sq.mk (z1875.1.Fans.n + 1) (fun k1879 => (SFan.mk (cond (Nat.blt k1879 z1875.1.Fans.n) (z1875.1.Fans.f k1879).Road by_) (cond (Nat.blt k1879 z1875.1.Fans.n) (z1875.1.Fans.f k1879).Back false) (cond (Nat.blt k1879 z1875.1.Fans.n) (z1875.1.Fans.f k1879).Auxiliary false) (Sq.mk (cond (Nat.blt k1879 z1875.1.Fans.n) (z1875.1.Fans.f k1879).Curve.n z1877.1.n) (fun k1880 => (SPoint.mk (cond (Nat.blt k1879 z1875.1.Fans.n) ((z1875.1.Fans.f k1879).Curve.f k1880).Flow (z1877.1.f k1880).Flow) (cond (Nat.blt k1879 z1875.1.Fans.n) ((z1875.1.Fans.f k1879).Curve.f k1880).Pressure (z1877.1.f k1880).Pressure))))))) z1875.1.Doors)) fun z1881 =>
          .bind (ref09_Check (SAir.mk z1875.1.Mine (Sq.mk (z1875.1.Fans.n + 1) (fun k1882 => (SFan.mk (cond (Nat.blt k1882 z1875.1.Fans.n) (z1875.1.Fans.f k1882).Road by_) (cond (Nat.blt k1882 z1875.1.Fans.n) (z1875.1.Fans.f k1882).Back false) (cond (Nat.blt k1882 z1875.1.Fans.n) (z1875.1.Fans.f k1882).Auxiliary false) (Sq.mk (cond (Nat.blt k1882 z1875.1.Fans.n) (z1875.1.Fans.f k1882).Curve.n z1877.1.n) (fun k1883 => (SPoint.mk (cond (Nat.blt k1882 z1875.1.Fans.n) ((z1875.1.Fans.f k1882).Curve.f k1883).Flow (z1877.1.f k1883).Flow) (cond (Nat.blt k1882 z1875.1.Fans.n) ((z1875.1.Fans.f k1882).Curve.f k1883).Pressure (z1877.1.f k1883).Pressure))))))) z1875.1.Doors)) fun z1884 =>
          .ite (z1881 == z1884) (
            .bind (branch_Check raw) fun z1885 =>
            .bind (ref09_Check raw) fun z1886 =>
            .ite (z1885 == z1886) (
              .bind (branch_Right (SAir.mk z1875.1.Mine (Sq.mk (z1875.1.Fans.n + 1) (fun k1887 => (SFan.mk (cond (Nat.blt k1887 z1875.1.Fans.n) (z1875.1.Fans.f k1887).Road by_) (cond (Nat.blt k1887 z1875.1.Fans.n) (z1875.1.Fans.f k1887).Back false) (cond (Nat.blt k1887 z1875.1.Fans.n) (z1875.1.Fans.f k1887).Auxiliary false) (Sq.mk (cond (Nat.blt k1887 z1875.1.Fans.n) (z1875.1.Fans.f k1887).Curve.n z1877.1.n) (fun k1888 => (SPoint.mk (cond (Nat.blt k1887 z1875.1.Fans.n) ((z1875.1.Fans.f k1887).Curve.f k1888).Flow (z1877.1.f k1888).Flow) (cond (Nat.blt k1887 z1875.1.Fans.n) ((z1875.1.Fans.f k1887).Curve.f k1888).Pressure (z1877.1.f k1888).Pressure))))))) z1875.1.Doors) (SSetting.mk (Sq.mk (z1875.2.1.Fans.n + 1) (fun k1889 => (cond (Nat.blt k1889 z1875.2.1.Fans.n) (z1875.2.1.Fans.f k1889) by_))) z1875.2.1.Doors)) fun z1890 =>
              .bind (ref09_Right (SAir.mk z1875.1.Mine (Sq.mk (z1875.1.Fans.n + 1) (fun k1891 => (SFan.mk (cond (Nat.blt k1891 z1875.1.Fans.n) (z1875.1.Fans.f k1891).Road by_) (cond (Nat.blt k1891 z1875.1.Fans.n) (z1875.1.Fans.f k1891).Back false) (cond (Nat.blt k1891 z1875.1.Fans.n) (z1875.1.Fans.f k1891).Auxiliary false) (Sq.mk (cond (Nat.blt k1891 z1875.1.Fans.n) (z1875.1.Fans.f k1891).Curve.n z1877.1.n) (fun k1892 => (SPoint.mk (cond (Nat.blt k1891 z1875.1.Fans.n) ((z1875.1.Fans.f k1891).Curve.f k1892).Flow (z1877.1.f k1892).Flow) (cond (Nat.blt k1891 z1875.1.Fans.n) ((z1875.1.Fans.f k1891).Curve.f k1892).Pressure (z1877.1.f k1892).Pressure))))))) z1875.1.Doors) (SSetting.mk (Sq.mk (z1875.2.1.Fans.n + 1) (fun k1893 => (cond (Nat.blt k1893 z1875.2.1.Fans.n) (z1875.2.1.Fans.f k1893) by_))) z1875.2.1.Doors)) fun z1894 =>
              .ite (z1890 == z1894) (
                .bind (branch_Right raw s) fun z1895 =>
                .bind (ref09_Right raw s) fun z1896 =>
                .ite (z1895 == z1896) (
                  .bind (branch_Right (SAir.mk z1875.1.Mine (Sq.mk (z1875.1.Fans.n + 1) (fun k1897 => (SFan.mk (cond (Nat.blt k1897 z1875.1.Fans.n) (z1875.1.Fans.f k1897).Road by_) (cond (Nat.blt k1897 z1875.1.Fans.n) (z1875.1.Fans.f k1897).Back false) (cond (Nat.blt k1897 z1875.1.Fans.n) (z1875.1.Fans.f k1897).Auxiliary false) (Sq.mk (cond (Nat.blt k1897 z1875.1.Fans.n) (z1875.1.Fans.f k1897).Curve.n z1877.1.n) (fun k1898 => (SPoint.mk (cond (Nat.blt k1897 z1875.1.Fans.n) ((z1875.1.Fans.f k1897).Curve.f k1898).Flow (z1877.1.f k1898).Flow) (cond (Nat.blt k1897 z1875.1.Fans.n) ((z1875.1.Fans.f k1897).Curve.f k1898).Pressure (z1877.1.f k1898).Pressure))))))) z1875.1.Doors) s) fun z1899 =>
                  .bind (ref09_Right (SAir.mk z1875.1.Mine (Sq.mk (z1875.1.Fans.n + 1) (fun k1900 => (SFan.mk (cond (Nat.blt k1900 z1875.1.Fans.n) (z1875.1.Fans.f k1900).Road by_) (cond (Nat.blt k1900 z1875.1.Fans.n) (z1875.1.Fans.f k1900).Back false) (cond (Nat.blt k1900 z1875.1.Fans.n) (z1875.1.Fans.f k1900).Auxiliary false) (Sq.mk (cond (Nat.blt k1900 z1875.1.Fans.n) (z1875.1.Fans.f k1900).Curve.n z1877.1.n) (fun k1901 => (SPoint.mk (cond (Nat.blt k1900 z1875.1.Fans.n) ((z1875.1.Fans.f k1900).Curve.f k1901).Flow (z1877.1.f k1901).Flow) (cond (Nat.blt k1900 z1875.1.Fans.n) ((z1875.1.Fans.f k1900).Curve.f k1901).Pressure (z1877.1.f k1901).Pressure))))))) z1875.1.Doors) s) fun z1902 =>
                  .ite (z1899 == z1902) (
                    .leaf true) (
                    .leaf false)) (
                  .leaf false)) (
                .leaf false)) (
              .leaf false)) (
            .leaf false))) (
        .fail)) (
      .fail)) (
    .ite (z1876.1 == (2 : Int)) (
      .bind (Codes_Door (SCodes.mk z1874.l_ z1876.2) by_) fun z1903 =>
      .ite (decide ((z1875.1.Doors.n + 1) * 40 ≤ 140737488355328 ∧ (z1875.1.Doors.n + 1) ≤ 1099511627776)) (
        .ite (decide ((z1875.2.1.Doors.n + 1) * 8 ≤ 140737488355328 ∧ (z1875.2.1.Doors.n + 1) ≤ 1099511627776)) (
          .bind (law09_small raw) fun z1904 =>
          .ite (!z1904) (
            .leaf true) (
            .bind (branch_Check (SAir.mk z1875.1.Mine z1875.1.Fans (Sq.mk (z1875.1.Doors.n + 1) (fun k1905 => (SDoor.mk (cond (Nat.blt k1905 z1875.1.Doors.n) (z1875.1.Doors.f k1905).Road z1903.1.Road) (cond (Nat.blt k1905 z1875.1.Doors.n) (z1875.1.Doors.f k1905).Other z1903.1.Other) (Sq.mk (cond (Nat.blt k1905 z1875.1.Doors.n) (z1875.1.Doors.f k1905).Rests.n z1903.1.Rests.n) (fun k1906 => (cond (Nat.blt k1905 z1875.1.Doors.n) ((z1875.1.Doors.f k1905).Rests.f k1906) (z1903.1.Rests.f k1906))))))))) fun z1907 =>
            .bind (ref09_Check (SAir.mk z1875.1.Mine z1875.1.Fans (Sq.mk (z1875.1.Doors.n + 1) (fun k1908 => (SDoor.mk (cond (Nat.blt k1908 z1875.1.Doors.n) (z1875.1.Doors.f k1908).Road z1903.1.Road) (cond (Nat.blt k1908 z1875.1.Doors.n) (z1875.1.Doors.f k1908).Other z1903.1.Other) (Sq.mk (cond (Nat.blt k1908 z1875.1.Doors.n) (z1875.1.Doors.f k1908).Rests.n z1903.1.Rests.n) (fun k1909 => (cond (Nat.blt k1908 z1875.1.Doors.n) ((z1875.1.Doors.f k1908).Rests.f k1909) (z1903.1.Rests.f k1909))))))))) fun z1910 =>
            .ite (z1907 == z1910) (
              .bind (branch_Check raw) fun z1911 =>
              .bind (ref09_Check raw) fun z1912 =>
              .ite (z1911 == z1912) (
                .bind (branch_Right (SAir.mk z1875.1.Mine z1875.1.Fans (Sq.mk (z1875.1.Doors.n + 1) (fun k1913 => (SDoor.mk (cond (Nat.blt k1913 z1875.1.Doors.n) (z1875.1.Doors.f k1913).Road z1903.1.Road) (cond (Nat.blt k1913 z1875.1.Doors.n) (z1875.1.Doors.f k1913).Other z1903.1.Other) (Sq.mk (cond (Nat.blt k1913 z1875.1.Doors.n) (z1875.1.Doors.f k1913).Rests.n z1903.1.Rests.n) (fun k1914 => (cond (Nat.blt k1913 z1875.1.Doors.n) ((z1875.1.Doors.f k1913).Rests.f k1914) (z1903.1.Rests.f k1914)))))))) (SSetting.mk z1875.2.1.Fans (Sq.mk (z1875.2.1.Doors.n + 1) (fun k1915 => (cond (Nat.blt k1915 z1875.2.1.Doors.n) (z1875.2.1.Doors.f k1915) by_))))) fun z1916 =>
                .bind (ref09_Right (SAir.mk z1875.1.Mine z1875.1.Fans (Sq.mk (z1875.1.Doors.n + 1) (fun k1917 => (SDoor.mk (cond (Nat.blt k1917 z1875.1.Doors.n) (z1875.1.Doors.f k1917).Road z1903.1.Road) (cond (Nat.blt k1917 z1875.1.Doors.n) (z1875.1.Doors.f k1917).Other z1903.1.Other) (Sq.mk (cond (Nat.blt k1917 z1875.1.Doors.n) (z1875.1.Doors.f k1917).Rests.n z1903.1.Rests.n) (fun k1918 => (cond (Nat.blt k1917 z1875.1.Doors.n) ((z1875.1.Doors.f k1917).Rests.f k1918) (z1903.1.Rests.f k1918)))))))) (SSetting.mk z1875.2.1.Fans (Sq.mk (z1875.2.1.Doors.n + 1) (fun k1919 => (cond (Nat.blt k1919 z1875.2.1.Doors.n) (z1875.2.1.Doors.f k1919) by_))))) fun z1920 =>
                .ite (z1916 == z1920) (
                  .bind (branch_Right raw s) fun z1921 =>
                  .bind (ref09_Right raw s) fun z1922 =>
                  .ite (z1921 == z1922) (
                    .bind (branch_Right (SAir.mk z1875.1.Mine z1875.1.Fans (Sq.mk (z1875.1.Doors.n + 1) (fun k1923 => (SDoor.mk (cond (Nat.blt k1923 z1875.1.Doors.n) (z1875.1.Doors.f k1923).Road z1903.1.Road) (cond (Nat.blt k1923 z1875.1.Doors.n) (z1875.1.Doors.f k1923).Other z1903.1.Other) (Sq.mk (cond (Nat.blt k1923 z1875.1.Doors.n) (z1875.1.Doors.f k1923).Rests.n z1903.1.Rests.n) (fun k1924 => (cond (Nat.blt k1923 z1875.1.Doors.n) ((z1875.1.Doors.f k1923).Rests.f k1924) (z1903.1.Rests.f k1924)))))))) s) fun z1925 =>
                    .bind (ref09_Right (SAir.mk z1875.1.Mine z1875.1.Fans (Sq.mk (z1875.1.Doors.n + 1) (fun k1926 => (SDoor.mk (cond (Nat.blt k1926 z1875.1.Doors.n) (z1875.1.Doors.f k1926).Road z1903.1.Road) (cond (Nat.blt k1926 z1875.1.Doors.n) (z1875.1.Doors.f k1926).Other z1903.1.Other) (Sq.mk (cond (Nat.blt k1926 z1875.1.Doors.n) (z1875.1.Doors.f k1926).Rests.n z1903.1.Rests.n) (fun k1927 => (cond (Nat.blt k1926 z1875.1.Doors.n) ((z1875.1.Doors.f k1926).Rests.f k1927) (z1903.1.Rests.f k1927)))))))) s) fun z1928 =>
                    .ite (z1925 == z1928) (
                      .leaf true) (
                      .leaf false)) (
                    .leaf false)) (
                  .leaf false)) (
                .leaf false)) (
              .leaf false))) (
          .fail)) (
        .fail)) (
      .ite (z1876.1 == (3 : Int)) (
        .ite (decide ((z1875.2.1.Fans.n + 1) * 8 ≤ 140737488355328 ∧ (z1875.2.1.Fans.n + 1) ≤ 1099511627776)) (
          .bind (law09_small raw) fun z1929 =>
          .ite (!z1929) (
            .leaf true) (
            .bind (branch_Check z1875.1) fun z1930 =>
            .bind (ref09_Check z1875.1) fun z1931 =>
            .ite (z1930 == z1931) (
              .bind (branch_Check raw) fun z1932 =>
              .bind (ref09_Check raw) fun z1933 =>
              .ite (z1932 == z1933) (
                .bind (branch_Right z1875.1 (SSetting.mk (Sq.mk (z1875.2.1.Fans.n + 1) (fun k1934 => (cond (Nat.blt k1934 z1875.2.1.Fans.n) (z1875.2.1.Fans.f k1934) (0 : Int)))) z1875.2.1.Doors)) fun z1935 =>
                .bind (ref09_Right z1875.1 (SSetting.mk (Sq.mk (z1875.2.1.Fans.n + 1) (fun k1936 => (cond (Nat.blt k1936 z1875.2.1.Fans.n) (z1875.2.1.Fans.f k1936) (0 : Int)))) z1875.2.1.Doors)) fun z1937 =>
                .ite (z1935 == z1937) (
                  .bind (branch_Right raw s) fun z1938 =>
                  .bind (ref09_Right raw s) fun z1939 =>
                  .ite (z1938 == z1939) (
                    .bind (branch_Right z1875.1 s) fun z1940 =>
                    .bind (ref09_Right z1875.1 s) fun z1941 =>
                    .ite (z1940 == z1941) (
                      .leaf true) (
                      .leaf false)) (
                    .leaf false)) (
                  .leaf false)) (
                .leaf false)) (
              .leaf false))) (
          .fail)) (
        .ite (z1876.1 == (4 : Int)) (
          .ite (decide ((0 : Int) ≤ (1 : Int) ∧ (1 : Int) ≤ ((z1875.1.Mine.Places.n : Nat) : Int))) (
            .bind (law09_small raw) fun z1942 =>
            .ite (!z1942) (
              .leaf true) (
              .bind (branch_Check (SAir.mk (SMine.mk (Sq.mk (Int.toNat (1 : Int)) z1875.1.Mine.Places.f) z1875.1.Mine.Roads) z1875.1.Fans z1875.1.Doors)) fun z1943 =>
              .bind (ref09_Check (SAir.mk (SMine.mk (Sq.mk (Int.toNat (1 : Int)) z1875.1.Mine.Places.f) z1875.1.Mine.Roads) z1875.1.Fans z1875.1.Doors)) fun z1944 =>
              .ite (z1943 == z1944) (
                .bind (branch_Check raw) fun z1945 =>
                .bind (ref09_Check raw) fun z1946 =>
                .ite (z1945 == z1946) (
                  .bind (branch_Right (SAir.mk (SMine.mk (Sq.mk (Int.toNat (1 : Int)) z1875.1.Mine.Places.f) z1875.1.Mine.Roads) z1875.1.Fans z1875.1.Doors) z1875.2.1) fun z1947 =>
                  .bind (ref09_Right (SAir.mk (SMine.mk (Sq.mk (Int.toNat (1 : Int)) z1875.1.Mine.Places.f) z1875.1.Mine.Roads) z1875.1.Fans z1875.1.Doors) z1875.2.1) fun z1948 =>
                  .ite (z1947 == z1948) (
                    .bind (branch_Right raw s) fun z1949 =>
                    .bind (ref09_Right raw s) fun z1950 =>
                    .ite (z1949 == z1950) (
                      .bind (branch_Right (SAir.mk (SMine.mk (Sq.mk (Int.toNat (1 : Int)) z1875.1.Mine.Places.f) z1875.1.Mine.Roads) z1875.1.Fans z1875.1.Doors) s) fun z1951 =>
                      .bind (ref09_Right (SAir.mk (SMine.mk (Sq.mk (Int.toNat (1 : Int)) z1875.1.Mine.Places.f) z1875.1.Mine.Roads) z1875.1.Fans z1875.1.Doors) s) fun z1952 =>
                      .ite (z1951 == z1952) (
                        .leaf true) (
                        .leaf false)) (
                      .leaf false)) (
                    .leaf false)) (
                  .leaf false)) (
                .leaf false))) (
            .fail)) (
          .bind (law09_small raw) fun z1953 =>
          .ite (!z1953) (
            .leaf true) (
            .bind (branch_Check z1875.1) fun z1954 =>
            .bind (ref09_Check z1875.1) fun z1955 =>
            .ite (z1954 == z1955) (
              .bind (branch_Check raw) fun z1956 =>
              .bind (ref09_Check raw) fun z1957 =>
              .ite (z1956 == z1957) (
                .bind (branch_Right z1875.1 z1875.2.1) fun z1958 =>
                .bind (ref09_Right z1875.1 z1875.2.1) fun z1959 =>
                .ite (z1958 == z1959) (
                  .bind (branch_Right raw s) fun z1960 =>
                  .bind (ref09_Right raw s) fun z1961 =>
                  .ite (z1960 == z1961) (
                    .bind (branch_Right z1875.1 s) fun z1962 =>
                    .bind (ref09_Right z1875.1 s) fun z1963 =>
                    .ite (z1962 == z1963) (
                      .leaf true) (
                      .leaf false)) (
                    .leaf false)) (
                  .leaf false)) (
                .leaf false)) (
              .leaf false))))))
def law09_BranchChecks_av (r : Bool) : AV := .bool r
def law09_BranchChecks_outs (_ : List Blk) (_ : Bool) : List Blk := []
noncomputable def c_law09_BranchChecks : List AV → List Blk → Option Ans := told law09_BranchChecks_enc (fun p => (law09_BranchChecks_t p.1 p.2.1 p.2.2.1 p.2.2.2).get) law09_BranchChecks_av law09_BranchChecks_outs true (fun _ _ _ => ⟨rfl, fun b hb => by cases hb⟩)
noncomputable def law09_BranchChecks_env : Env := { envS (fun f => match f with
  | 10 => c_New
  | 11 => c_Codes_Made
  | 12 => c_Codes_Next
  | 13 => c_Codes_Curve
  | 15 => c_law09_small
  | 16 => awake?
  | 17 => c_branch_Check
  | 18 => c_ref09_Check
  | 19 => c_branch_Right
  | 20 => c_ref09_Right
  | 14 => c_Codes_Door
  | _ => fun _ _ => none) with pre := fun r => match r with | 13 => [.freeze 448] | _ => [], mm := some 0 }
theorem law09_BranchChecks_env_ok : ∀ f, Tells Try.prog f (law09_BranchChecks_env.fs f) := by
  intro f
  by_cases h0 : f = 10
  · subst h0; exact New_tells
  by_cases h1 : f = 11
  · subst h1; exact Codes_Made_tells
  by_cases h2 : f = 12
  · subst h2; exact Codes_Next_tells
  by_cases h3 : f = 13
  · subst h3; exact Codes_Curve_tells
  by_cases h4 : f = 15
  · subst h4; exact law09_small_tells
  by_cases h5 : f = 16
  · subst h5; exact tells_awake
  by_cases h6 : f = 17
  · subst h6; exact branch_Check_tells
  by_cases h7 : f = 18
  · subst h7; exact ref09_Check_tells
  by_cases h8 : f = 19
  · subst h8; exact branch_Right_tells
  by_cases h9 : f = 20
  · subst h9; exact ref09_Right_tells
  by_cases h10 : f = 14
  · subst h10; exact Codes_Door_tells
  have : law09_BranchChecks_env.fs f = fun _ _ => none := by
    unfold law09_BranchChecks_env envS
    dsimp only
    split
    · exact absurd rfl h0
    · exact absurd rfl h1
    · exact absurd rfl h2
    · exact absurd rfl h3
    · exact absurd rfl h4
    · exact absurd rfl h5
    · exact absurd rfl h6
    · exact absurd rfl h7
    · exact absurd rfl h8
    · exact absurd rfl h9
    · exact absurd rfl h10
    · rfl
  rw [this]
  exact Tells.none_ f
theorem law09_BranchChecks_run (p : (Sq Int) × SAir × SSetting × Int) : arun law09_BranchChecks_env Try.f3 (law09_BranchChecks_enc p).1 (law09_BranchChecks_enc p).2 = (law09_BranchChecks_t p.1 p.2.1 p.2.2.1 p.2.2.2).run fun r => some (law09_BranchChecks_av r, law09_BranchChecks_outs (law09_BranchChecks_enc p).2 r) := by kernel_rfl
attribute [local irreducible] arun in
theorem law09_BranchChecks_tells : Tells Try.prog 3 c_law09_BranchChecks :=
  told_tells (E := law09_BranchChecks_env) (enc := law09_BranchChecks_enc) (av := law09_BranchChecks_av) (outs := law09_BranchChecks_outs) (t := fun p : (Sq Int) × SAir × SSetting × Int => law09_BranchChecks_t p.1 p.2.1 p.2.2.1 p.2.2.2) (by kernel_rfl) law09_BranchChecks_env_ok Try.func3 (fun c _ => loops_none (E := { law09_BranchChecks_env with nt := Try.f3.ntmps }) (fun _ => rfl) c) law09_BranchChecks_run
noncomputable def law09_BranchChecks (codes : (Sq Int)) (raw : SAir) (s : SSetting) (by_ : Int) : Option (Bool) := gOfA law09_BranchChecks_enc (fun p => (law09_BranchChecks_t p.1 p.2.1 p.2.2.1 p.2.2.2).get) (law09_BranchChecks_encC codes raw s by_).1 (law09_BranchChecks_encC codes raw s by_).2
theorem law09_BranchChecks_eq (codes : (Sq Int)) (raw : SAir) (s : SSetting) (by_ : Int) : law09_BranchChecks codes raw s by_ = (law09_BranchChecks_t codes raw s by_).get := congrFun (gOfA_eq law09_BranchChecks_inj (fun p => (law09_BranchChecks_t p.1 p.2.1 p.2.2.1 p.2.2.2).get)) (codes, raw, s, by_)
end Go.Proofs.Ytbmbhgkjpdpcjaa.Ab
