/- Mirrors of code, stage 9. -/
import Derived.Test.YtbmbhgkjpdpcjaaYc
namespace Go.Proofs.Ytbmbhgkjpdpcjaa.Ab
open Go



/-! ### minecontrol/minecontrollaw09.BranchChecks -/
def law09_BranchChecks_encC (codes : (Sq Int)) (raw : SAir) (s : SSetting) (by_ : Int) : List AV × List Blk := ([.slc 1 codes.n (fun k2757 => [.int .u8 (codes.f k2757)]), .agg [.slc 2 raw.Mine.Places.n (fun k2758 => (SPlace.enc (raw.Mine.Places.f k2758))), .slc 10 raw.Mine.Roads.n (fun k2759 => (SRoad.enc (raw.Mine.Roads.f k2759))), .slc 4 raw.Fans.n (fun k2760 => (SFan.enc (raw.Fans.f k2760))), .slc 3 raw.Doors.n (fun k2761 => (SDoor.enc (raw.Doors.f k2761)))], .agg [.slc 1 s.Fans.n (fun k2762 => [.int .i64 (s.Fans.f k2762)]), .slc 1 s.Doors.n (fun k2763 => [.int .i64 (s.Doors.f k2763)])], .int .i64 by_], [])
def law09_BranchChecks_enc (p : (Sq Int) × SAir × SSetting × Int) : List AV × List Blk := law09_BranchChecks_encC p.1 p.2.1 p.2.2.1 p.2.2.2
theorem law09_BranchChecks_inj (p q : (Sq Int) × SAir × SSetting × Int) (h : law09_BranchChecks_enc p = law09_BranchChecks_enc q) : p = q :=
  (Prod.ext (Sq.av_inj intE_u8 (a := p.1) (b := q.1) (congrArg (fun x : List AV × List Blk => x.1.getD 0 .undef) h)) (Prod.ext (SAir.ext2 (SMine.ext2 (Sq.av_inj SPlace.inj (a := p.2.1.Mine.Places) (b := q.2.1.Mine.Places) (congrArg (fun x : List AV × List Blk => argC x.1 1 0) h)) (Sq.av_inj SRoad.inj (a := p.2.1.Mine.Roads) (b := q.2.1.Mine.Roads) (congrArg (fun x : List AV × List Blk => argC x.1 1 1) h))) (Sq.av_inj SFan.inj (a := p.2.1.Fans) (b := q.2.1.Fans) (congrArg (fun x : List AV × List Blk => argC x.1 1 2) h)) (Sq.av_inj SDoor.inj (a := p.2.1.Doors) (b := q.2.1.Doors) (congrArg (fun x : List AV × List Blk => argC x.1 1 3) h))) (Prod.ext (SSetting.ext2 (Sq.av_inj intE_i64 (a := p.2.2.1.Fans) (b := q.2.2.1.Fans) (congrArg (fun x : List AV × List Blk => argC x.1 2 0) h)) (Sq.av_inj intE_i64 (a := p.2.2.1.Doors) (b := q.2.2.1.Doors) (congrArg (fun x : List AV × List Blk => argC x.1 2 1) h))) (show p.2.2.2 = q.2.2.2 from congrArg intA (congrArg (fun x : List AV × List Blk => x.1.getD 3 .undef) h)))))
noncomputable def law09_BranchChecks_t (codes : (Sq Int)) (raw : SAir) (s : SSetting) (by_ : Int) : DT (Bool) :=
  .bind (New codes) fun z1874 =>
  .bind (Codes_Made z1874) fun z1875 =>
  .bind (Codes_Next (SCodes.mk z1874.l_ z1875.2.2.2) (6 : Int)) fun z1876 =>
  .ite (z1876.1 == (1 : Int)) (
    .bind (Codes_Curve (SCodes.mk z1874.l_ z1876.2)) fun z1877 =>
    .ite (decide ((z1875.1.Fans.n + 1) * 40 ≤ 140737488355328 ∧ (z1875.1.Fans.n + 1) ≤ 1099511627776)) (
      .ite (decide ((z1875.2.1.Fans.n + 1) * 8 ≤ 140737488355328 ∧ (z1875.2.1.Fans.n + 1) ≤ 1099511627776)) (
        .bind (law09_small raw) fun z1878 =>
        .ite (!z1878) (
          .leaf true) (
          .bind (branch_Check (SAir.mk z1875.1.Mine (Sq.mk (z1875.1.Fans.n + 1) (fun k1879 => (SFan.mk (cond (Nat.blt k1879 z1875.1.Fans.n) (z1875.1.Fans.f k1879).Road by_) (cond (Nat.blt k1879 z1875.1.Fans.n) (z1875.1.Fans.f k1879).Back false) (cond (Nat.blt k1879 z1875.1.Fans.n) (z1875.1.Fans.f k1879).Auxiliary false) (Sq.mk (cond (Nat.blt k1879 z1875.1.Fans.n) (z1875.1.Fans.f k1879).Curve.n z1877.1.n) (fun k1880 => (SPoint.mk (cond (Nat.blt k1879 z1875.1.Fans.n) ((z1875.1.Fans.f k1879).Curve.f k1880).Flow (z1877.1.f k1880).Flow) (cond (Nat.blt k1879 z1875.1.Fans.n) ((z1875.1.Fans.f k1879).Curve.f k1880).Pressure (z1877.1.f k1880).Pressure))))))) z1875.1.Doors)) fun z1881 =>
          .bind (ref09_Check (SAir.mk z1875.1.Mine (Sq.mk (z1875.1.Fans.n + 1) (fun k1882 => (SFan.mk (cond (Nat.blt k1882 z1875.1.Fans.n) (z1875.1.Fans.f k1882).Road by_) (cond (Nat.blt k1882 z1875.1.Fans.n) (z1875.1.Fans.f k1882).Back false) (cond (Nat.blt k1882 z1875.1.Fans.n) (z1875.1.Fans.f k1882).Auxiliary false) (Sq.mk (cond (Nat.blt k1882 z1875.1.Fans.n) (z1875.1.Fans.f k1882).Curve.n z1877.1.n) (fun k1883 => (SPoint.mk (cond (Nat.blt k1882 z1875.1.Fans.n) ((z1875.1.Fans.f k1882).Curve.f k1883).Flow (z1877.1.f k1883).Flow) (cond (Nat.blt k1882 z1875.1.Fans.n) ((z1875.1.Fans.f k1882).Curve.f k1883).Pressure (z1877.1.f k1883).Pressure))))))) z1875.1.Doors)) fun z1884 =>
          .ite (z1881 == z1884) (
            .bind (branch_Check raw) fun z1885 =>
            .bind (ref09_Check raw) fun z1886 =>
            .ite (z1885 == z1886) (
              .bind (branch_Right (SAir.mk z1875.1.Mine (Sq.mk (z1875.1.Fans.n + 1) (fun k1887 => (SFan.mk (cond (Nat.blt k1887 z1875.1.Fans.n) (z1875.1.Fans.f k1887).Road by_) (cond (Nat.blt k1887 z1875.1.Fans.n) (z1875.1.Fans.f k1887).Back false) (cond (Nat.blt k1887 z1875.1.Fans.n) (z1875.1.Fans.f k1887).Auxiliary false) (Sq.mk (cond (Nat.blt k1887 z1875.1.Fans.n) (z1875.1.Fans.f k1887).Curve.n z1877.1.n) (fun k1888 => (SPoint.mk (cond (Nat.blt k1887 z1875.1.Fans.n) ((z1875.1.Fans.f k1887).Curve.f k1888).Flow (z1877.1.f k1888).Flow) (cond (Nat.blt k1887 z1875.1.Fans.n) ((z1875.1.Fans.f k1887).Curve.f k1888).Pressure (z1877.1.f k1888).Pressure))))))) z1875.1.Doors) (SSetting.mk (Sq.mk (z1875.2.1.Fans.n + 1) (fun k1889 => (cond (Nat.blt k1889 z1875.2.1.Fans.n) (z1875.2.1.Fans.f k1889) by_))) z1875.2.1.Doors)) fun z1890 =>
              .bind (ref09_Right (SAir.mk z1875.1.Mine (Sq.mk (z1875.1.Fans.n + 1) (fun k1891 => (SFan.mk (cond (Nat.blt k1891 z1875.1.Fans.n) (z1875.1.Fans.f k1891).Road by_) (cond (Nat.blt k1891 z1875.1.Fans.n) (z1875.1.Fans.f k1891).Back false) (cond (Nat.blt k1891 z1875.1.Fans.n) (z1875.1.Fans.f k1891).Auxiliary false) (Sq.mk (cond (Nat.blt k1891 z1875.1.Fans.n) (z1875.1.Fans.f k1891).Curve.n z1877.1.n) (fun k1892 => (SPoint.mk (cond (Nat.blt k1891 z1875.1.Fans.n) ((z1875.1.Fans.f k1891).Curve.f k1892).Flow (z1877.1.f k1892).Flow) (cond (Nat.blt k1891 z1875.1.Fans.n) ((z1875.1.Fans.f k1891).Curve.f k1892).Pressure (z1877.1.f k1892).Pressure))))))) z1875.1.Doors) (SSetting.mk (Sq.mk (z1875.2.1.Fans.n + 1) (fun k1893 => (cond (Nat.blt k1893 z1875.2.1.Fans.n) (z1875.2.1.Fans.f k1893) by_))) z1875.2.1.Doors)) fun z1894 =>
              .ite (z1890 == z1894) (
                .bind (branch_Right raw s) fun z1895 =>
                .bind (ref09_Right raw s) fun z1896 =>
                .ite (z1895 == z1896) (
                  .bind (branch_Right (SAir.mk z1875.1.Mine (Sq.mk (z1875.1.Fans.n + 1) (fun k1897 => (SFan.mk (cond (Nat.blt k1897 z1875.1.Fans.n) (z1875.1.Fans.f k1897).Road by_) (cond (Nat.blt k1897 z1875.1.Fans.n) (z1875.1.Fans.f k1897).Back false) (cond (Nat.blt k1897 z1875.1.Fans.n) (z1875.1.Fans.f k1897).Auxiliary false) (Sq.mk (cond (Nat.blt k1897 z1875.1.Fans.n) (z1875.1.Fans.f k1897).Curve.n z1877.1.n) (fun k1898 => (SPoint.mk (cond (Nat.blt k1897 z1875.1.Fans.n) ((z1875.1.Fans.f k1897).Curve.f k1898).Flow (z1877.1.f k1898).Flow) (cond (Nat.blt k1897 z1875.1.Fans.n) ((z1875.1.Fans.f k1897).Curve.f k1898).Pressure (z1877.1.f k1898).Pressure))))))) z1875.1.Doors) s) fun z1899 =>
                  .bind (ref09_Right (SAir.mk z1875.1.Mine (Sq.mk (z1875.1.Fans.n + 1) (fun k1900 => (SFan.mk (cond (Nat.blt k1900 z1875.1.Fans.n) (z1875.1.Fans.f k1900).Road by_) (cond (Nat.blt k1900 z1875.1.Fans.n) (z1875.1.Fans.f k1900).Back false) (cond (Nat.blt k1900 z1875.1.Fans.n) (z1875.1.Fans.f k1900).Auxiliary false) (Sq.mk (cond (Nat.blt k1900 z1875.1.Fans.n) (z1875.1.Fans.f k1900).Curve.n z1877.1.n) (fun k1901 => (SPoint.mk (cond (Nat.blt k1900 z1875.1.Fans.n) ((z1875.1.Fans.f k1900).Curve.f k1901).Flow (z1877.1.f k1901).Flow) (cond (Nat.blt k1900 z1875.1.Fans.n) ((z1875.1.Fans.f k1900).Curve.f k1901).Pressure (z1877.1.f k1901).Pressure))))))) z1875.1.Doors) s) fun z1902 =>
                  .ite (z1899 == z1902) (
                    .leaf true) (
                    .leaf false)) (
                  .leaf false)) (
                .leaf false)) (
              .leaf false)) (
            .leaf false))) (
        .fail)) (
      .fail)) (
    .ite (z1876.1 == (2 : Int)) (
      .bind (Codes_Door (SCodes.mk z1874.l_ z1876.2) by_) fun z1903 =>
      .ite (decide ((z1875.1.Doors.n + 1) * 40 ≤ 140737488355328 ∧ (z1875.1.Doors.n + 1) ≤ 1099511627776)) (
        .ite (decide ((z1875.2.1.Doors.n + 1) * 8 ≤ 140737488355328 ∧ (z1875.2.1.Doors.n + 1) ≤ 1099511627776)) (
          .bind (law09_small raw) fun z1904 =>
          .ite (!z1904) (
            .leaf true) (
            .bind (branch_Check (SAir.mk z1875.1.Mine z1875.1.Fans (Sq.mk (z1875.1.Doors.n + 1) (fun k1905 => (SDoor.mk (cond (Nat.blt k1905 z1875.1.Doors.n) (z1875.1.Doors.f k1905).Road z1903.1.Road) (cond (Nat.blt k1905 z1875.1.Doors.n) (z1875.1.Doors.f k1905).Other z1903.1.Other) (Sq.mk (cond (Nat.blt k1905 z1875.1.Doors.n) (z1875.1.Doors.f k1905).Rests.n z1903.1.Rests.n) (fun k1906 => (cond (Nat.blt k1905 z1875.1.Doors.n) ((z1875.1.Doors.f k1905).Rests.f k1906) (z1903.1.Rests.f k1906))))))))) fun z1907 =>
            .bind (ref09_Check (SAir.mk z1875.1.Mine z1875.1.Fans (Sq.mk (z1875.1.Doors.n + 1) (fun k1908 => (SDoor.mk (cond (Nat.blt k1908 z1875.1.Doors.n) (z1875.1.Doors.f k1908).Road z1903.1.Road) (cond (Nat.blt k1908 z1875.1.Doors.n) (z1875.1.Doors.f k1908).Other z1903.1.Other) (Sq.mk (cond (Nat.blt k1908 z1875.1.Doors.n) (z1875.1.Doors.f k1908).Rests.n z1903.1.Rests.n) (fun k1909 => (cond (Nat.blt k1908 z1875.1.Doors.n) ((z1875.1.Doors.f k1908).Rests.f k1909) (z1903.1.Rests.f k1909))))))))) fun z1910 =>
            .ite (z1907 == z1910) (
              .bind (branch_Check raw) fun z1911 =>
              .bind (ref09_Check raw) fun z1912 =>
              .ite (z1911 == z1912) (
                .bind (branch_Right (SAir.mk z1875.1.Mine z1875.1.Fans (Sq.mk (z1875.1.Doors.n + 1) (fun k1913 => (SDoor.mk (cond (Nat.blt k1913 z1875.1.Doors.n) (z1875.1.Doors.f k1913).Road z1903.1.Road) (cond (Nat.blt k1913 z1875.1.Doors.n) (z1875.1.Doors.f k1913).Other z1903.1.Other) (Sq.mk (cond (Nat.blt k1913 z1875.1.Doors.n) (z1875.1.Doors.f k1913).Rests.n z1903.1.Rests.n) (fun k1914 => (cond (Nat.blt k1913 z1875.1.Doors.n) ((z1875.1.Doors.f k1913).Rests.f k1914) (z1903.1.Rests.f k1914)))))))) (SSetting.mk z1875.2.1.Fans (Sq.mk (z1875.2.1.Doors.n + 1) (fun k1915 => (cond (Nat.blt k1915 z1875.2.1.Doors.n) (z1875.2.1.Doors.f k1915) by_))))) fun z1916 =>
                .bind (ref09_Right (SAir.mk z1875.1.Mine z1875.1.Fans (Sq.mk (z1875.1.Doors.n + 1) (fun k1917 => (SDoor.mk (cond (Nat.blt k1917 z1875.1.Doors.n) (z1875.1.Doors.f k1917).Road z1903.1.Road) (cond (Nat.blt k1917 z1875.1.Doors.n) (z1875.1.Doors.f k1917).Other z1903.1.Other) (Sq.mk (cond (Nat.blt k1917 z1875.1.Doors.n) (z1875.1.Doors.f k1917).Rests.n z1903.1.Rests.n) (fun k1918 => (cond (Nat.blt k1917 z1875.1.Doors.n) ((z1875.1.Doors.f k1917).Rests.f k1918) (z1903.1.Rests.f k1918)))))))) (SSetting.mk z1875.2.1.Fans (Sq.mk (z1875.2.1.Doors.n + 1) (fun k1919 => (cond (Nat.blt k1919 z1875.2.1.Doors.n) (z1875.2.1.Doors.f k1919) by_))))) fun z1920 =>
                .ite (z1916 == z1920) (
                  .bind (branch_Right raw s) fun z1921 =>
                  .bind (ref09_Right raw s) fun z1922 =>
                  .ite (z1921 == z1922) (
                    .bind (branch_Right (SAir.mk z1875.1.Mine z1875.1.Fans (Sq.mk (z1875.1.Doors.n + 1) (fun k1923 => (SDoor.mk (cond (Nat.blt k1923 z1875.1.Doors.n) (z1875.1.Doors.f k1923).Road z1903.1.Road) (cond (Nat.blt k1923 z1875.1.Doors.n) (z1875.1.Doors.f k1923).Other z1903.1.Other) (Sq.mk (cond (Nat.blt k1923 z1875.1.Doors.n) (z1875.1.Doors.f k1923).Rests.n z1903.1.Rests.n) (fun k1924 => (cond (Nat.blt k1923 z1875.1.Doors.n) ((z1875.1.Doors.f k1923).Rests.f k1924) (z1903.1.Rests.f k1924)))))))) s) fun z1925 =>
                    .bind (ref09_Right (SAir.mk z1875.1.Mine z1875.1.Fans (Sq.mk (z1875.1.Doors.n + 1) (fun k1926 => (SDoor.mk (cond (Nat.blt k1926 z1875.1.Doors.n) (z1875.1.Doors.f k1926).Road z1903.1.Road) (cond (Nat.blt k1926 z1875.1.Doors.n) (z1875.1.Doors.f k1926).Other z1903.1.Other) (Sq.mk (cond (Nat.blt k1926 z1875.1.Doors.n) (z1875.1.Doors.f k1926).Rests.n z1903.1.Rests.n) (fun k1927 => (cond (Nat.blt k1926 z1875.1.Doors.n) ((z1875.1.Doors.f k1926).Rests.f k1927) (z1903.1.Rests.f k1927)))))))) s) fun z1928 =>
                    .ite (z1925 == z1928) (
                      .leaf true) (
                      .leaf false)) (
                    .leaf false)) (
                  .leaf false)) (
                .leaf false)) (
              .leaf false))) (
          .fail)) (
        .fail)) (
      .ite (z1876.1 == (3 : Int)) (
        .ite (decide ((z1875.2.1.Fans.n + 1) * 8 ≤ 140737488355328 ∧ (z1875.2.1.Fans.n + 1) ≤ 1099511627776)) (
          .bind (law09_small raw) fun z1929 =>
          .ite (!z1929) (
            .leaf true) (
            .bind (branch_Check z1875.1) fun z1930 =>
            .bind (ref09_Check z1875.1) fun z1931 =>
            .ite (z1930 == z1931) (
              .bind (branch_Check raw) fun z1932 =>
              .bind (ref09_Check raw) fun z1933 =>
              .ite (z1932 == z1933) (
                .bind (branch_Right z1875.1 (SSetting.mk (Sq.mk (z1875.2.1.Fans.n + 1) (fun k1934 => (cond (Nat.blt k1934 z1875.2.1.Fans.n) (z1875.2.1.Fans.f k1934) (0 : Int)))) z1875.2.1.Doors)) fun z1935 =>
                .bind (ref09_Right z1875.1 (SSetting.mk (Sq.mk (z1875.2.1.Fans.n + 1) (fun k1936 => (cond (Nat.blt k1936 z1875.2.1.Fans.n) (z1875.2.1.Fans.f k1936) (0 : Int)))) z1875.2.1.Doors)) fun z1937 =>
                .ite (z1935 == z1937) (
                  .bind (branch_Right raw s) fun z1938 =>
                  .bind (ref09_Right raw s) fun z1939 =>
                  .ite (z1938 == z1939) (
                    .bind (branch_Right z1875.1 s) fun z1940 =>
                    .bind (ref09_Right z1875.1 s) fun z1941 =>
                    .ite (z1940 == z1941) (
                      .leaf true) (
                      .leaf false)) (
                    .leaf false)) (
                  .leaf false)) (
                .leaf false)) (
              .leaf false))) (
          .fail)) (
        .ite (z1876.1 == (4 : Int)) (
          .ite (decide ((0 : Int) ≤ (1 : Int) ∧ (1 : Int) ≤ ((z1875.1.Mine.Places.n : Nat) : Int))) (
            .bind (law09_small raw) fun z1942 =>
            .ite (!z1942) (
              .leaf true) (
              .bind (branch_Check (SAir.mk (SMine.mk (Sq.mk (Int.toNat (1 : Int)) z1875.1.Mine.Places.f) z1875.1.Mine.Roads) z1875.1.Fans z1875.1.Doors)) fun z1943 =>
              .bind (ref09_Check (SAir.mk (SMine.mk (Sq.mk (Int.toNat (1 : Int)) z1875.1.Mine.Places.f) z1875.1.Mine.Roads) z1875.1.Fans z1875.1.Doors)) fun z1944 =>
              .ite (z1943 == z1944) (
                .bind (branch_Check raw) fun z1945 =>
                .bind (ref09_Check raw) fun z1946 =>
                .ite (z1945 == z1946) (
                  .bind (branch_Right (SAir.mk (SMine.mk (Sq.mk (Int.toNat (1 : Int)) z1875.1.Mine.Places.f) z1875.1.Mine.Roads) z1875.1.Fans z1875.1.Doors) z1875.2.1) fun z1947 =>
                  .bind (ref09_Right (SAir.mk (SMine.mk (Sq.mk (Int.toNat (1 : Int)) z1875.1.Mine.Places.f) z1875.1.Mine.Roads) z1875.1.Fans z1875.1.Doors) z1875.2.1) fun z1948 =>
                  .ite (z1947 == z1948) (
                    .bind (branch_Right raw s) fun z1949 =>
                    .bind (ref09_Right raw s) fun z1950 =>
                    .ite (z1949 == z1950) (
                      .bind (branch_Right (SAir.mk (SMine.mk (Sq.mk (Int.toNat (1 : Int)) z1875.1.Mine.Places.f) z1875.1.Mine.Roads) z1875.1.Fans z1875.1.Doors) s) fun z1951 =>
                      .bind (ref09_Right (SAir.mk (SMine.mk (Sq.mk (Int.toNat (1 : Int)) z1875.1.Mine.Places.f) z1875.1.Mine.Roads) z1875.1.Fans z1875.1.Doors) s) fun z1952 =>
                      .ite (z1951 == z1952) (
                        .leaf true) (
                        .leaf false)) (
                      .leaf false)) (
                    .leaf false)) (
                  .leaf false)) (
                .leaf false))) (
            .fail)) (
          .bind (law09_small raw) fun z1953 =>
          .ite (!z1953) (
            .leaf true) (
            .bind (branch_Check z1875.1) fun z1954 =>
            .bind (ref09_Check z1875.1) fun z1955 =>
            .ite (z1954 == z1955) (
              .bind (branch_Check raw) fun z1956 =>
              .bind (ref09_Check raw) fun z1957 =>
              .ite (z1956 == z1957) (
                .bind (branch_Right z1875.1 z1875.2.1) fun z1958 =>
                .bind (ref09_Right z1875.1 z1875.2.1) fun z1959 =>
                .ite (z1958 == z1959) (
                  .bind (branch_Right raw s) fun z1960 =>
                  .bind (ref09_Right raw s) fun z1961 =>
                  .ite (z1960 == z1961) (
                    .bind (branch_Right z1875.1 s) fun z1962 =>
                    .bind (ref09_Right z1875.1 s) fun z1963 =>
                    .ite (z1962 == z1963) (
                      .leaf true) (
                      .leaf false)) (
                    .leaf false)) (
                  .leaf false)) (
                .leaf false)) (
              .leaf false))))))
def law09_BranchChecks_av (r : Bool) : AV := .bool r
def law09_BranchChecks_outs (_ : List Blk) (_ : Bool) : List Blk := []
noncomputable def c_law09_BranchChecks : List AV → List Blk → Option Ans := told law09_BranchChecks_enc (fun p => (law09_BranchChecks_t p.1 p.2.1 p.2.2.1 p.2.2.2).get) law09_BranchChecks_av law09_BranchChecks_outs true (fun _ _ _ => ⟨rfl, fun b hb => by cases hb⟩)
noncomputable def law09_BranchChecks_env : Env := { envS (fun f => match f with
  | 10 => c_New
  | 11 => c_Codes_Made
  | 12 => c_Codes_Next
  | 13 => c_Codes_Curve
  | 15 => c_law09_small
  | 16 => awake?
  | 17 => c_branch_Check
  | 18 => c_ref09_Check
  | 19 => c_branch_Right
  | 20 => c_ref09_Right
  | 14 => c_Codes_Door
  | _ => fun _ _ => none) with pre := fun r => match r with | 13 => [.freeze 448] | _ => [], mm := some 0 }
theorem law09_BranchChecks_env_ok : ∀ f, Tells Try.prog f (law09_BranchChecks_env.fs f) := by
  intro f
  by_cases h0 : f = 10
  · subst h0; exact New_tells
  by_cases h1 : f = 11
  · subst h1; exact Codes_Made_tells
  by_cases h2 : f = 12
  · subst h2; exact Codes_Next_tells
  by_cases h3 : f = 13
  · subst h3; exact Codes_Curve_tells
  by_cases h4 : f = 15
  · subst h4; exact law09_small_tells
  by_cases h5 : f = 16
  · subst h5; exact tells_awake
  by_cases h6 : f = 17
  · subst h6; exact branch_Check_tells
  by_cases h7 : f = 18
  · subst h7; exact ref09_Check_tells
  by_cases h8 : f = 19
  · subst h8; exact branch_Right_tells
  by_cases h9 : f = 20
  · subst h9; exact ref09_Right_tells
  by_cases h10 : f = 14
  · subst h10; exact Codes_Door_tells
  have : law09_BranchChecks_env.fs f = fun _ _ => none := by
    unfold law09_BranchChecks_env envS
    dsimp only
    split
    · exact absurd rfl h0
    · exact absurd rfl h1
    · exact absurd rfl h2
    · exact absurd rfl h3
    · exact absurd rfl h4
    · exact absurd rfl h5
    · exact absurd rfl h6
    · exact absurd rfl h7
    · exact absurd rfl h8
    · exact absurd rfl h9
    · exact absurd rfl h10
    · rfl
  rw [this]
  exact Tells.none_ f
theorem law09_BranchChecks_run (p : (Sq Int) × SAir × SSetting × Int) : arun law09_BranchChecks_env Try.f3 (law09_BranchChecks_enc p).1 (law09_BranchChecks_enc p).2 = (law09_BranchChecks_t p.1 p.2.1 p.2.2.1 p.2.2.2).run fun r => some (law09_BranchChecks_av r, law09_BranchChecks_outs (law09_BranchChecks_enc p).2 r) := by kernel_rfl
attribute [local irreducible] arun in
theorem law09_BranchChecks_tells : Tells Try.prog 3 c_law09_BranchChecks :=
  told_tells (E := law09_BranchChecks_env) (enc := law09_BranchChecks_enc) (av := law09_BranchChecks_av) (outs := law09_BranchChecks_outs) (t := fun p : (Sq Int) × SAir × SSetting × Int => law09_BranchChecks_t p.1 p.2.1 p.2.2.1 p.2.2.2) (by kernel_rfl) law09_BranchChecks_env_ok Try.func3 (fun c _ => loops_none (E := { law09_BranchChecks_env with nt := Try.f3.ntmps }) (fun _ => rfl) c) law09_BranchChecks_run
noncomputable def law09_BranchChecks (codes : (Sq Int)) (raw : SAir) (s : SSetting) (by_ : Int) : Option (Bool) := gOfA law09_BranchChecks_enc (fun p => (law09_BranchChecks_t p.1 p.2.1 p.2.2.1 p.2.2.2).get) (law09_BranchChecks_encC codes raw s by_).1 (law09_BranchChecks_encC codes raw s by_).2
theorem law09_BranchChecks_eq (codes : (Sq Int)) (raw : SAir) (s : SSetting) (by_ : Int) : law09_BranchChecks codes raw s by_ = (law09_BranchChecks_t codes raw s by_).get := congrFun (gOfA_eq law09_BranchChecks_inj (fun p => (law09_BranchChecks_t p.1 p.2.1 p.2.2.1 p.2.2.2).get)) (codes, raw, s, by_)

/-! ### minecontrol/minecontrollaw09.BranchDrops -/
def law09_BranchDrops_encC (codes : (Sq Int)) (road : Int) (flow : Int) : List AV × List Blk := ([.slc 1 codes.n (fun k2838 => [.int .u8 (codes.f k2838)]), .int .i64 road, .int .i64 flow], [])
def law09_BranchDrops_enc (p : (Sq Int) × Int × Int) : List AV × List Blk := law09_BranchDrops_encC p.1 p.2.1 p.2.2
theorem law09_BranchDrops_inj (p q : (Sq Int) × Int × Int) (h : law09_BranchDrops_enc p = law09_BranchDrops_enc q) : p = q :=
  (Prod.ext (Sq.av_inj intE_u8 (a := p.1) (b := q.1) (congrArg (fun x : List AV × List Blk => x.1.getD 0 .undef) h)) (Prod.ext (show p.2.1 = q.2.1 from congrArg intA (congrArg (fun x : List AV × List Blk => x.1.getD 1 .undef) h)) (show p.2.2 = q.2.2 from congrArg intA (congrArg (fun x : List AV × List Blk => x.1.getD 2 .undef) h))))
def law09_BranchDrops_l6_s (p : (Int × Int × (Sq Int) × (Sq Int) × (Sq SPlace) × (Sq SRoad) × (Sq SFan) × (Sq SDoor) × (Sq Int) × (Sq Int) × (Sq Int)) × (Int)) : St := ⟨[(1, .int .i64 p.1.1), (8, .ptr 640 0), (9, .ptr 704 0), (11, .ptr 1216 0), (12, .int .i64 p.1.2.1), (39, .own 2240 0), (40, .int .i64 (5 : Int)), (41, .int .i64 p.2)], [(324, .row 0 1 p.1.2.2.1.n 3 (fun k2839 => [.int .i64 (p.1.2.2.1.f k2839)])), (325, .row 0 1 p.1.2.2.2.1.n 3 (fun k2840 => [.int .i64 (p.1.2.2.2.1.f k2840)])), (640, .var [.slc 2 p.1.2.2.2.2.1.n (fun k2841 => (SPlace.enc (p.1.2.2.2.2.1.f k2841))), .slc 10 p.1.2.2.2.2.2.1.n (fun k2842 => (SRoad.enc (p.1.2.2.2.2.2.1.f k2842))), .slc 4 p.1.2.2.2.2.2.2.1.n (fun k2843 => (SFan.enc (p.1.2.2.2.2.2.2.1.f k2843))), .slc 3 p.1.2.2.2.2.2.2.2.1.n (fun k2844 => (SDoor.enc (p.1.2.2.2.2.2.2.2.1.f k2844)))]), (704, .var [.own 324 0, .own 325 0]), (1152, .row 0 1 p.1.2.2.2.2.2.2.2.2.1.n 3 (fun k2845 => [.int .i64 (p.1.2.2.2.2.2.2.2.2.1.f k2845)])), (1153, .row 0 1 p.1.2.2.2.2.2.2.2.2.2.1.n 3 (fun k2846 => [.int .i64 (p.1.2.2.2.2.2.2.2.2.2.1.f k2846)])), (1216, .var [.own 1152 0, .own 1153 0]), (2240, .row 0 1 p.1.2.2.2.2.2.2.2.2.2.2.n 3 (fun k2847 => [.int .i64 (p.1.2.2.2.2.2.2.2.2.2.2.f k2847)]))], 2432⟩
theorem law09_BranchDrops_l6_inj (p q : (Int × Int × (Sq Int) × (Sq Int) × (Sq SPlace) × (Sq SRoad) × (Sq SFan) × (Sq SDoor) × (Sq Int) × (Sq Int) × (Sq Int)) × (Int)) (h : law09_BranchDrops_l6_s p = law09_BranchDrops_l6_s q) : p = q :=
  Prod.ext (Prod.ext (show p.1.1 = q.1.1 from congrArg intA (congrArg (fun x : St => aget x.tm 1) h)) (Prod.ext (show p.1.2.1 = q.1.2.1 from congrArg intA (congrArg (fun x : St => aget x.tm 12) h)) (Prod.ext (Sq.row_inj intE_i64 (a := p.1.2.2.1) (b := q.1.2.2.1) (congrArg (fun x : St => blkS x 324) h)) (Prod.ext (Sq.row_inj intE_i64 (a := p.1.2.2.2.1) (b := q.1.2.2.2.1) (congrArg (fun x : St => blkS x 325) h)) (Prod.ext (Sq.av_inj SPlace.inj (a := p.1.2.2.2.2.1) (b := q.1.2.2.2.2.1) (congrArg (fun x : St => cellS x 640 0) h)) (Prod.ext (Sq.av_inj SRoad.inj (a := p.1.2.2.2.2.2.1) (b := q.1.2.2.2.2.2.1) (congrArg (fun x : St => cellS x 640 1) h)) (Prod.ext (Sq.av_inj SFan.inj (a := p.1.2.2.2.2.2.2.1) (b := q.1.2.2.2.2.2.2.1) (congrArg (fun x : St => cellS x 640 2) h)) (Prod.ext (Sq.av_inj SDoor.inj (a := p.1.2.2.2.2.2.2.2.1) (b := q.1.2.2.2.2.2.2.2.1) (congrArg (fun x : St => cellS x 640 3) h)) (Prod.ext (Sq.row_inj intE_i64 (a := p.1.2.2.2.2.2.2.2.2.1) (b := q.1.2.2.2.2.2.2.2.2.1) (congrArg (fun x : St => blkS x 1152) h)) (Prod.ext (Sq.row_inj intE_i64 (a := p.1.2.2.2.2.2.2.2.2.2.1) (b := q.1.2.2.2.2.2.2.2.2.2.1) (congrArg (fun x : St => blkS x 1153) h)) (Sq.row_inj intE_i64 (a := p.1.2.2.2.2.2.2.2.2.2.2) (b := q.1.2.2.2.2.2.2.2.2.2.2) (congrArg (fun x : St => blkS x 2240) h)))))))))))) (show p.2 = q.2 from congrArg intA (congrArg (fun x : St => aget x.tm 41) h))
noncomputable def law09_BranchDrops_l6_step (road_6_0 : Int) (k_6_1 : Int) (v6_2 : (Sq Int)) (v6_3 : (Sq Int)) (v6_4 : (Sq SPlace)) (v6_5 : (Sq SRoad)) (v6_6 : (Sq SFan)) (v6_7 : (Sq SDoor)) (v6_8 : (Sq Int)) (v6_9 : (Sq Int)) (v6_10 : (Sq Int)) (v6_11 : Int) : DT (LR (Int) (Unit) (Unit)) :=
  .ite (decide (v6_11 < (5 : Int))) (
    .ite (decide ((0 : Int) ≤ v6_11 ∧ v6_11 < ((v6_10.n : Nat) : Int))) (
      .bind (branch_Drop (SAir.mk (SMine.mk v6_4 v6_5) v6_6 v6_7) (SSetting.mk v6_2 v6_3) k_6_1 (v6_10.f (Int.toNat v6_11))) fun z2120 =>
      .bind (ref09_Drop (SAir.mk (SMine.mk v6_4 v6_5) v6_6 v6_7) (SSetting.mk v6_2 v6_3) k_6_1 (v6_10.f (Int.toNat v6_11))) fun z2121 =>
      .ite (!((z2120.Low == z2121.Low) && ((z2120.High == z2121.High) && true))) (
        .leaf (.r ())) (
        .bind (branch_Drop (SAir.mk (SMine.mk v6_4 v6_5) v6_6 v6_7) (SSetting.mk v6_8 v6_9) k_6_1 (v6_10.f (Int.toNat v6_11))) fun z2122 =>
        .bind (ref09_Drop (SAir.mk (SMine.mk v6_4 v6_5) v6_6 v6_7) (SSetting.mk v6_8 v6_9) k_6_1 (v6_10.f (Int.toNat v6_11))) fun z2123 =>
        .ite (!((z2122.Low == z2123.Low) && ((z2122.High == z2123.High) && true))) (
          .leaf (.r ())) (
          .bind (branch_Drop (SAir.mk (SMine.mk v6_4 v6_5) v6_6 v6_7) (SSetting.mk v6_2 v6_3) road_6_0 (v6_10.f (Int.toNat v6_11))) fun z2124 =>
          .bind (ref09_Drop (SAir.mk (SMine.mk v6_4 v6_5) v6_6 v6_7) (SSetting.mk v6_2 v6_3) road_6_0 (v6_10.f (Int.toNat v6_11))) fun z2125 =>
          .ite (!((z2124.Low == z2125.Low) && ((z2124.High == z2125.High) && true))) (
            .leaf (.r ())) (
            .leaf (.next (wr (v6_11 + (1 : Int)))))))) (
      .fail)) (
    .leaf (.l ()))
def law09_BranchDrops_l6_el (x : St) (_ : Unit) : St := ⟨[(6, .undef)], [(324, blkS x 324), (325, blkS x 325), (640, blkS x 640), (704, .var [.own 324 0, .own 325 0]), (1152, blkS x 1152), (1153, blkS x 1153), (1216, .var [.own 1152 0, .own 1153 0]), (2240, blkS x 2240)], 2432⟩
def law09_BranchDrops_l6_er (x : St) (_ : Unit) : St := ⟨[(6, .bool false)], [(324, blkS x 324), (325, blkS x 325), (640, blkS x 640), (704, .var [.own 324 0, .own 325 0]), (1152, blkS x 1152), (1153, blkS x 1153), (1216, .var [.own 1152 0, .own 1153 0]), (2240, blkS x 2240)], 2432⟩
noncomputable def law09_BranchDrops_l6_f (p : (Int × Int × (Sq Int) × (Sq Int) × (Sq SPlace) × (Sq SRoad) × (Sq SFan) × (Sq SDoor) × (Sq Int) × (Sq Int) × (Sq Int)) × (Int)) : Option ((Unit) ⊕ (Unit)) := fixO (fun v : Int => law09_BranchDrops_l6_step p.1.1 p.1.2.1 p.1.2.2.1 p.1.2.2.2.1 p.1.2.2.2.2.1 p.1.2.2.2.2.2.1 p.1.2.2.2.2.2.2.1 p.1.2.2.2.2.2.2.2.1 p.1.2.2.2.2.2.2.2.2.1 p.1.2.2.2.2.2.2.2.2.2.1 p.1.2.2.2.2.2.2.2.2.2.2 v) p.2
noncomputable def law09_BranchDrops_l6_c : St → Option LRes := loopM law09_BranchDrops_l6_s law09_BranchDrops_l6_f false (.exit 0) law09_BranchDrops_l6_el .ret law09_BranchDrops_l6_er
noncomputable def law09_BranchDrops_l6 (road_6_0 : Int) (k_6_1 : Int) (v6_2 : (Sq Int)) (v6_3 : (Sq Int)) (v6_4 : (Sq SPlace)) (v6_5 : (Sq SRoad)) (v6_6 : (Sq SFan)) (v6_7 : (Sq SDoor)) (v6_8 : (Sq Int)) (v6_9 : (Sq Int)) (v6_10 : (Sq Int)) (v6_11 : Int) : Option ((Unit) ⊕ (Unit)) := gOfS law09_BranchDrops_l6_s law09_BranchDrops_l6_f (law09_BranchDrops_l6_s ((road_6_0, k_6_1, v6_2, v6_3, v6_4, v6_5, v6_6, v6_7, v6_8, v6_9, v6_10), v6_11))
theorem law09_BranchDrops_l6_eq (road_6_0 : Int) (k_6_1 : Int) (v6_2 : (Sq Int)) (v6_3 : (Sq Int)) (v6_4 : (Sq SPlace)) (v6_5 : (Sq SRoad)) (v6_6 : (Sq SFan)) (v6_7 : (Sq SDoor)) (v6_8 : (Sq Int)) (v6_9 : (Sq Int)) (v6_10 : (Sq Int)) (v6_11 : Int) : law09_BranchDrops_l6 road_6_0 k_6_1 v6_2 v6_3 v6_4 v6_5 v6_6 v6_7 v6_8 v6_9 v6_10 v6_11 = fixO (fun v : Int => law09_BranchDrops_l6_step road_6_0 k_6_1 v6_2 v6_3 v6_4 v6_5 v6_6 v6_7 v6_8 v6_9 v6_10 v) v6_11 := gOfS_eq law09_BranchDrops_l6_inj law09_BranchDrops_l6_f ((road_6_0, k_6_1, v6_2, v6_3, v6_4, v6_5, v6_6, v6_7, v6_8, v6_9, v6_10), v6_11)
noncomputable def law09_BranchDrops_t (codes : (Sq Int)) (road : Int) (flow : Int) : DT (Bool) :=
  .bind (New codes) fun z2112 =>
  .bind (Codes_Made z2112) fun z2113 =>
  .bind (Codes_Setting (SCodes.mk z2112.l_ z2113.2.2.2) z2113.1) fun z2114 =>
  .bind (Mod road (wr (((z2113.1.Mine.Roads.n : Nat) : Int) + (1 : Int)))) fun z2115 =>
  .bind (Mod flow (400 : Int)) fun z2116 =>
  .sum (law09_BranchDrops_l6 road z2115 z2113.2.1.Fans z2113.2.1.Doors z2113.1.Mine.Places z2113.1.Mine.Roads z2113.1.Fans z2113.1.Doors z2114.1.Fans z2114.1.Doors (Sq.mk 5 (fun k2117 => (cond (Nat.beq k2117 0) flow (cond (Nat.beq (k2117 - 1) 0) (wr (z2116 - (200 : Int))) (cond (Nat.beq ((k2117 - 1) - 1) 0) (1048577 : Int) (cond (Nat.beq (((k2117 - 1) - 1) - 1) 0) (-1048577 : Int) (1048578 : Int))))))) (0 : Int)) (fun _ =>
    .leaf true) (fun _ =>
    .leaf false)
def law09_BranchDrops_av (r : Bool) : AV := .bool r
def law09_BranchDrops_outs (_ : List Blk) (_ : Bool) : List Blk := []
noncomputable def c_law09_BranchDrops : List AV → List Blk → Option Ans := told law09_BranchDrops_enc (fun p => (law09_BranchDrops_t p.1 p.2.1 p.2.2).get) law09_BranchDrops_av law09_BranchDrops_outs true (fun _ _ _ => ⟨rfl, fun b hb => by cases hb⟩)
noncomputable def law09_BranchDrops_env : Env := { envS (fun f => match f with
  | 10 => c_New
  | 11 => c_Codes_Made
  | 21 => c_Codes_Setting
  | 22 => c_Mod
  | 23 => c_branch_Drop
  | 24 => c_ref09_Drop
  | 16 => awake?
  | _ => fun _ _ => none) (fun r => match r with | 6 => some ([1, 8, 9, 11, 12, 39, 40, 41], [6]) | _ => none) with loops := fun r => match r with | 6 => some law09_BranchDrops_l6_c | _ => none, pre := fun r => match r with | 3 => [.freeze 320, .freeze 321, .freeze 322, .freeze 323] | _ => [], gc := fun r => match r with | 6 => some [324, 325, 640, 704, 1152, 1153, 1216, 2240] | _ => none, mm := some 0 }
theorem law09_BranchDrops_env_ok : ∀ f, Tells Try.prog f (law09_BranchDrops_env.fs f) := by
  intro f
  by_cases h0 : f = 10
  · subst h0; exact New_tells
  by_cases h1 : f = 11
  · subst h1; exact Codes_Made_tells
  by_cases h2 : f = 21
  · subst h2; exact Codes_Setting_tells
  by_cases h3 : f = 22
  · subst h3; exact Mod_tells
  by_cases h4 : f = 23
  · subst h4; exact branch_Drop_tells
  by_cases h5 : f = 24
  · subst h5; exact ref09_Drop_tells
  by_cases h6 : f = 16
  · subst h6; exact tells_awake
  have : law09_BranchDrops_env.fs f = fun _ _ => none := by
    unfold law09_BranchDrops_env envS
    dsimp only
    split
    · exact absurd rfl h0
    · exact absurd rfl h1
    · exact absurd rfl h2
    · exact absurd rfl h3
    · exact absurd rfl h4
    · exact absurd rfl h5
    · exact absurd rfl h6
    · rfl
  rw [this]
  exact Tells.none_ f
noncomputable def law09_BranchDrops_e : Env := { law09_BranchDrops_env with nt := 84 }
noncomputable def law09_BranchDrops_l6_b : Code := loopOf 6 Try.f4
theorem law09_BranchDrops_l6_round {R : Type} (fx : Int × Int × (Sq Int) × (Sq Int) × (Sq SPlace) × (Sq SRoad) × (Sq SFan) × (Sq SDoor) × (Sq Int) × (Sq Int) × (Sq Int)) (v : Int) (N : Nat) (K : AX → St → Option R) : aloop (fun s j => aexec law09_BranchDrops_e law09_BranchDrops_l6_b s j) (headOf law09_BranchDrops_e law09_BranchDrops_l6_b 2432) (exitOf law09_BranchDrops_e law09_BranchDrops_l6_b 2432) (N + 1) (law09_BranchDrops_l6_s (fx, v)) K = (law09_BranchDrops_l6_step fx.1 fx.2.1 fx.2.2.1 fx.2.2.2.1 fx.2.2.2.2.1 fx.2.2.2.2.2.1 fx.2.2.2.2.2.2.1 fx.2.2.2.2.2.2.2.1 fx.2.2.2.2.2.2.2.2.1 fx.2.2.2.2.2.2.2.2.2.1 fx.2.2.2.2.2.2.2.2.2.2 v).run (LR.elim
    (fun v' => aloop (fun s j => aexec law09_BranchDrops_e law09_BranchDrops_l6_b s j) (headOf law09_BranchDrops_e law09_BranchDrops_l6_b 2432) (exitOf law09_BranchDrops_e law09_BranchDrops_l6_b 2432) N (law09_BranchDrops_l6_s (fx, v')) K)
    (fun a => K (.exit 0) (law09_BranchDrops_l6_el (law09_BranchDrops_l6_s (fx, v)) a))
    (fun a => K .ret (law09_BranchDrops_l6_er (law09_BranchDrops_l6_s (fx, v)) a))) := by kernel_rfl
theorem law09_BranchDrops_l6_tells : LoopTells law09_BranchDrops_e law09_BranchDrops_l6_b law09_BranchDrops_l6_c :=
  loopM_tells (s := law09_BranchDrops_l6_s) (stl := law09_BranchDrops_l6_el) (str := law09_BranchDrops_l6_er) (step := fun (fx : Int × Int × (Sq Int) × (Sq Int) × (Sq SPlace) × (Sq SRoad) × (Sq SFan) × (Sq SDoor) × (Sq Int) × (Sq Int) × (Sq Int)) (v : Int) => law09_BranchDrops_l6_step fx.1 fx.2.1 fx.2.2.1 fx.2.2.2.1 fx.2.2.2.2.1 fx.2.2.2.2.2.1 fx.2.2.2.2.2.2.1 fx.2.2.2.2.2.2.2.1 fx.2.2.2.2.2.2.2.2.1 fx.2.2.2.2.2.2.2.2.2.1 fx.2.2.2.2.2.2.2.2.2.2 v) (n := 2432) (fun _ => rfl) (fun _ _ _ _ => rfl) (fun _ _ _ _ => rfl) law09_BranchDrops_l6_round
theorem law09_BranchDrops_run (p : (Sq Int) × Int × Int) : arun law09_BranchDrops_env Try.f4 (law09_BranchDrops_enc p).1 (law09_BranchDrops_enc p).2 = (law09_BranchDrops_t p.1 p.2.1 p.2.2).run fun r => some (law09_BranchDrops_av r, law09_BranchDrops_outs (law09_BranchDrops_enc p).2 r) := by kernel_rfl
theorem law09_BranchDrops_loops : ∀ c, Try.f4.body = some c → LoopsOK { law09_BranchDrops_env with nt := Try.f4.ntmps } c := by
  intro c hc
  refine loops_of c fun c' hc' f hf => ?_
  have hb : loopsOf c = [law09_BranchDrops_l6_b] := by
    have : Try.f4.body.map loopsOf = some [law09_BranchDrops_l6_b] := by kernel_rfl
    rw [hc] at this
    injection this
  rw [hb] at hc'
  clear hb
  obtain rfl := List.mem_singleton.1 hc'
  have h6 : firstReg law09_BranchDrops_l6_b = 6 := by kernel_rfl
  rw [h6] at hf
  obtain rfl := Option.some.inj hf
  exact law09_BranchDrops_l6_tells
attribute [local irreducible] arun in
theorem law09_BranchDrops_tells : Tells Try.prog 4 c_law09_BranchDrops :=
  told_tells (E := law09_BranchDrops_env) (enc := law09_BranchDrops_enc) (av := law09_BranchDrops_av) (outs := law09_BranchDrops_outs) (t := fun p : (Sq Int) × Int × Int => law09_BranchDrops_t p.1 p.2.1 p.2.2) (by kernel_rfl) law09_BranchDrops_env_ok Try.func4 law09_BranchDrops_loops law09_BranchDrops_run
noncomputable def law09_BranchDrops (codes : (Sq Int)) (road : Int) (flow : Int) : Option (Bool) := gOfA law09_BranchDrops_enc (fun p => (law09_BranchDrops_t p.1 p.2.1 p.2.2).get) (law09_BranchDrops_encC codes road flow).1 (law09_BranchDrops_encC codes road flow).2
theorem law09_BranchDrops_eq (codes : (Sq Int)) (road : Int) (flow : Int) : law09_BranchDrops codes road flow = (law09_BranchDrops_t codes road flow).get := congrFun (gOfA_eq law09_BranchDrops_inj (fun p => (law09_BranchDrops_t p.1 p.2.1 p.2.2).get)) (codes, road, flow)

/-! ### minecontrol/minecontrollaw09.BranchFlows -/
def law09_BranchFlows_encC (codes : (Sq Int)) (road : Int) (pressure : Int) : List AV × List Blk := ([.slc 1 codes.n (fun k2894 => [.int .u8 (codes.f k2894)]), .int .i64 road, .int .i64 pressure], [])
def law09_BranchFlows_enc (p : (Sq Int) × Int × Int) : List AV × List Blk := law09_BranchFlows_encC p.1 p.2.1 p.2.2
theorem law09_BranchFlows_inj (p q : (Sq Int) × Int × Int) (h : law09_BranchFlows_enc p = law09_BranchFlows_enc q) : p = q :=
  (Prod.ext (Sq.av_inj intE_u8 (a := p.1) (b := q.1) (congrArg (fun x : List AV × List Blk => x.1.getD 0 .undef) h)) (Prod.ext (show p.2.1 = q.2.1 from congrArg intA (congrArg (fun x : List AV × List Blk => x.1.getD 1 .undef) h)) (show p.2.2 = q.2.2 from congrArg intA (congrArg (fun x : List AV × List Blk => x.1.getD 2 .undef) h))))
def law09_BranchFlows_l6_s (p : (Int × Int × (Sq Int) × (Sq Int) × (Sq SPlace) × (Sq SRoad) × (Sq SFan) × (Sq SDoor) × (Sq Int) × (Sq Int) × (Sq Int)) × (Int)) : St := ⟨[(1, .int .i64 p.1.1), (8, .ptr 640 0), (9, .ptr 704 0), (11, .ptr 1216 0), (12, .int .i64 p.1.2.1), (39, .own 2240 0), (40, .int .i64 (4 : Int)), (41, .int .i64 p.2)], [(324, .row 0 1 p.1.2.2.1.n 3 (fun k2895 => [.int .i64 (p.1.2.2.1.f k2895)])), (325, .row 0 1 p.1.2.2.2.1.n 3 (fun k2896 => [.int .i64 (p.1.2.2.2.1.f k2896)])), (640, .var [.slc 2 p.1.2.2.2.2.1.n (fun k2897 => (SPlace.enc (p.1.2.2.2.2.1.f k2897))), .slc 10 p.1.2.2.2.2.2.1.n (fun k2898 => (SRoad.enc (p.1.2.2.2.2.2.1.f k2898))), .slc 4 p.1.2.2.2.2.2.2.1.n (fun k2899 => (SFan.enc (p.1.2.2.2.2.2.2.1.f k2899))), .slc 3 p.1.2.2.2.2.2.2.2.1.n (fun k2900 => (SDoor.enc (p.1.2.2.2.2.2.2.2.1.f k2900)))]), (704, .var [.own 324 0, .own 325 0]), (1152, .row 0 1 p.1.2.2.2.2.2.2.2.2.1.n 3 (fun k2901 => [.int .i64 (p.1.2.2.2.2.2.2.2.2.1.f k2901)])), (1153, .row 0 1 p.1.2.2.2.2.2.2.2.2.2.1.n 3 (fun k2902 => [.int .i64 (p.1.2.2.2.2.2.2.2.2.2.1.f k2902)])), (1216, .var [.own 1152 0, .own 1153 0]), (2240, .row 0 1 p.1.2.2.2.2.2.2.2.2.2.2.n 3 (fun k2903 => [.int .i64 (p.1.2.2.2.2.2.2.2.2.2.2.f k2903)]))], 2432⟩
theorem law09_BranchFlows_l6_inj (p q : (Int × Int × (Sq Int) × (Sq Int) × (Sq SPlace) × (Sq SRoad) × (Sq SFan) × (Sq SDoor) × (Sq Int) × (Sq Int) × (Sq Int)) × (Int)) (h : law09_BranchFlows_l6_s p = law09_BranchFlows_l6_s q) : p = q :=
  Prod.ext (Prod.ext (show p.1.1 = q.1.1 from congrArg intA (congrArg (fun x : St => aget x.tm 1) h)) (Prod.ext (show p.1.2.1 = q.1.2.1 from congrArg intA (congrArg (fun x : St => aget x.tm 12) h)) (Prod.ext (Sq.row_inj intE_i64 (a := p.1.2.2.1) (b := q.1.2.2.1) (congrArg (fun x : St => blkS x 324) h)) (Prod.ext (Sq.row_inj intE_i64 (a := p.1.2.2.2.1) (b := q.1.2.2.2.1) (congrArg (fun x : St => blkS x 325) h)) (Prod.ext (Sq.av_inj SPlace.inj (a := p.1.2.2.2.2.1) (b := q.1.2.2.2.2.1) (congrArg (fun x : St => cellS x 640 0) h)) (Prod.ext (Sq.av_inj SRoad.inj (a := p.1.2.2.2.2.2.1) (b := q.1.2.2.2.2.2.1) (congrArg (fun x : St => cellS x 640 1) h)) (Prod.ext (Sq.av_inj SFan.inj (a := p.1.2.2.2.2.2.2.1) (b := q.1.2.2.2.2.2.2.1) (congrArg (fun x : St => cellS x 640 2) h)) (Prod.ext (Sq.av_inj SDoor.inj (a := p.1.2.2.2.2.2.2.2.1) (b := q.1.2.2.2.2.2.2.2.1) (congrArg (fun x : St => cellS x 640 3) h)) (Prod.ext (Sq.row_inj intE_i64 (a := p.1.2.2.2.2.2.2.2.2.1) (b := q.1.2.2.2.2.2.2.2.2.1) (congrArg (fun x : St => blkS x 1152) h)) (Prod.ext (Sq.row_inj intE_i64 (a := p.1.2.2.2.2.2.2.2.2.2.1) (b := q.1.2.2.2.2.2.2.2.2.2.1) (congrArg (fun x : St => blkS x 1153) h)) (Sq.row_inj intE_i64 (a := p.1.2.2.2.2.2.2.2.2.2.2) (b := q.1.2.2.2.2.2.2.2.2.2.2) (congrArg (fun x : St => blkS x 2240) h)))))))))))) (show p.2 = q.2 from congrArg intA (congrArg (fun x : St => aget x.tm 41) h))
noncomputable def law09_BranchFlows_l6_step (_road_6_0 : Int) (k_6_1 : Int) (v6_2 : (Sq Int)) (v6_3 : (Sq Int)) (v6_4 : (Sq SPlace)) (v6_5 : (Sq SRoad)) (v6_6 : (Sq SFan)) (v6_7 : (Sq SDoor)) (v6_8 : (Sq Int)) (v6_9 : (Sq Int)) (v6_10 : (Sq Int)) (v6_11 : Int) : DT (LR (Int) (Unit) (Unit)) :=
  .ite (decide (v6_11 < (4 : Int))) (
    .ite (decide ((0 : Int) ≤ v6_11 ∧ v6_11 < ((v6_10.n : Nat) : Int))) (
      .bind (branch_Flow (SAir.mk (SMine.mk v6_4 v6_5) v6_6 v6_7) (SSetting.mk v6_2 v6_3) k_6_1 (v6_10.f (Int.toNat v6_11))) fun z2205 =>
      .bind (ref09_Flow (SAir.mk (SMine.mk v6_4 v6_5) v6_6 v6_7) (SSetting.mk v6_2 v6_3) k_6_1 (v6_10.f (Int.toNat v6_11))) fun z2206 =>
      .ite (!((z2205.Low == z2206.Low) && ((z2205.High == z2206.High) && true))) (
        .leaf (.r ())) (
        .bind (branch_Flow (SAir.mk (SMine.mk v6_4 v6_5) v6_6 v6_7) (SSetting.mk v6_8 v6_9) k_6_1 (v6_10.f (Int.toNat v6_11))) fun z2207 =>
        .bind (ref09_Flow (SAir.mk (SMine.mk v6_4 v6_5) v6_6 v6_7) (SSetting.mk v6_8 v6_9) k_6_1 (v6_10.f (Int.toNat v6_11))) fun z2208 =>
        .ite (!((z2207.Low == z2208.Low) && ((z2207.High == z2208.High) && true))) (
          .leaf (.r ())) (
          .leaf (.next (wr (v6_11 + (1 : Int))))))) (
      .fail)) (
    .leaf (.l ()))
def law09_BranchFlows_l6_el (x : St) (_ : Unit) : St := ⟨[(1, aget x.tm 1), (6, .undef), (8, .ptr 640 0), (9, .ptr 704 0)], [(324, blkS x 324), (325, blkS x 325), (640, blkS x 640), (704, .var [.own 324 0, .own 325 0]), (1152, blkS x 1152), (1153, blkS x 1153), (1216, .var [.own 1152 0, .own 1153 0]), (2240, blkS x 2240)], 2432⟩
def law09_BranchFlows_l6_er (x : St) (_ : Unit) : St := ⟨[(1, aget x.tm 1), (6, .bool false), (8, .ptr 640 0), (9, .ptr 704 0)], [(324, blkS x 324), (325, blkS x 325), (640, blkS x 640), (704, .var [.own 324 0, .own 325 0]), (1152, blkS x 1152), (1153, blkS x 1153), (1216, .var [.own 1152 0, .own 1153 0]), (2240, blkS x 2240)], 2432⟩
noncomputable def law09_BranchFlows_l6_f (p : (Int × Int × (Sq Int) × (Sq Int) × (Sq SPlace) × (Sq SRoad) × (Sq SFan) × (Sq SDoor) × (Sq Int) × (Sq Int) × (Sq Int)) × (Int)) : Option ((Unit) ⊕ (Unit)) := fixO (fun v : Int => law09_BranchFlows_l6_step p.1.1 p.1.2.1 p.1.2.2.1 p.1.2.2.2.1 p.1.2.2.2.2.1 p.1.2.2.2.2.2.1 p.1.2.2.2.2.2.2.1 p.1.2.2.2.2.2.2.2.1 p.1.2.2.2.2.2.2.2.2.1 p.1.2.2.2.2.2.2.2.2.2.1 p.1.2.2.2.2.2.2.2.2.2.2 v) p.2
noncomputable def law09_BranchFlows_l6_c : St → Option LRes := loopM law09_BranchFlows_l6_s law09_BranchFlows_l6_f false (.exit 0) law09_BranchFlows_l6_el .ret law09_BranchFlows_l6_er
noncomputable def law09_BranchFlows_l6 (road_6_0 : Int) (k_6_1 : Int) (v6_2 : (Sq Int)) (v6_3 : (Sq Int)) (v6_4 : (Sq SPlace)) (v6_5 : (Sq SRoad)) (v6_6 : (Sq SFan)) (v6_7 : (Sq SDoor)) (v6_8 : (Sq Int)) (v6_9 : (Sq Int)) (v6_10 : (Sq Int)) (v6_11 : Int) : Option ((Unit) ⊕ (Unit)) := gOfS law09_BranchFlows_l6_s law09_BranchFlows_l6_f (law09_BranchFlows_l6_s ((road_6_0, k_6_1, v6_2, v6_3, v6_4, v6_5, v6_6, v6_7, v6_8, v6_9, v6_10), v6_11))
theorem law09_BranchFlows_l6_eq (road_6_0 : Int) (k_6_1 : Int) (v6_2 : (Sq Int)) (v6_3 : (Sq Int)) (v6_4 : (Sq SPlace)) (v6_5 : (Sq SRoad)) (v6_6 : (Sq SFan)) (v6_7 : (Sq SDoor)) (v6_8 : (Sq Int)) (v6_9 : (Sq Int)) (v6_10 : (Sq Int)) (v6_11 : Int) : law09_BranchFlows_l6 road_6_0 k_6_1 v6_2 v6_3 v6_4 v6_5 v6_6 v6_7 v6_8 v6_9 v6_10 v6_11 = fixO (fun v : Int => law09_BranchFlows_l6_step road_6_0 k_6_1 v6_2 v6_3 v6_4 v6_5 v6_6 v6_7 v6_8 v6_9 v6_10 v) v6_11 := gOfS_eq law09_BranchFlows_l6_inj law09_BranchFlows_l6_f ((road_6_0, k_6_1, v6_2, v6_3, v6_4, v6_5, v6_6, v6_7, v6_8, v6_9, v6_10), v6_11)
noncomputable def law09_BranchFlows_t (codes : (Sq Int)) (road : Int) (pressure : Int) : DT (Bool) :=
  .bind (New codes) fun z2196 =>
  .bind (Codes_Made z2196) fun z2197 =>
  .bind (Codes_Setting (SCodes.mk z2196.l_ z2197.2.2.2) z2197.1) fun z2198 =>
  .bind (Mod road (wr (((z2197.1.Mine.Roads.n : Nat) : Int) + (1 : Int)))) fun z2199 =>
  .bind (Mod pressure (100000 : Int)) fun z2200 =>
  .bind (Mod pressure (281474976710657 : Int)) fun z2201 =>
  .sum (law09_BranchFlows_l6 road z2199 z2197.2.1.Fans z2197.2.1.Doors z2197.1.Mine.Places z2197.1.Mine.Roads z2197.1.Fans z2197.1.Doors z2198.1.Fans z2198.1.Doors (Sq.mk 4 (fun k2202 => (cond (Nat.beq k2202 0) (wr (z2200 - (50000 : Int))) (cond (Nat.beq (k2202 - 1) 0) (wr (z2201 - (140737488355328 : Int))) (cond (Nat.beq ((k2202 - 1) - 1) 0) (140737488355328 : Int) (-140737488355328 : Int)))))) (0 : Int)) (fun _ =>
    .bind (branch_Flow z2197.1 z2197.2.1 road (0 : Int)) fun z2210 =>
    .bind (ref09_Flow z2197.1 z2197.2.1 road (0 : Int)) fun z2211 =>
    .ite ((z2210.Low == z2211.Low) && ((z2210.High == z2211.High) && true)) (
      .leaf true) (
      .leaf false)) (fun _ =>
    .leaf false)
def law09_BranchFlows_av (r : Bool) : AV := .bool r
def law09_BranchFlows_outs (_ : List Blk) (_ : Bool) : List Blk := []
noncomputable def c_law09_BranchFlows : List AV → List Blk → Option Ans := told law09_BranchFlows_enc (fun p => (law09_BranchFlows_t p.1 p.2.1 p.2.2).get) law09_BranchFlows_av law09_BranchFlows_outs true (fun _ _ _ => ⟨rfl, fun b hb => by cases hb⟩)
noncomputable def law09_BranchFlows_env : Env := { envS (fun f => match f with
  | 10 => c_New
  | 11 => c_Codes_Made
  | 21 => c_Codes_Setting
  | 22 => c_Mod
  | 25 => c_branch_Flow
  | 26 => c_ref09_Flow
  | 16 => awake?
  | _ => fun _ _ => none) (fun r => match r with | 6 => some ([1, 8, 9, 11, 12, 39, 40, 41], [1, 6, 8, 9]) | _ => none) with loops := fun r => match r with | 6 => some law09_BranchFlows_l6_c | _ => none, pre := fun r => match r with | 3 => [.freeze 320, .freeze 321, .freeze 322, .freeze 323] | _ => [], gc := fun r => match r with | 6 => some [324, 325, 640, 704, 1152, 1153, 1216, 2240] | _ => none, mm := some 0 }
theorem law09_BranchFlows_env_ok : ∀ f, Tells Try.prog f (law09_BranchFlows_env.fs f) := by
  intro f
  by_cases h0 : f = 10
  · subst h0; exact New_tells
  by_cases h1 : f = 11
  · subst h1; exact Codes_Made_tells
  by_cases h2 : f = 21
  · subst h2; exact Codes_Setting_tells
  by_cases h3 : f = 22
  · subst h3; exact Mod_tells
  by_cases h4 : f = 25
  · subst h4; exact branch_Flow_tells
  by_cases h5 : f = 26
  · subst h5; exact ref09_Flow_tells
  by_cases h6 : f = 16
  · subst h6; exact tells_awake
  have : law09_BranchFlows_env.fs f = fun _ _ => none := by
    unfold law09_BranchFlows_env envS
    dsimp only
    split
    · exact absurd rfl h0
    · exact absurd rfl h1
    · exact absurd rfl h2
    · exact absurd rfl h3
    · exact absurd rfl h4
    · exact absurd rfl h5
    · exact absurd rfl h6
    · rfl
  rw [this]
  exact Tells.none_ f
noncomputable def law09_BranchFlows_e : Env := { law09_BranchFlows_env with nt := 82 }
noncomputable def law09_BranchFlows_l6_b : Code := loopOf 6 Try.f5
theorem law09_BranchFlows_l6_round {R : Type} (fx : Int × Int × (Sq Int) × (Sq Int) × (Sq SPlace) × (Sq SRoad) × (Sq SFan) × (Sq SDoor) × (Sq Int) × (Sq Int) × (Sq Int)) (v : Int) (N : Nat) (K : AX → St → Option R) : aloop (fun s j => aexec law09_BranchFlows_e law09_BranchFlows_l6_b s j) (headOf law09_BranchFlows_e law09_BranchFlows_l6_b 2432) (exitOf law09_BranchFlows_e law09_BranchFlows_l6_b 2432) (N + 1) (law09_BranchFlows_l6_s (fx, v)) K = (law09_BranchFlows_l6_step fx.1 fx.2.1 fx.2.2.1 fx.2.2.2.1 fx.2.2.2.2.1 fx.2.2.2.2.2.1 fx.2.2.2.2.2.2.1 fx.2.2.2.2.2.2.2.1 fx.2.2.2.2.2.2.2.2.1 fx.2.2.2.2.2.2.2.2.2.1 fx.2.2.2.2.2.2.2.2.2.2 v).run (LR.elim
    (fun v' => aloop (fun s j => aexec law09_BranchFlows_e law09_BranchFlows_l6_b s j) (headOf law09_BranchFlows_e law09_BranchFlows_l6_b 2432) (exitOf law09_BranchFlows_e law09_BranchFlows_l6_b 2432) N (law09_BranchFlows_l6_s (fx, v')) K)
    (fun a => K (.exit 0) (law09_BranchFlows_l6_el (law09_BranchFlows_l6_s (fx, v)) a))
    (fun a => K .ret (law09_BranchFlows_l6_er (law09_BranchFlows_l6_s (fx, v)) a))) := by kernel_rfl
theorem law09_BranchFlows_l6_tells : LoopTells law09_BranchFlows_e law09_BranchFlows_l6_b law09_BranchFlows_l6_c :=
  loopM_tells (s := law09_BranchFlows_l6_s) (stl := law09_BranchFlows_l6_el) (str := law09_BranchFlows_l6_er) (step := fun (fx : Int × Int × (Sq Int) × (Sq Int) × (Sq SPlace) × (Sq SRoad) × (Sq SFan) × (Sq SDoor) × (Sq Int) × (Sq Int) × (Sq Int)) (v : Int) => law09_BranchFlows_l6_step fx.1 fx.2.1 fx.2.2.1 fx.2.2.2.1 fx.2.2.2.2.1 fx.2.2.2.2.2.1 fx.2.2.2.2.2.2.1 fx.2.2.2.2.2.2.2.1 fx.2.2.2.2.2.2.2.2.1 fx.2.2.2.2.2.2.2.2.2.1 fx.2.2.2.2.2.2.2.2.2.2 v) (n := 2432) (fun _ => rfl) (fun _ _ _ _ => rfl) (fun _ _ _ _ => rfl) law09_BranchFlows_l6_round
theorem law09_BranchFlows_run (p : (Sq Int) × Int × Int) : arun law09_BranchFlows_env Try.f5 (law09_BranchFlows_enc p).1 (law09_BranchFlows_enc p).2 = (law09_BranchFlows_t p.1 p.2.1 p.2.2).run fun r => some (law09_BranchFlows_av r, law09_BranchFlows_outs (law09_BranchFlows_enc p).2 r) := by kernel_rfl
theorem law09_BranchFlows_loops : ∀ c, Try.f5.body = some c → LoopsOK { law09_BranchFlows_env with nt := Try.f5.ntmps } c := by
  intro c hc
  refine loops_of c fun c' hc' f hf => ?_
  have hb : loopsOf c = [law09_BranchFlows_l6_b] := by
    have : Try.f5.body.map loopsOf = some [law09_BranchFlows_l6_b] := by kernel_rfl
    rw [hc] at this
    injection this
  rw [hb] at hc'
  clear hb
  obtain rfl := List.mem_singleton.1 hc'
  have h6 : firstReg law09_BranchFlows_l6_b = 6 := by kernel_rfl
  rw [h6] at hf
  obtain rfl := Option.some.inj hf
  exact law09_BranchFlows_l6_tells
attribute [local irreducible] arun in
theorem law09_BranchFlows_tells : Tells Try.prog 5 c_law09_BranchFlows :=
  told_tells (E := law09_BranchFlows_env) (enc := law09_BranchFlows_enc) (av := law09_BranchFlows_av) (outs := law09_BranchFlows_outs) (t := fun p : (Sq Int) × Int × Int => law09_BranchFlows_t p.1 p.2.1 p.2.2) (by kernel_rfl) law09_BranchFlows_env_ok Try.func5 law09_BranchFlows_loops law09_BranchFlows_run
noncomputable def law09_BranchFlows (codes : (Sq Int)) (road : Int) (pressure : Int) : Option (Bool) := gOfA law09_BranchFlows_enc (fun p => (law09_BranchFlows_t p.1 p.2.1 p.2.2).get) (law09_BranchFlows_encC codes road pressure).1 (law09_BranchFlows_encC codes road pressure).2
theorem law09_BranchFlows_eq (codes : (Sq Int)) (road : Int) (pressure : Int) : law09_BranchFlows codes road pressure = (law09_BranchFlows_t codes road pressure).get := congrFun (gOfA_eq law09_BranchFlows_inj (fun p => (law09_BranchFlows_t p.1 p.2.1 p.2.2).get)) (codes, road, pressure)

/-! ### minecontrol/minecontrollaw09.BranchFits -/
def law09_BranchFits_encC (codes : (Sq Int)) (raw : SState) (at__ : Int) (by_ : Int) : List AV × List Blk := ([.slc 1 codes.n (fun k2989 => [.int .u8 (codes.f k2989)]), .agg [.slc 1 raw.Pressures.n (fun k2990 => [.int .i64 (raw.Pressures.f k2990)]), .slc 1 raw.Flows.n (fun k2991 => [.int .i64 (raw.Flows.f k2991)])], .int .i64 at__, .int .i64 by_], [])
def law09_BranchFits_enc (p : (Sq Int) × SState × Int × Int) : List AV × List Blk := law09_BranchFits_encC p.1 p.2.1 p.2.2.1 p.2.2.2
theorem law09_BranchFits_inj (p q : (Sq Int) × SState × Int × Int) (h : law09_BranchFits_enc p = law09_BranchFits_enc q) : p = q :=
  (Prod.ext (Sq.av_inj intE_u8 (a := p.1) (b := q.1) (congrArg (fun x : List AV × List Blk => x.1.getD 0 .undef) h)) (Prod.ext (SState.ext2 (Sq.av_inj intE_i64 (a := p.2.1.Pressures) (b := q.2.1.Pressures) (congrArg (fun x : List AV × List Blk => argC x.1 1 0) h)) (Sq.av_inj intE_i64 (a := p.2.1.Flows) (b := q.2.1.Flows) (congrArg (fun x : List AV × List Blk => argC x.1 1 1) h))) (Prod.ext (show p.2.2.1 = q.2.2.1 from congrArg intA (congrArg (fun x : List AV × List Blk => x.1.getD 2 .undef) h)) (show p.2.2.2 = q.2.2.2 from congrArg intA (congrArg (fun x : List AV × List Blk => x.1.getD 3 .undef) h)))))
noncomputable def law09_BranchFits_t (codes : (Sq Int)) (raw : SState) (at__ : Int) (by_ : Int) : DT (Bool) :=
  .bind (New codes) fun z2213 =>
  .bind (Codes_Made z2213) fun z2214 =>
  .bind (branch_Fits z2214.1 z2214.2.1 z2214.2.2.1) fun z2263 =>
  .ite (z2263 != (0 : Int)) (
    .leaf false) (
    .ite (decide (z2214.2.2.1.Pressures.n * 8 ≤ 140737488355328 ∧ z2214.2.2.1.Pressures.n ≤ 1099511627776)) (
      .ite (decide (z2214.2.2.1.Flows.n * 8 ≤ 140737488355328 ∧ z2214.2.2.1.Flows.n ≤ 1099511627776)) (
        .bind (Mod at__ (wr (((z2214.2.2.1.Pressures.n : Nat) : Int) + ((z2214.2.2.1.Flows.n : Nat) : Int)))) fun z2264 =>
        .ite (decide (z2264 < ((z2214.2.2.1.Pressures.n : Nat) : Int))) (
          .ite (decide ((0 : Int) ≤ z2264 ∧ z2264 < ((z2214.2.2.1.Pressures.n : Nat) : Int))) (
            .bind (Mod by_ (200 : Int)) fun z2265 =>
            .ite (decide ((0 : Int) ≤ z2264 ∧ z2264 < ((z2214.2.2.1.Pressures.n : Nat) : Int))) (
              .bind (branch_Fits z2214.1 z2214.2.1 (SState.mk (Sq.mk z2214.2.2.1.Pressures.n (fun k2266 => (cond (Nat.beq k2266 (Int.toNat z2264)) (wr ((z2214.2.2.1.Pressures.f (Int.toNat z2264)) + (wr (z2265 - (100 : Int))))) (z2214.2.2.1.Pressures.f k2266)))) z2214.2.2.1.Flows)) fun z2267 =>
              .bind (ref09_Fits z2214.1 z2214.2.1 (SState.mk (Sq.mk z2214.2.2.1.Pressures.n (fun k2268 => (cond (Nat.beq k2268 (Int.toNat z2264)) (wr ((z2214.2.2.1.Pressures.f (Int.toNat z2264)) + (wr (z2265 - (100 : Int))))) (z2214.2.2.1.Pressures.f k2268)))) z2214.2.2.1.Flows)) fun z2353 =>
              .ite (z2267 == z2353) (
                .bind (branch_Fits z2214.1 z2214.2.1 raw) fun z2354 =>
                .bind (ref09_Fits z2214.1 z2214.2.1 raw) fun z2355 =>
                .ite (z2354 == z2355) (
                  .leaf true) (
                  .leaf false)) (
                .leaf false)) (
              .fail)) (
            .fail)) (
          .ite (decide ((0 : Int) ≤ (wr (z2264 - ((z2214.2.2.1.Pressures.n : Nat) : Int))) ∧ (wr (z2264 - ((z2214.2.2.1.Pressures.n : Nat) : Int))) < ((z2214.2.2.1.Flows.n : Nat) : Int))) (
            .bind (Mod by_ (5 : Int)) fun z2356 =>
            .ite (decide ((0 : Int) ≤ (wr (z2264 - ((z2214.2.2.1.Pressures.n : Nat) : Int))) ∧ (wr (z2264 - ((z2214.2.2.1.Pressures.n : Nat) : Int))) < ((z2214.2.2.1.Flows.n : Nat) : Int))) (
              .bind (branch_Fits z2214.1 z2214.2.1 (SState.mk z2214.2.2.1.Pressures (Sq.mk z2214.2.2.1.Flows.n (fun k2357 => (cond (Nat.beq k2357 (Int.toNat (wr (z2264 - ((z2214.2.2.1.Pressures.n : Nat) : Int))))) (wr ((z2214.2.2.1.Flows.f (Int.toNat (wr (z2264 - ((z2214.2.2.1.Pressures.n : Nat) : Int))))) + (wr (z2356 - (2 : Int))))) (z2214.2.2.1.Flows.f k2357)))))) fun z2358 =>
              .bind (ref09_Fits z2214.1 z2214.2.1 (SState.mk z2214.2.2.1.Pressures (Sq.mk z2214.2.2.1.Flows.n (fun k2359 => (cond (Nat.beq k2359 (Int.toNat (wr (z2264 - ((z2214.2.2.1.Pressures.n : Nat) : Int))))) (wr ((z2214.2.2.1.Flows.f (Int.toNat (wr (z2264 - ((z2214.2.2.1.Pressures.n : Nat) : Int))))) + (wr (z2356 - (2 : Int))))) (z2214.2.2.1.Flows.f k2359)))))) fun z2360 =>
              .ite (z2358 == z2360) (
                .bind (branch_Fits z2214.1 z2214.2.1 raw) fun z2361 =>
                .bind (ref09_Fits z2214.1 z2214.2.1 raw) fun z2362 =>
                .ite (z2361 == z2362) (
                  .leaf true) (
                  .leaf false)) (
                .leaf false)) (
              .fail)) (
            .fail))) (
        .fail)) (
      .fail))
def law09_BranchFits_av (r : Bool) : AV := .bool r
def law09_BranchFits_outs (_ : List Blk) (_ : Bool) : List Blk := []
noncomputable def c_law09_BranchFits : List AV → List Blk → Option Ans := told law09_BranchFits_enc (fun p => (law09_BranchFits_t p.1 p.2.1 p.2.2.1 p.2.2.2).get) law09_BranchFits_av law09_BranchFits_outs true (fun _ _ _ => ⟨rfl, fun b hb => by cases hb⟩)
noncomputable def law09_BranchFits_env : Env := { envS (fun f => match f with
  | 10 => c_New
  | 11 => c_Codes_Made
  | 27 => c_branch_Fits
  | 22 => c_Mod
  | 28 => c_ref09_Fits
  | 16 => awake?
  | _ => fun _ _ => none) with mm := some 0 }
theorem law09_BranchFits_env_ok : ∀ f, Tells Try.prog f (law09_BranchFits_env.fs f) := by
  intro f
  by_cases h0 : f = 10
  · subst h0; exact New_tells
  by_cases h1 : f = 11
  · subst h1; exact Codes_Made_tells
  by_cases h2 : f = 27
  · subst h2; exact branch_Fits_tells
  by_cases h3 : f = 22
  · subst h3; exact Mod_tells
  by_cases h4 : f = 28
  · subst h4; exact ref09_Fits_tells
  by_cases h5 : f = 16
  · subst h5; exact tells_awake
  have : law09_BranchFits_env.fs f = fun _ _ => none := by
    unfold law09_BranchFits_env envS
    dsimp only
    split
    · exact absurd rfl h0
    · exact absurd rfl h1
    · exact absurd rfl h2
    · exact absurd rfl h3
    · exact absurd rfl h4
    · exact absurd rfl h5
    · rfl
  rw [this]
  exact Tells.none_ f
theorem law09_BranchFits_run (p : (Sq Int) × SState × Int × Int) : arun law09_BranchFits_env Try.f6 (law09_BranchFits_enc p).1 (law09_BranchFits_enc p).2 = (law09_BranchFits_t p.1 p.2.1 p.2.2.1 p.2.2.2).run fun r => some (law09_BranchFits_av r, law09_BranchFits_outs (law09_BranchFits_enc p).2 r) := by kernel_rfl
attribute [local irreducible] arun in
theorem law09_BranchFits_tells : Tells Try.prog 6 c_law09_BranchFits :=
  told_tells (E := law09_BranchFits_env) (enc := law09_BranchFits_enc) (av := law09_BranchFits_av) (outs := law09_BranchFits_outs) (t := fun p : (Sq Int) × SState × Int × Int => law09_BranchFits_t p.1 p.2.1 p.2.2.1 p.2.2.2) (by kernel_rfl) law09_BranchFits_env_ok Try.func6 (fun c _ => loops_none (E := { law09_BranchFits_env with nt := Try.f6.ntmps }) (fun _ => rfl) c) law09_BranchFits_run
noncomputable def law09_BranchFits (codes : (Sq Int)) (raw : SState) (at__ : Int) (by_ : Int) : Option (Bool) := gOfA law09_BranchFits_enc (fun p => (law09_BranchFits_t p.1 p.2.1 p.2.2.1 p.2.2.2).get) (law09_BranchFits_encC codes raw at__ by_).1 (law09_BranchFits_encC codes raw at__ by_).2
theorem law09_BranchFits_eq (codes : (Sq Int)) (raw : SState) (at__ : Int) (by_ : Int) : law09_BranchFits codes raw at__ by_ = (law09_BranchFits_t codes raw at__ by_).get := congrFun (gOfA_eq law09_BranchFits_inj (fun p => (law09_BranchFits_t p.1 p.2.1 p.2.2.1 p.2.2.2).get)) (codes, raw, at__, by_)

/-! ### minecontrol/minecontrollaw09.BranchRises -/
def law09_BranchRises_encC (codes : (Sq Int)) (road : Int) (flow : Int) (more : Int) (pressure : Int) (by_ : Int) : List AV × List Blk := ([.slc 1 codes.n (fun k2992 => [.int .u8 (codes.f k2992)]), .int .i64 road, .int .i64 flow, .int .u8 more, .int .i64 pressure, .int .u16 by_], [])
def law09_BranchRises_enc (p : (Sq Int) × Int × Int × Int × Int × Int) : List AV × List Blk := law09_BranchRises_encC p.1 p.2.1 p.2.2.1 p.2.2.2.1 p.2.2.2.2.1 p.2.2.2.2.2
theorem law09_BranchRises_inj (p q : (Sq Int) × Int × Int × Int × Int × Int) (h : law09_BranchRises_enc p = law09_BranchRises_enc q) : p = q :=
  (Prod.ext (Sq.av_inj intE_u8 (a := p.1) (b := q.1) (congrArg (fun x : List AV × List Blk => x.1.getD 0 .undef) h)) (Prod.ext (show p.2.1 = q.2.1 from congrArg intA (congrArg (fun x : List AV × List Blk => x.1.getD 1 .undef) h)) (Prod.ext (show p.2.2.1 = q.2.2.1 from congrArg intA (congrArg (fun x : List AV × List Blk => x.1.getD 2 .undef) h)) (Prod.ext (show p.2.2.2.1 = q.2.2.2.1 from congrArg intA (congrArg (fun x : List AV × List Blk => x.1.getD 3 .undef) h)) (Prod.ext (show p.2.2.2.2.1 = q.2.2.2.2.1 from congrArg intA (congrArg (fun x : List AV × List Blk => x.1.getD 4 .undef) h)) (show p.2.2.2.2.2 = q.2.2.2.2.2 from congrArg intA (congrArg (fun x : List AV × List Blk => x.1.getD 5 .undef) h)))))))
noncomputable def law09_BranchRises_t (codes : (Sq Int)) (road : Int) (flow : Int) (more : Int) (pressure : Int) (by_ : Int) : DT (Bool) :=
  .bind (New codes) fun z2371 =>
  .bind (Codes_Made z2371) fun z2372 =>
  .bind (Codes_Setting (SCodes.mk z2371.l_ z2372.2.2.2) z2372.1) fun z2373 =>
  .ite (((z2372.1.Mine.Roads.n : Nat) : Int) == (0 : Int)) (
    .leaf true) (
    .bind (Mod road ((z2372.1.Mine.Roads.n : Nat) : Int)) fun z2374 =>
    .bind (Mod flow (600 : Int)) fun z2375 =>
    .ite (decide ((0 : Int) ≤ z2374 ∧ z2374 < ((z2372.1.Mine.Roads.n : Nat) : Int))) (
      .ite (z2372.1.Mine.Roads.f (Int.toNat z2374)).Closed (
        .bind (branch_Drop z2372.1 z2373.1 z2374 (wr (z2375 - (300 : Int)))) fun z2376 =>
        .ite ((z2376.Low == (0 : Int)) && ((z2376.High == (0 : Int)) && true)) (
          .bind (branch_Flow z2372.1 z2373.1 z2374 (Int.tmod pressure (100000 : Int))) fun z2377 =>
          .ite ((z2377.Low == (0 : Int)) && ((z2377.High == (0 : Int)) && true)) (
            .leaf true) (
            .leaf false)) (
          .leaf false)) (
        .bind (branch_Drop z2372.1 z2373.1 z2374 (wr (z2375 - (300 : Int)))) fun z2378 =>
        .bind (branch_Drop z2372.1 z2373.1 z2374 (wr ((wr ((wr (z2375 - (300 : Int))) + (1 : Int))) + (wr more)))) fun z2379 =>
        .ite (decide (z2378.Low > z2378.High)) (
          .leaf false) (
          .ite (decide (z2379.Low ≤ z2378.Low)) (
            .leaf false) (
            .ite (decide (z2379.High ≤ z2378.High)) (
              .leaf false) (
              .bind (Mod pressure (200000 : Int)) fun z2380 =>
              .bind (branch_Flow z2372.1 z2373.1 z2374 (wr (z2380 - (100000 : Int)))) fun z2381 =>
              .bind (branch_Flow z2372.1 z2373.1 z2374 (wr ((wr (z2380 - (100000 : Int))) + (wr by_)))) fun z2382 =>
              .ite (decide (z2381.Low ≤ z2381.High)) (
                .ite (decide (z2382.Low ≥ z2381.Low)) (
                  .ite (decide (z2382.High ≥ z2381.High)) (
                    .leaf true) (
                    .leaf false)) (
                  .leaf false)) (
                .leaf false)))))) (
      .fail))
def law09_BranchRises_av (r : Bool) : AV := .bool r
def law09_BranchRises_outs (_ : List Blk) (_ : Bool) : List Blk := []
noncomputable def c_law09_BranchRises : List AV → List Blk → Option Ans := told law09_BranchRises_enc (fun p => (law09_BranchRises_t p.1 p.2.1 p.2.2.1 p.2.2.2.1 p.2.2.2.2.1 p.2.2.2.2.2).get) law09_BranchRises_av law09_BranchRises_outs true (fun _ _ _ => ⟨rfl, fun b hb => by cases hb⟩)
noncomputable def law09_BranchRises_env : Env := { envS (fun f => match f with
  | 10 => c_New
  | 11 => c_Codes_Made
  | 21 => c_Codes_Setting
  | 16 => awake?
  | 22 => c_Mod
  | 23 => c_branch_Drop
  | 25 => c_branch_Flow
  | _ => fun _ _ => none) with pre := fun r => match r with | 3 => [.freeze 320, .freeze 321, .freeze 322, .freeze 323] | _ => [], mm := some 0 }
theorem law09_BranchRises_env_ok : ∀ f, Tells Try.prog f (law09_BranchRises_env.fs f) := by
  intro f
  by_cases h0 : f = 10
  · subst h0; exact New_tells
  by_cases h1 : f = 11
  · subst h1; exact Codes_Made_tells
  by_cases h2 : f = 21
  · subst h2; exact Codes_Setting_tells
  by_cases h3 : f = 16
  · subst h3; exact tells_awake
  by_cases h4 : f = 22
  · subst h4; exact Mod_tells
  by_cases h5 : f = 23
  · subst h5; exact branch_Drop_tells
  by_cases h6 : f = 25
  · subst h6; exact branch_Flow_tells
  have : law09_BranchRises_env.fs f = fun _ _ => none := by
    unfold law09_BranchRises_env envS
    dsimp only
    split
    · exact absurd rfl h0
    · exact absurd rfl h1
    · exact absurd rfl h2
    · exact absurd rfl h3
    · exact absurd rfl h4
    · exact absurd rfl h5
    · exact absurd rfl h6
    · rfl
  rw [this]
  exact Tells.none_ f
theorem law09_BranchRises_run (p : (Sq Int) × Int × Int × Int × Int × Int) : arun law09_BranchRises_env Try.f7 (law09_BranchRises_enc p).1 (law09_BranchRises_enc p).2 = (law09_BranchRises_t p.1 p.2.1 p.2.2.1 p.2.2.2.1 p.2.2.2.2.1 p.2.2.2.2.2).run fun r => some (law09_BranchRises_av r, law09_BranchRises_outs (law09_BranchRises_enc p).2 r) := by kernel_rfl
attribute [local irreducible] arun in
theorem law09_BranchRises_tells : Tells Try.prog 7 c_law09_BranchRises :=
  told_tells (E := law09_BranchRises_env) (enc := law09_BranchRises_enc) (av := law09_BranchRises_av) (outs := law09_BranchRises_outs) (t := fun p : (Sq Int) × Int × Int × Int × Int × Int => law09_BranchRises_t p.1 p.2.1 p.2.2.1 p.2.2.2.1 p.2.2.2.2.1 p.2.2.2.2.2) (by kernel_rfl) law09_BranchRises_env_ok Try.func7 (fun c _ => loops_none (E := { law09_BranchRises_env with nt := Try.f7.ntmps }) (fun _ => rfl) c) law09_BranchRises_run
noncomputable def law09_BranchRises (codes : (Sq Int)) (road : Int) (flow : Int) (more : Int) (pressure : Int) (by_ : Int) : Option (Bool) := gOfA law09_BranchRises_enc (fun p => (law09_BranchRises_t p.1 p.2.1 p.2.2.1 p.2.2.2.1 p.2.2.2.2.1 p.2.2.2.2.2).get) (law09_BranchRises_encC codes road flow more pressure by_).1 (law09_BranchRises_encC codes road flow more pressure by_).2
theorem law09_BranchRises_eq (codes : (Sq Int)) (road : Int) (flow : Int) (more : Int) (pressure : Int) (by_ : Int) : law09_BranchRises codes road flow more pressure by_ = (law09_BranchRises_t codes road flow more pressure by_).get := congrFun (gOfA_eq law09_BranchRises_inj (fun p => (law09_BranchRises_t p.1 p.2.1 p.2.2.1 p.2.2.2.1 p.2.2.2.2.1 p.2.2.2.2.2).get)) (codes, road, flow, more, pressure, by_)

/-! ### minecontrol/minecontrollaw09.BranchHolds -/
def law09_BranchHolds_encC (codes : (Sq Int)) (road : Int) (pressure : Int) : List AV × List Blk := ([.slc 1 codes.n (fun k2993 => [.int .u8 (codes.f k2993)]), .int .i64 road, .int .i64 pressure], [])
def law09_BranchHolds_enc (p : (Sq Int) × Int × Int) : List AV × List Blk := law09_BranchHolds_encC p.1 p.2.1 p.2.2
theorem law09_BranchHolds_inj (p q : (Sq Int) × Int × Int) (h : law09_BranchHolds_enc p = law09_BranchHolds_enc q) : p = q :=
  (Prod.ext (Sq.av_inj intE_u8 (a := p.1) (b := q.1) (congrArg (fun x : List AV × List Blk => x.1.getD 0 .undef) h)) (Prod.ext (show p.2.1 = q.2.1 from congrArg intA (congrArg (fun x : List AV × List Blk => x.1.getD 1 .undef) h)) (show p.2.2 = q.2.2 from congrArg intA (congrArg (fun x : List AV × List Blk => x.1.getD 2 .undef) h))))
def law09_BranchHolds_l3_s (p : (Int × Int × (Sq SPlace) × (Sq SRoad) × (Sq SFan) × (Sq SDoor) × (Sq Int) × (Sq Int) × (Sq Int) × (Sq Int)) × (Int)) : St := ⟨[(1, .int .i64 p.1.1), (2, .int .i64 p.1.2.1), (7, .ptr 512 0), (8, .ptr 576 0), (9, .ptr 640 0), (25, .own 193 0), (26, .int .i64 ((p.1.2.2.2.1.n : Nat) : Int)), (27, .int .i64 p.2)], [(192, .row 0 2 p.1.2.2.1.n 70 (fun k2994 => (SPlace.enc (p.1.2.2.1.f k2994)))), (193, .row 0 10 p.1.2.2.2.1.n 64 (fun k2995 => (SRoad.enc (p.1.2.2.2.1.f k2995)))), (194, .row 0 4 p.1.2.2.2.2.1.n 44 (fun k2996 => (SFan.enc (p.1.2.2.2.2.1.f k2996)))), (195, .row 0 3 p.1.2.2.2.2.2.1.n 46 (fun k2997 => (SDoor.enc (p.1.2.2.2.2.2.1.f k2997)))), (196, .row 0 1 p.1.2.2.2.2.2.2.1.n 3 (fun k2998 => [.int .i64 (p.1.2.2.2.2.2.2.1.f k2998)])), (197, .row 0 1 p.1.2.2.2.2.2.2.2.1.n 3 (fun k2999 => [.int .i64 (p.1.2.2.2.2.2.2.2.1.f k2999)])), (512, .var [.own 192 0, .own 193 0, .own 194 0, .own 195 0]), (576, .var [.own 196 0, .own 197 0]), (640, .var [.slc 1 p.1.2.2.2.2.2.2.2.2.1.n (fun k3000 => [.int .i64 (p.1.2.2.2.2.2.2.2.2.1.f k3000)]), .slc 1 p.1.2.2.2.2.2.2.2.2.2.n (fun k3001 => [.int .i64 (p.1.2.2.2.2.2.2.2.2.2.f k3001)])])], 1216⟩
theorem law09_BranchHolds_l3_inj (p q : (Int × Int × (Sq SPlace) × (Sq SRoad) × (Sq SFan) × (Sq SDoor) × (Sq Int) × (Sq Int) × (Sq Int) × (Sq Int)) × (Int)) (h : law09_BranchHolds_l3_s p = law09_BranchHolds_l3_s q) : p = q :=
  Prod.ext (Prod.ext (show p.1.1 = q.1.1 from congrArg intA (congrArg (fun x : St => aget x.tm 1) h)) (Prod.ext (show p.1.2.1 = q.1.2.1 from congrArg intA (congrArg (fun x : St => aget x.tm 2) h)) (Prod.ext (Sq.row_inj SPlace.inj (a := p.1.2.2.1) (b := q.1.2.2.1) (congrArg (fun x : St => blkS x 192) h)) (Prod.ext (Sq.row_inj SRoad.inj (a := p.1.2.2.2.1) (b := q.1.2.2.2.1) (congrArg (fun x : St => blkS x 193) h)) (Prod.ext (Sq.row_inj SFan.inj (a := p.1.2.2.2.2.1) (b := q.1.2.2.2.2.1) (congrArg (fun x : St => blkS x 194) h)) (Prod.ext (Sq.row_inj SDoor.inj (a := p.1.2.2.2.2.2.1) (b := q.1.2.2.2.2.2.1) (congrArg (fun x : St => blkS x 195) h)) (Prod.ext (Sq.row_inj intE_i64 (a := p.1.2.2.2.2.2.2.1) (b := q.1.2.2.2.2.2.2.1) (congrArg (fun x : St => blkS x 196) h)) (Prod.ext (Sq.row_inj intE_i64 (a := p.1.2.2.2.2.2.2.2.1) (b := q.1.2.2.2.2.2.2.2.1) (congrArg (fun x : St => blkS x 197) h)) (Prod.ext (Sq.av_inj intE_i64 (a := p.1.2.2.2.2.2.2.2.2.1) (b := q.1.2.2.2.2.2.2.2.2.1) (congrArg (fun x : St => cellS x 640 0) h)) (Sq.av_inj intE_i64 (a := p.1.2.2.2.2.2.2.2.2.2) (b := q.1.2.2.2.2.2.2.2.2.2) (congrArg (fun x : St => cellS x 640 1) h))))))))))) (show p.2 = q.2 from congrArg intA (congrArg (fun x : St => aget x.tm 27) h))
noncomputable def law09_BranchHolds_l3_step (_road_3_0 : Int) (_pressure_3_1 : Int) (v3_3 : (Sq SPlace)) (v3_4 : (Sq SRoad)) (v3_5 : (Sq SFan)) (v3_6 : (Sq SDoor)) (v3_7 : (Sq Int)) (v3_8 : (Sq Int)) (v3_9 : (Sq Int)) (v3_10 : (Sq Int)) (v3_11 : Int) : DT (LR (Int) (Unit) (Unit)) :=
  .ite (decide (v3_11 < ((v3_4.n : Nat) : Int))) (
    .ite (decide ((0 : Int) ≤ v3_11 ∧ v3_11 < ((v3_4.n : Nat) : Int))) (
      .ite (decide ((0 : Int) ≤ (v3_4.f (Int.toNat v3_11)).From ∧ (v3_4.f (Int.toNat v3_11)).From < ((v3_9.n : Nat) : Int))) (
        .ite (decide ((0 : Int) ≤ (v3_4.f (Int.toNat v3_11)).To ∧ (v3_4.f (Int.toNat v3_11)).To < ((v3_9.n : Nat) : Int))) (
          .bind (branch_Flow (SAir.mk (SMine.mk v3_3 v3_4) v3_5 v3_6) (SSetting.mk v3_7 v3_8) v3_11 (wr ((v3_9.f (Int.toNat (v3_4.f (Int.toNat v3_11)).From)) - (v3_9.f (Int.toNat (v3_4.f (Int.toNat v3_11)).To))))) fun z2391 =>
          .ite (decide ((0 : Int) ≤ v3_11 ∧ v3_11 < ((v3_10.n : Nat) : Int))) (
            .ite (decide ((v3_10.f (Int.toNat v3_11)) < z2391.Low)) (
              .leaf (.r ())) (
              .ite (decide ((0 : Int) ≤ v3_11 ∧ v3_11 < ((v3_10.n : Nat) : Int))) (
                .ite (decide ((v3_10.f (Int.toNat v3_11)) > z2391.High)) (
                  .leaf (.r ())) (
                  .leaf (.next (wr (v3_11 + (1 : Int)))))) (
                .fail))) (
            .fail)) (
          .fail)) (
        .fail)) (
      .fail)) (
    .leaf (.l ()))
def law09_BranchHolds_l3_el (x : St) (_ : Unit) : St := ⟨[(1, aget x.tm 1), (2, aget x.tm 2), (6, .undef), (7, .ptr 512 0), (8, .ptr 576 0)], [(192, blkS x 192), (193, blkS x 193), (194, blkS x 194), (195, blkS x 195), (196, blkS x 196), (197, blkS x 197), (512, .var [.own 192 0, .own 193 0, .own 194 0, .own 195 0]), (576, .var [.own 196 0, .own 197 0]), (640, blkS x 640)], 1216⟩
def law09_BranchHolds_l3_er (x : St) (_ : Unit) : St := ⟨[(1, aget x.tm 1), (2, aget x.tm 2), (6, .bool false), (7, .ptr 512 0), (8, .ptr 576 0)], [(192, blkS x 192), (193, blkS x 193), (194, blkS x 194), (195, blkS x 195), (196, blkS x 196), (197, blkS x 197), (512, .var [.own 192 0, .own 193 0, .own 194 0, .own 195 0]), (576, .var [.own 196 0, .own 197 0]), (640, blkS x 640)], 1216⟩
noncomputable def law09_BranchHolds_l3_f (p : (Int × Int × (Sq SPlace) × (Sq SRoad) × (Sq SFan) × (Sq SDoor) × (Sq Int) × (Sq Int) × (Sq Int) × (Sq Int)) × (Int)) : Option ((Unit) ⊕ (Unit)) := fixO (fun v : Int => law09_BranchHolds_l3_step p.1.1 p.1.2.1 p.1.2.2.1 p.1.2.2.2.1 p.1.2.2.2.2.1 p.1.2.2.2.2.2.1 p.1.2.2.2.2.2.2.1 p.1.2.2.2.2.2.2.2.1 p.1.2.2.2.2.2.2.2.2.1 p.1.2.2.2.2.2.2.2.2.2 v) p.2
noncomputable def law09_BranchHolds_l3_c : St → Option LRes := loopM law09_BranchHolds_l3_s law09_BranchHolds_l3_f false (.exit 0) law09_BranchHolds_l3_el .ret law09_BranchHolds_l3_er
noncomputable def law09_BranchHolds_l3 (road_3_0 : Int) (pressure_3_1 : Int) (v3_3 : (Sq SPlace)) (v3_4 : (Sq SRoad)) (v3_5 : (Sq SFan)) (v3_6 : (Sq SDoor)) (v3_7 : (Sq Int)) (v3_8 : (Sq Int)) (v3_9 : (Sq Int)) (v3_10 : (Sq Int)) (v3_11 : Int) : Option ((Unit) ⊕ (Unit)) := gOfS law09_BranchHolds_l3_s law09_BranchHolds_l3_f (law09_BranchHolds_l3_s ((road_3_0, pressure_3_1, v3_3, v3_4, v3_5, v3_6, v3_7, v3_8, v3_9, v3_10), v3_11))
theorem law09_BranchHolds_l3_eq (road_3_0 : Int) (pressure_3_1 : Int) (v3_3 : (Sq SPlace)) (v3_4 : (Sq SRoad)) (v3_5 : (Sq SFan)) (v3_6 : (Sq SDoor)) (v3_7 : (Sq Int)) (v3_8 : (Sq Int)) (v3_9 : (Sq Int)) (v3_10 : (Sq Int)) (v3_11 : Int) : law09_BranchHolds_l3 road_3_0 pressure_3_1 v3_3 v3_4 v3_5 v3_6 v3_7 v3_8 v3_9 v3_10 v3_11 = fixO (fun v : Int => law09_BranchHolds_l3_step road_3_0 pressure_3_1 v3_3 v3_4 v3_5 v3_6 v3_7 v3_8 v3_9 v3_10 v) v3_11 := gOfS_eq law09_BranchHolds_l3_inj law09_BranchHolds_l3_f ((road_3_0, pressure_3_1, v3_3, v3_4, v3_5, v3_6, v3_7, v3_8, v3_9, v3_10), v3_11)
noncomputable def law09_BranchHolds_t (codes : (Sq Int)) (road : Int) (pressure : Int) : DT (Bool) :=
  .bind (New codes) fun z2389 =>
  .bind (Codes_Made z2389) fun z2390 =>
  .sum (law09_BranchHolds_l3 road pressure z2390.1.Mine.Places z2390.1.Mine.Roads z2390.1.Fans z2390.1.Doors z2390.2.1.Fans z2390.2.1.Doors z2390.2.2.1.Pressures z2390.2.2.1.Flows (0 : Int)) (fun _ =>
    .ite (((z2390.1.Mine.Roads.n : Nat) : Int) == (0 : Int)) (
      .leaf true) (
      .bind (Mod road ((z2390.1.Mine.Roads.n : Nat) : Int)) fun z2393 =>
      .ite (decide ((0 : Int) ≤ z2393 ∧ z2393 < ((z2390.1.Mine.Roads.n : Nat) : Int))) (
        .ite (z2390.1.Mine.Roads.f (Int.toNat z2393)).Closed (
          .leaf true) (
          .bind (Mod pressure (200000 : Int)) fun z2394 =>
          .bind (branch_Flow z2390.1 z2390.2.1 z2393 (wr (z2394 - (100000 : Int)))) fun z2395 =>
          .bind (branch_Drop z2390.1 z2390.2.1 z2393 z2395.Low) fun z2396 =>
          .ite (decide (z2396.High ≤ (wr (z2394 - (100000 : Int))))) (
            .bind (branch_Drop z2390.1 z2390.2.1 z2393 (wr (z2395.Low + (1 : Int)))) fun z2397 =>
            .ite (decide (z2397.High > (wr (z2394 - (100000 : Int))))) (
              .bind (branch_Drop z2390.1 z2390.2.1 z2393 z2395.High) fun z2398 =>
              .ite (decide (z2398.Low ≥ (wr (z2394 - (100000 : Int))))) (
                .bind (branch_Drop z2390.1 z2390.2.1 z2393 (wr (z2395.High - (1 : Int)))) fun z2399 =>
                .ite (decide (z2399.Low < (wr (z2394 - (100000 : Int))))) (
                  .leaf true) (
                  .leaf false)) (
                .leaf false)) (
              .leaf false)) (
            .leaf false))) (
        .fail))) (fun _ =>
    .leaf false)
def law09_BranchHolds_av (r : Bool) : AV := .bool r
def law09_BranchHolds_outs (_ : List Blk) (_ : Bool) : List Blk := []
noncomputable def c_law09_BranchHolds : List AV → List Blk → Option Ans := told law09_BranchHolds_enc (fun p => (law09_BranchHolds_t p.1 p.2.1 p.2.2).get) law09_BranchHolds_av law09_BranchHolds_outs true (fun _ _ _ => ⟨rfl, fun b hb => by cases hb⟩)
noncomputable def law09_BranchHolds_env : Env := { envS (fun f => match f with
  | 10 => c_New
  | 11 => c_Codes_Made
  | 25 => c_branch_Flow
  | 16 => awake?
  | 22 => c_Mod
  | 23 => c_branch_Drop
  | _ => fun _ _ => none) (fun r => match r with | 3 => some ([1, 2, 7, 8, 9, 25, 26, 27], [1, 2, 6, 7, 8]) | _ => none) with loops := fun r => match r with | 3 => some law09_BranchHolds_l3_c | _ => none, gc := fun r => match r with | 3 => some [192, 193, 194, 195, 196, 197, 512, 576, 640] | _ => none, mm := some 0 }
theorem law09_BranchHolds_env_ok : ∀ f, Tells Try.prog f (law09_BranchHolds_env.fs f) := by
  intro f
  by_cases h0 : f = 10
  · subst h0; exact New_tells
  by_cases h1 : f = 11
  · subst h1; exact Codes_Made_tells
  by_cases h2 : f = 25
  · subst h2; exact branch_Flow_tells
  by_cases h3 : f = 16
  · subst h3; exact tells_awake
  by_cases h4 : f = 22
  · subst h4; exact Mod_tells
  by_cases h5 : f = 23
  · subst h5; exact branch_Drop_tells
  have : law09_BranchHolds_env.fs f = fun _ _ => none := by
    unfold law09_BranchHolds_env envS
    dsimp only
    split
    · exact absurd rfl h0
    · exact absurd rfl h1
    · exact absurd rfl h2
    · exact absurd rfl h3
    · exact absurd rfl h4
    · exact absurd rfl h5
    · rfl
  rw [this]
  exact Tells.none_ f
noncomputable def law09_BranchHolds_e : Env := { law09_BranchHolds_env with nt := 143 }
noncomputable def law09_BranchHolds_l3_b : Code := loopOf 3 Try.f8
theorem law09_BranchHolds_l3_round {R : Type} (fx : Int × Int × (Sq SPlace) × (Sq SRoad) × (Sq SFan) × (Sq SDoor) × (Sq Int) × (Sq Int) × (Sq Int) × (Sq Int)) (v : Int) (N : Nat) (K : AX → St → Option R) : aloop (fun s j => aexec law09_BranchHolds_e law09_BranchHolds_l3_b s j) (headOf law09_BranchHolds_e law09_BranchHolds_l3_b 1216) (exitOf law09_BranchHolds_e law09_BranchHolds_l3_b 1216) (N + 1) (law09_BranchHolds_l3_s (fx, v)) K = (law09_BranchHolds_l3_step fx.1 fx.2.1 fx.2.2.1 fx.2.2.2.1 fx.2.2.2.2.1 fx.2.2.2.2.2.1 fx.2.2.2.2.2.2.1 fx.2.2.2.2.2.2.2.1 fx.2.2.2.2.2.2.2.2.1 fx.2.2.2.2.2.2.2.2.2 v).run (LR.elim
    (fun v' => aloop (fun s j => aexec law09_BranchHolds_e law09_BranchHolds_l3_b s j) (headOf law09_BranchHolds_e law09_BranchHolds_l3_b 1216) (exitOf law09_BranchHolds_e law09_BranchHolds_l3_b 1216) N (law09_BranchHolds_l3_s (fx, v')) K)
    (fun a => K (.exit 0) (law09_BranchHolds_l3_el (law09_BranchHolds_l3_s (fx, v)) a))
    (fun a => K .ret (law09_BranchHolds_l3_er (law09_BranchHolds_l3_s (fx, v)) a))) := by kernel_rfl
theorem law09_BranchHolds_l3_tells : LoopTells law09_BranchHolds_e law09_BranchHolds_l3_b law09_BranchHolds_l3_c :=
  loopM_tells (s := law09_BranchHolds_l3_s) (stl := law09_BranchHolds_l3_el) (str := law09_BranchHolds_l3_er) (step := fun (fx : Int × Int × (Sq SPlace) × (Sq SRoad) × (Sq SFan) × (Sq SDoor) × (Sq Int) × (Sq Int) × (Sq Int) × (Sq Int)) (v : Int) => law09_BranchHolds_l3_step fx.1 fx.2.1 fx.2.2.1 fx.2.2.2.1 fx.2.2.2.2.1 fx.2.2.2.2.2.1 fx.2.2.2.2.2.2.1 fx.2.2.2.2.2.2.2.1 fx.2.2.2.2.2.2.2.2.1 fx.2.2.2.2.2.2.2.2.2 v) (n := 1216) (fun _ => rfl) (fun _ _ _ _ => rfl) (fun _ _ _ _ => rfl) law09_BranchHolds_l3_round
theorem law09_BranchHolds_run (p : (Sq Int) × Int × Int) : arun law09_BranchHolds_env Try.f8 (law09_BranchHolds_enc p).1 (law09_BranchHolds_enc p).2 = (law09_BranchHolds_t p.1 p.2.1 p.2.2).run fun r => some (law09_BranchHolds_av r, law09_BranchHolds_outs (law09_BranchHolds_enc p).2 r) := by kernel_rfl
theorem law09_BranchHolds_loops : ∀ c, Try.f8.body = some c → LoopsOK { law09_BranchHolds_env with nt := Try.f8.ntmps } c := by
  intro c hc
  refine loops_of c fun c' hc' f hf => ?_
  have hb : loopsOf c = [law09_BranchHolds_l3_b] := by
    have : Try.f8.body.map loopsOf = some [law09_BranchHolds_l3_b] := by kernel_rfl
    rw [hc] at this
    injection this
  rw [hb] at hc'
  clear hb
  obtain rfl := List.mem_singleton.1 hc'
  have h6 : firstReg law09_BranchHolds_l3_b = 3 := by kernel_rfl
  rw [h6] at hf
  obtain rfl := Option.some.inj hf
  exact law09_BranchHolds_l3_tells
attribute [local irreducible] arun in
theorem law09_BranchHolds_tells : Tells Try.prog 8 c_law09_BranchHolds :=
  told_tells (E := law09_BranchHolds_env) (enc := law09_BranchHolds_enc) (av := law09_BranchHolds_av) (outs := law09_BranchHolds_outs) (t := fun p : (Sq Int) × Int × Int => law09_BranchHolds_t p.1 p.2.1 p.2.2) (by kernel_rfl) law09_BranchHolds_env_ok Try.func8 law09_BranchHolds_loops law09_BranchHolds_run
noncomputable def law09_BranchHolds (codes : (Sq Int)) (road : Int) (pressure : Int) : Option (Bool) := gOfA law09_BranchHolds_enc (fun p => (law09_BranchHolds_t p.1 p.2.1 p.2.2).get) (law09_BranchHolds_encC codes road pressure).1 (law09_BranchHolds_encC codes road pressure).2
theorem law09_BranchHolds_eq (codes : (Sq Int)) (road : Int) (pressure : Int) : law09_BranchHolds codes road pressure = (law09_BranchHolds_t codes road pressure).get := congrFun (gOfA_eq law09_BranchHolds_inj (fun p => (law09_BranchHolds_t p.1 p.2.1 p.2.2).get)) (codes, road, pressure)

/-! ### minecontrol/minecontrollaw09.BranchDoors -/
def law09_BranchDoors_encC (codes : (Sq Int)) (door : Int) (state : Int) (pressure : Int) (flow : Int) : List AV × List Blk := ([.slc 1 codes.n (fun k3002 => [.int .u8 (codes.f k3002)]), .int .i64 door, .int .i64 state, .int .i64 pressure, .int .i64 flow], [])
def law09_BranchDoors_enc (p : (Sq Int) × Int × Int × Int × Int) : List AV × List Blk := law09_BranchDoors_encC p.1 p.2.1 p.2.2.1 p.2.2.2.1 p.2.2.2.2
theorem law09_BranchDoors_inj (p q : (Sq Int) × Int × Int × Int × Int) (h : law09_BranchDoors_enc p = law09_BranchDoors_enc q) : p = q :=
  (Prod.ext (Sq.av_inj intE_u8 (a := p.1) (b := q.1) (congrArg (fun x : List AV × List Blk => x.1.getD 0 .undef) h)) (Prod.ext (show p.2.1 = q.2.1 from congrArg intA (congrArg (fun x : List AV × List Blk => x.1.getD 1 .undef) h)) (Prod.ext (show p.2.2.1 = q.2.2.1 from congrArg intA (congrArg (fun x : List AV × List Blk => x.1.getD 2 .undef) h)) (Prod.ext (show p.2.2.2.1 = q.2.2.2.1 from congrArg intA (congrArg (fun x : List AV × List Blk => x.1.getD 3 .undef) h)) (show p.2.2.2.2 = q.2.2.2.2 from congrArg intA (congrArg (fun x : List AV × List Blk => x.1.getD 4 .undef) h))))))
noncomputable def law09_BranchDoors_t (codes : (Sq Int)) (door : Int) (state : Int) (pressure : Int) (flow : Int) : DT (Bool) :=
  .bind (New codes) fun z2425 =>
  .bind (Codes_Made z2425) fun z2426 =>
  .ite (((z2426.1.Mine.Roads.n : Nat) : Int) == (0 : Int)) (
    .leaf true) (
    .bind (Mod door ((z2426.1.Mine.Roads.n : Nat) : Int)) fun z2427 =>
    .bind (Codes_Door (SCodes.mk z2425.l_ z2426.2.2.2) z2427) fun z2428 =>
    .ite (decide ((z2426.1.Doors.n + 1) * 40 ≤ 140737488355328 ∧ (z2426.1.Doors.n + 1) ≤ 1099511627776)) (
      .bind (Codes_Setting (SCodes.mk z2425.l_ z2428.2) (SAir.mk z2426.1.Mine z2426.1.Fans (Sq.mk (z2426.1.Doors.n + 1) (fun k2429 => (SDoor.mk (cond (Nat.blt k2429 z2426.1.Doors.n) (z2426.1.Doors.f k2429).Road z2428.1.Road) (cond (Nat.blt k2429 z2426.1.Doors.n) (z2426.1.Doors.f k2429).Other z2428.1.Other) (Sq.mk (cond (Nat.blt k2429 z2426.1.Doors.n) (z2426.1.Doors.f k2429).Rests.n z2428.1.Rests.n) (fun k2430 => (cond (Nat.blt k2429 z2426.1.Doors.n) ((z2426.1.Doors.f k2429).Rests.f k2430) (z2428.1.Rests.f k2430))))))))) fun z2431 =>
      .ite (decide ((0 : Int) ≤ (wr ((((z2426.1.Doors.n + 1) : Nat) : Int) - (1 : Int))) ∧ (wr ((((z2426.1.Doors.n + 1) : Nat) : Int) - (1 : Int))) < (((z2426.1.Doors.n + 1) : Nat) : Int))) (
        .ite (decide ((0 : Int) ≤ (wr ((((z2426.1.Doors.n + 1) : Nat) : Int) - (1 : Int))) ∧ (wr ((((z2426.1.Doors.n + 1) : Nat) : Int) - (1 : Int))) < (((z2426.1.Doors.n + 1) : Nat) : Int))) (
          .bind (Mod state (wr ((((cond (Nat.blt (Int.toNat (wr ((((z2426.1.Doors.n + 1) : Nat) : Int) - (1 : Int)))) z2426.1.Doors.n) (z2426.1.Doors.f (Int.toNat (wr ((((z2426.1.Doors.n + 1) : Nat) : Int) - (1 : Int))))).Rests.n z2428.1.Rests.n) : Nat) : Int) - (1 : Int)))) fun z2432 =>
          .ite (decide ((0 : Int) ≤ (wr ((((z2426.1.Doors.n + 1) : Nat) : Int) - (1 : Int))) ∧ (wr ((((z2426.1.Doors.n + 1) : Nat) : Int) - (1 : Int))) < ((z2431.1.Doors.n : Nat) : Int))) (
            .ite (decide (z2431.1.Doors.n * 8 ≤ 140737488355328 ∧ z2431.1.Doors.n ≤ 1099511627776)) (
              .ite (decide ((0 : Int) ≤ (wr ((((z2426.1.Doors.n + 1) : Nat) : Int) - (1 : Int))) ∧ (wr ((((z2426.1.Doors.n + 1) : Nat) : Int) - (1 : Int))) < ((z2431.1.Doors.n : Nat) : Int))) (
                .ite (decide (z2431.1.Doors.n * 8 ≤ 140737488355328 ∧ z2431.1.Doors.n ≤ 1099511627776)) (
                  .ite (decide ((0 : Int) ≤ (wr ((((z2426.1.Doors.n + 1) : Nat) : Int) - (1 : Int))) ∧ (wr ((((z2426.1.Doors.n + 1) : Nat) : Int) - (1 : Int))) < ((z2431.1.Doors.n : Nat) : Int))) (
                    .bind (Mod pressure (200000 : Int)) fun z2433 =>
                    .bind (branch_Flow (SAir.mk z2426.1.Mine z2426.1.Fans (Sq.mk (z2426.1.Doors.n + 1) (fun k2434 => (SDoor.mk (cond (Nat.blt k2434 z2426.1.Doors.n) (z2426.1.Doors.f k2434).Road z2428.1.Road) (cond (Nat.blt k2434 z2426.1.Doors.n) (z2426.1.Doors.f k2434).Other z2428.1.Other) (Sq.mk (cond (Nat.blt k2434 z2426.1.Doors.n) (z2426.1.Doors.f k2434).Rests.n z2428.1.Rests.n) (fun k2435 => (cond (Nat.blt k2434 z2426.1.Doors.n) ((z2426.1.Doors.f k2434).Rests.f k2435) (z2428.1.Rests.f k2435)))))))) (SSetting.mk z2431.1.Fans (Sq.mk z2431.1.Doors.n (fun k2436 => (cond (Nat.beq k2436 (Int.toNat (wr ((((z2426.1.Doors.n + 1) : Nat) : Int) - (1 : Int))))) z2432 (z2431.1.Doors.f k2436))))) (cond (Nat.blt (Int.toNat (wr ((((z2426.1.Doors.n + 1) : Nat) : Int) - (1 : Int)))) z2426.1.Doors.n) (z2426.1.Doors.f (Int.toNat (wr ((((z2426.1.Doors.n + 1) : Nat) : Int) - (1 : Int))))).Road z2428.1.Road) (wr (z2433 - (100000 : Int)))) fun z2437 =>
                    .bind (branch_Flow (SAir.mk z2426.1.Mine z2426.1.Fans (Sq.mk (z2426.1.Doors.n + 1) (fun k2438 => (SDoor.mk (cond (Nat.blt k2438 z2426.1.Doors.n) (z2426.1.Doors.f k2438).Road z2428.1.Road) (cond (Nat.blt k2438 z2426.1.Doors.n) (z2426.1.Doors.f k2438).Other z2428.1.Other) (Sq.mk (cond (Nat.blt k2438 z2426.1.Doors.n) (z2426.1.Doors.f k2438).Rests.n z2428.1.Rests.n) (fun k2439 => (cond (Nat.blt k2438 z2426.1.Doors.n) ((z2426.1.Doors.f k2438).Rests.f k2439) (z2428.1.Rests.f k2439)))))))) (SSetting.mk z2431.1.Fans (Sq.mk z2431.1.Doors.n (fun k2440 => (cond (Nat.beq k2440 (Int.toNat (wr ((((z2426.1.Doors.n + 1) : Nat) : Int) - (1 : Int))))) (wr (z2432 + (1 : Int))) (cond (Nat.beq k2440 (Int.toNat (wr ((((z2426.1.Doors.n + 1) : Nat) : Int) - (1 : Int))))) z2432 (z2431.1.Doors.f k2440)))))) (cond (Nat.blt (Int.toNat (wr ((((z2426.1.Doors.n + 1) : Nat) : Int) - (1 : Int)))) z2426.1.Doors.n) (z2426.1.Doors.f (Int.toNat (wr ((((z2426.1.Doors.n + 1) : Nat) : Int) - (1 : Int))))).Road z2428.1.Road) (wr (z2433 - (100000 : Int)))) fun z2441 =>
                    .bind (branch_Flow (SAir.mk z2426.1.Mine z2426.1.Fans (Sq.mk (z2426.1.Doors.n + 1) (fun k2442 => (SDoor.mk (cond (Nat.blt k2442 z2426.1.Doors.n) (z2426.1.Doors.f k2442).Road z2428.1.Road) (cond (Nat.blt k2442 z2426.1.Doors.n) (z2426.1.Doors.f k2442).Other z2428.1.Other) (Sq.mk (cond (Nat.blt k2442 z2426.1.Doors.n) (z2426.1.Doors.f k2442).Rests.n z2428.1.Rests.n) (fun k2443 => (cond (Nat.blt k2442 z2426.1.Doors.n) ((z2426.1.Doors.f k2442).Rests.f k2443) (z2428.1.Rests.f k2443)))))))) (SSetting.mk z2431.1.Fans (Sq.mk z2431.1.Doors.n (fun k2444 => (cond (Nat.beq k2444 (Int.toNat (wr ((((z2426.1.Doors.n + 1) : Nat) : Int) - (1 : Int))))) (-1 : Int) (cond (Nat.beq k2444 (Int.toNat (wr ((((z2426.1.Doors.n + 1) : Nat) : Int) - (1 : Int))))) z2432 (z2431.1.Doors.f k2444)))))) (cond (Nat.blt (Int.toNat (wr ((((z2426.1.Doors.n + 1) : Nat) : Int) - (1 : Int)))) z2426.1.Doors.n) (z2426.1.Doors.f (Int.toNat (wr ((((z2426.1.Doors.n + 1) : Nat) : Int) - (1 : Int))))).Road z2428.1.Road) (wr (z2433 - (100000 : Int)))) fun z2445 =>
                    .ite (decide (z2437.Low > (0 : Int))) (
                      .ite (decide (z2441.Low < z2437.Low)) (
                        .leaf false) (
                        .ite (decide (z2437.High < (0 : Int))) (
                          .ite (decide (z2441.High > z2437.High)) (
                            .leaf false) (
                            .ite (decide (z2445.Low > z2437.Low)) (
                              .leaf false) (
                              .ite (decide (z2445.Low > z2441.Low)) (
                                .leaf false) (
                                .ite (decide (z2445.High < z2437.High)) (
                                  .leaf false) (
                                  .ite (decide (z2445.High < z2441.High)) (
                                    .leaf false) (
                                    .bind (Mod flow (400 : Int)) fun z2446 =>
                                    .bind (branch_Drop (SAir.mk z2426.1.Mine z2426.1.Fans (Sq.mk (z2426.1.Doors.n + 1) (fun k2447 => (SDoor.mk (cond (Nat.blt k2447 z2426.1.Doors.n) (z2426.1.Doors.f k2447).Road z2428.1.Road) (cond (Nat.blt k2447 z2426.1.Doors.n) (z2426.1.Doors.f k2447).Other z2428.1.Other) (Sq.mk (cond (Nat.blt k2447 z2426.1.Doors.n) (z2426.1.Doors.f k2447).Rests.n z2428.1.Rests.n) (fun k2448 => (cond (Nat.blt k2447 z2426.1.Doors.n) ((z2426.1.Doors.f k2447).Rests.f k2448) (z2428.1.Rests.f k2448)))))))) (SSetting.mk z2431.1.Fans (Sq.mk z2431.1.Doors.n (fun k2449 => (cond (Nat.beq k2449 (Int.toNat (wr ((((z2426.1.Doors.n + 1) : Nat) : Int) - (1 : Int))))) z2432 (z2431.1.Doors.f k2449))))) (cond (Nat.blt (Int.toNat (wr ((((z2426.1.Doors.n + 1) : Nat) : Int) - (1 : Int)))) z2426.1.Doors.n) (z2426.1.Doors.f (Int.toNat (wr ((((z2426.1.Doors.n + 1) : Nat) : Int) - (1 : Int))))).Road z2428.1.Road) (wr (z2446 - (200 : Int)))) fun z2450 =>
                                    .bind (branch_Drop (SAir.mk z2426.1.Mine z2426.1.Fans (Sq.mk (z2426.1.Doors.n + 1) (fun k2451 => (SDoor.mk (cond (Nat.blt k2451 z2426.1.Doors.n) (z2426.1.Doors.f k2451).Road z2428.1.Road) (cond (Nat.blt k2451 z2426.1.Doors.n) (z2426.1.Doors.f k2451).Other z2428.1.Other) (Sq.mk (cond (Nat.blt k2451 z2426.1.Doors.n) (z2426.1.Doors.f k2451).Rests.n z2428.1.Rests.n) (fun k2452 => (cond (Nat.blt k2451 z2426.1.Doors.n) ((z2426.1.Doors.f k2451).Rests.f k2452) (z2428.1.Rests.f k2452)))))))) (SSetting.mk z2431.1.Fans (Sq.mk z2431.1.Doors.n (fun k2453 => (cond (Nat.beq k2453 (Int.toNat (wr ((((z2426.1.Doors.n + 1) : Nat) : Int) - (1 : Int))))) (-1 : Int) (cond (Nat.beq k2453 (Int.toNat (wr ((((z2426.1.Doors.n + 1) : Nat) : Int) - (1 : Int))))) z2432 (z2431.1.Doors.f k2453)))))) (cond (Nat.blt (Int.toNat (wr ((((z2426.1.Doors.n + 1) : Nat) : Int) - (1 : Int)))) z2426.1.Doors.n) (z2426.1.Doors.f (Int.toNat (wr ((((z2426.1.Doors.n + 1) : Nat) : Int) - (1 : Int))))).Road z2428.1.Road) (wr (z2446 - (200 : Int)))) fun z2454 =>
                                    .ite (decide (z2454.Low ≤ z2450.Low)) (
                                      .ite (decide (z2454.High ≥ z2450.High)) (
                                        .leaf true) (
                                        .leaf false)) (
                                      .leaf false))))))) (
                          .ite (decide (z2445.Low > z2437.Low)) (
                            .leaf false) (
                            .ite (decide (z2445.Low > z2441.Low)) (
                              .leaf false) (
                              .ite (decide (z2445.High < z2437.High)) (
                                .leaf false) (
                                .ite (decide (z2445.High < z2441.High)) (
                                  .leaf false) (
                                  .bind (Mod flow (400 : Int)) fun z2455 =>
                                  .bind (branch_Drop (SAir.mk z2426.1.Mine z2426.1.Fans (Sq.mk (z2426.1.Doors.n + 1) (fun k2456 => (SDoor.mk (cond (Nat.blt k2456 z2426.1.Doors.n) (z2426.1.Doors.f k2456).Road z2428.1.Road) (cond (Nat.blt k2456 z2426.1.Doors.n) (z2426.1.Doors.f k2456).Other z2428.1.Other) (Sq.mk (cond (Nat.blt k2456 z2426.1.Doors.n) (z2426.1.Doors.f k2456).Rests.n z2428.1.Rests.n) (fun k2457 => (cond (Nat.blt k2456 z2426.1.Doors.n) ((z2426.1.Doors.f k2456).Rests.f k2457) (z2428.1.Rests.f k2457)))))))) (SSetting.mk z2431.1.Fans (Sq.mk z2431.1.Doors.n (fun k2458 => (cond (Nat.beq k2458 (Int.toNat (wr ((((z2426.1.Doors.n + 1) : Nat) : Int) - (1 : Int))))) z2432 (z2431.1.Doors.f k2458))))) (cond (Nat.blt (Int.toNat (wr ((((z2426.1.Doors.n + 1) : Nat) : Int) - (1 : Int)))) z2426.1.Doors.n) (z2426.1.Doors.f (Int.toNat (wr ((((z2426.1.Doors.n + 1) : Nat) : Int) - (1 : Int))))).Road z2428.1.Road) (wr (z2455 - (200 : Int)))) fun z2459 =>
                                  .bind (branch_Drop (SAir.mk z2426.1.Mine z2426.1.Fans (Sq.mk (z2426.1.Doors.n + 1) (fun k2460 => (SDoor.mk (cond (Nat.blt k2460 z2426.1.Doors.n) (z2426.1.Doors.f k2460).Road z2428.1.Road) (cond (Nat.blt k2460 z2426.1.Doors.n) (z2426.1.Doors.f k2460).Other z2428.1.Other) (Sq.mk (cond (Nat.blt k2460 z2426.1.Doors.n) (z2426.1.Doors.f k2460).Rests.n z2428.1.Rests.n) (fun k2461 => (cond (Nat.blt k2460 z2426.1.Doors.n) ((z2426.1.Doors.f k2460).Rests.f k2461) (z2428.1.Rests.f k2461)))))))) (SSetting.mk z2431.1.Fans (Sq.mk z2431.1.Doors.n (fun k2462 => (cond (Nat.beq k2462 (Int.toNat (wr ((((z2426.1.Doors.n + 1) : Nat) : Int) - (1 : Int))))) (-1 : Int) (cond (Nat.beq k2462 (Int.toNat (wr ((((z2426.1.Doors.n + 1) : Nat) : Int) - (1 : Int))))) z2432 (z2431.1.Doors.f k2462)))))) (cond (Nat.blt (Int.toNat (wr ((((z2426.1.Doors.n + 1) : Nat) : Int) - (1 : Int)))) z2426.1.Doors.n) (z2426.1.Doors.f (Int.toNat (wr ((((z2426.1.Doors.n + 1) : Nat) : Int) - (1 : Int))))).Road z2428.1.Road) (wr (z2455 - (200 : Int)))) fun z2463 =>
                                  .ite (decide (z2463.Low ≤ z2459.Low)) (
                                    .ite (decide (z2463.High ≥ z2459.High)) (
                                      .leaf true) (
                                      .leaf false)) (
                                    .leaf false)))))))) (
                      .ite (decide (z2437.High < (0 : Int))) (
                        .ite (decide (z2441.High > z2437.High)) (
                          .leaf false) (
                          .ite (decide (z2445.Low > z2437.Low)) (
                            .leaf false) (
                            .ite (decide (z2445.Low > z2441.Low)) (
                              .leaf false) (
                              .ite (decide (z2445.High < z2437.High)) (
                                .leaf false) (
                                .ite (decide (z2445.High < z2441.High)) (
                                  .leaf false) (
                                  .bind (Mod flow (400 : Int)) fun z2464 =>
                                  .bind (branch_Drop (SAir.mk z2426.1.Mine z2426.1.Fans (Sq.mk (z2426.1.Doors.n + 1) (fun k2465 => (SDoor.mk (cond (Nat.blt k2465 z2426.1.Doors.n) (z2426.1.Doors.f k2465).Road z2428.1.Road) (cond (Nat.blt k2465 z2426.1.Doors.n) (z2426.1.Doors.f k2465).Other z2428.1.Other) (Sq.mk (cond (Nat.blt k2465 z2426.1.Doors.n) (z2426.1.Doors.f k2465).Rests.n z2428.1.Rests.n) (fun k2466 => (cond (Nat.blt k2465 z2426.1.Doors.n) ((z2426.1.Doors.f k2465).Rests.f k2466) (z2428.1.Rests.f k2466)))))))) (SSetting.mk z2431.1.Fans (Sq.mk z2431.1.Doors.n (fun k2467 => (cond (Nat.beq k2467 (Int.toNat (wr ((((z2426.1.Doors.n + 1) : Nat) : Int) - (1 : Int))))) z2432 (z2431.1.Doors.f k2467))))) (cond (Nat.blt (Int.toNat (wr ((((z2426.1.Doors.n + 1) : Nat) : Int) - (1 : Int)))) z2426.1.Doors.n) (z2426.1.Doors.f (Int.toNat (wr ((((z2426.1.Doors.n + 1) : Nat) : Int) - (1 : Int))))).Road z2428.1.Road) (wr (z2464 - (200 : Int)))) fun z2468 =>
                                  .bind (branch_Drop (SAir.mk z2426.1.Mine z2426.1.Fans (Sq.mk (z2426.1.Doors.n + 1) (fun k2469 => (SDoor.mk (cond (Nat.blt k2469 z2426.1.Doors.n) (z2426.1.Doors.f k2469).Road z2428.1.Road) (cond (Nat.blt k2469 z2426.1.Doors.n) (z2426.1.Doors.f k2469).Other z2428.1.Other) (Sq.mk (cond (Nat.blt k2469 z2426.1.Doors.n) (z2426.1.Doors.f k2469).Rests.n z2428.1.Rests.n) (fun k2470 => (cond (Nat.blt k2469 z2426.1.Doors.n) ((z2426.1.Doors.f k2469).Rests.f k2470) (z2428.1.Rests.f k2470)))))))) (SSetting.mk z2431.1.Fans (Sq.mk z2431.1.Doors.n (fun k2471 => (cond (Nat.beq k2471 (Int.toNat (wr ((((z2426.1.Doors.n + 1) : Nat) : Int) - (1 : Int))))) (-1 : Int) (cond (Nat.beq k2471 (Int.toNat (wr ((((z2426.1.Doors.n + 1) : Nat) : Int) - (1 : Int))))) z2432 (z2431.1.Doors.f k2471)))))) (cond (Nat.blt (Int.toNat (wr ((((z2426.1.Doors.n + 1) : Nat) : Int) - (1 : Int)))) z2426.1.Doors.n) (z2426.1.Doors.f (Int.toNat (wr ((((z2426.1.Doors.n + 1) : Nat) : Int) - (1 : Int))))).Road z2428.1.Road) (wr (z2464 - (200 : Int)))) fun z2472 =>
                                  .ite (decide (z2472.Low ≤ z2468.Low)) (
                                    .ite (decide (z2472.High ≥ z2468.High)) (
                                      .leaf true) (
                                      .leaf false)) (
                                    .leaf false))))))) (
                        .ite (decide (z2445.Low > z2437.Low)) (
                          .leaf false) (
                          .ite (decide (z2445.Low > z2441.Low)) (
                            .leaf false) (
                            .ite (decide (z2445.High < z2437.High)) (
                              .leaf false) (
                              .ite (decide (z2445.High < z2441.High)) (
                                .leaf false) (
                                .bind (Mod flow (400 : Int)) fun z2473 =>
                                .bind (branch_Drop (SAir.mk z2426.1.Mine z2426.1.Fans (Sq.mk (z2426.1.Doors.n + 1) (fun k2474 => (SDoor.mk (cond (Nat.blt k2474 z2426.1.Doors.n) (z2426.1.Doors.f k2474).Road z2428.1.Road) (cond (Nat.blt k2474 z2426.1.Doors.n) (z2426.1.Doors.f k2474).Other z2428.1.Other) (Sq.mk (cond (Nat.blt k2474 z2426.1.Doors.n) (z2426.1.Doors.f k2474).Rests.n z2428.1.Rests.n) (fun k2475 => (cond (Nat.blt k2474 z2426.1.Doors.n) ((z2426.1.Doors.f k2474).Rests.f k2475) (z2428.1.Rests.f k2475)))))))) (SSetting.mk z2431.1.Fans (Sq.mk z2431.1.Doors.n (fun k2476 => (cond (Nat.beq k2476 (Int.toNat (wr ((((z2426.1.Doors.n + 1) : Nat) : Int) - (1 : Int))))) z2432 (z2431.1.Doors.f k2476))))) (cond (Nat.blt (Int.toNat (wr ((((z2426.1.Doors.n + 1) : Nat) : Int) - (1 : Int)))) z2426.1.Doors.n) (z2426.1.Doors.f (Int.toNat (wr ((((z2426.1.Doors.n + 1) : Nat) : Int) - (1 : Int))))).Road z2428.1.Road) (wr (z2473 - (200 : Int)))) fun z2477 =>
                                .bind (branch_Drop (SAir.mk z2426.1.Mine z2426.1.Fans (Sq.mk (z2426.1.Doors.n + 1) (fun k2478 => (SDoor.mk (cond (Nat.blt k2478 z2426.1.Doors.n) (z2426.1.Doors.f k2478).Road z2428.1.Road) (cond (Nat.blt k2478 z2426.1.Doors.n) (z2426.1.Doors.f k2478).Other z2428.1.Other) (Sq.mk (cond (Nat.blt k2478 z2426.1.Doors.n) (z2426.1.Doors.f k2478).Rests.n z2428.1.Rests.n) (fun k2479 => (cond (Nat.blt k2478 z2426.1.Doors.n) ((z2426.1.Doors.f k2478).Rests.f k2479) (z2428.1.Rests.f k2479)))))))) (SSetting.mk z2431.1.Fans (Sq.mk z2431.1.Doors.n (fun k2480 => (cond (Nat.beq k2480 (Int.toNat (wr ((((z2426.1.Doors.n + 1) : Nat) : Int) - (1 : Int))))) (-1 : Int) (cond (Nat.beq k2480 (Int.toNat (wr ((((z2426.1.Doors.n + 1) : Nat) : Int) - (1 : Int))))) z2432 (z2431.1.Doors.f k2480)))))) (cond (Nat.blt (Int.toNat (wr ((((z2426.1.Doors.n + 1) : Nat) : Int) - (1 : Int)))) z2426.1.Doors.n) (z2426.1.Doors.f (Int.toNat (wr ((((z2426.1.Doors.n + 1) : Nat) : Int) - (1 : Int))))).Road z2428.1.Road) (wr (z2473 - (200 : Int)))) fun z2481 =>
                                .ite (decide (z2481.Low ≤ z2477.Low)) (
                                  .ite (decide (z2481.High ≥ z2477.High)) (
                                    .leaf true) (
                                    .leaf false)) (
                                  .leaf false)))))))) (
                    .fail)) (
                  .fail)) (
                .fail)) (
              .fail)) (
            .fail)) (
          .fail)) (
        .fail)) (
      .fail))
def law09_BranchDoors_av (r : Bool) : AV := .bool r
def law09_BranchDoors_outs (_ : List Blk) (_ : Bool) : List Blk := []
noncomputable def c_law09_BranchDoors : List AV → List Blk → Option Ans := told law09_BranchDoors_enc (fun p => (law09_BranchDoors_t p.1 p.2.1 p.2.2.1 p.2.2.2.1 p.2.2.2.2).get) law09_BranchDoors_av law09_BranchDoors_outs true (fun _ _ _ => ⟨rfl, fun b hb => by cases hb⟩)
noncomputable def law09_BranchDoors_env : Env := { envS (fun f => match f with
  | 10 => c_New
  | 11 => c_Codes_Made
  | 16 => awake?
  | 22 => c_Mod
  | 14 => c_Codes_Door
  | 21 => c_Codes_Setting
  | 25 => c_branch_Flow
  | 23 => c_branch_Drop
  | _ => fun _ _ => none) with pre := fun r => match r with | 6 => [.freeze 320, .freeze 321, .freeze 322, .freeze 323] | _ => [], mm := some 0 }
theorem law09_BranchDoors_env_ok : ∀ f, Tells Try.prog f (law09_BranchDoors_env.fs f) := by
  intro f
  by_cases h0 : f = 10
  · subst h0; exact New_tells
  by_cases h1 : f = 11
  · subst h1; exact Codes_Made_tells
  by_cases h2 : f = 16
  · subst h2; exact tells_awake
  by_cases h3 : f = 22
  · subst h3; exact Mod_tells
  by_cases h4 : f = 14
  · subst h4; exact Codes_Door_tells
  by_cases h5 : f = 21
  · subst h5; exact Codes_Setting_tells
  by_cases h6 : f = 25
  · subst h6; exact branch_Flow_tells
  by_cases h7 : f = 23
  · subst h7; exact branch_Drop_tells
  have : law09_BranchDoors_env.fs f = fun _ _ => none := by
    unfold law09_BranchDoors_env envS
    dsimp only
    split
    · exact absurd rfl h0
    · exact absurd rfl h1
    · exact absurd rfl h2
    · exact absurd rfl h3
    · exact absurd rfl h4
    · exact absurd rfl h5
    · exact absurd rfl h6
    · exact absurd rfl h7
    · rfl
  rw [this]
  exact Tells.none_ f
theorem law09_BranchDoors_run (p : (Sq Int) × Int × Int × Int × Int) : arun law09_BranchDoors_env Try.f9 (law09_BranchDoors_enc p).1 (law09_BranchDoors_enc p).2 = (law09_BranchDoors_t p.1 p.2.1 p.2.2.1 p.2.2.2.1 p.2.2.2.2).run fun r => some (law09_BranchDoors_av r, law09_BranchDoors_outs (law09_BranchDoors_enc p).2 r) := by kernel_rfl
attribute [local irreducible] arun in
theorem law09_BranchDoors_tells : Tells Try.prog 9 c_law09_BranchDoors :=
  told_tells (E := law09_BranchDoors_env) (enc := law09_BranchDoors_enc) (av := law09_BranchDoors_av) (outs := law09_BranchDoors_outs) (t := fun p : (Sq Int) × Int × Int × Int × Int => law09_BranchDoors_t p.1 p.2.1 p.2.2.1 p.2.2.2.1 p.2.2.2.2) (by kernel_rfl) law09_BranchDoors_env_ok Try.func9 (fun c _ => loops_none (E := { law09_BranchDoors_env with nt := Try.f9.ntmps }) (fun _ => rfl) c) law09_BranchDoors_run
noncomputable def law09_BranchDoors (codes : (Sq Int)) (door : Int) (state : Int) (pressure : Int) (flow : Int) : Option (Bool) := gOfA law09_BranchDoors_enc (fun p => (law09_BranchDoors_t p.1 p.2.1 p.2.2.1 p.2.2.2.1 p.2.2.2.2).get) (law09_BranchDoors_encC codes door state pressure flow).1 (law09_BranchDoors_encC codes door state pressure flow).2
theorem law09_BranchDoors_eq (codes : (Sq Int)) (door : Int) (state : Int) (pressure : Int) (flow : Int) : law09_BranchDoors codes door state pressure flow = (law09_BranchDoors_t codes door state pressure flow).get := congrFun (gOfA_eq law09_BranchDoors_inj (fun p => (law09_BranchDoors_t p.1 p.2.1 p.2.2.1 p.2.2.2.1 p.2.2.2.2).get)) (codes, door, state, pressure, flow)
end Go.Proofs.Ytbmbhgkjpdpcjaa.Ab
