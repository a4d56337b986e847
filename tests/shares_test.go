package tests

import (
	"math/big"
	"math/rand"
	"testing"

	"loop.example/g01261/impl"
)

func checkShare(t *testing.T, part, whole int64) {
	t.Helper()
	share, code := impl.ShareOf(part, whole)
	sameOf(t, []any{share, code}, []any{shareIn(part, whole), int64(impl.OK)}, "ShareOf", part, whole)
	order, code := impl.CompareShares(share, share)
	sameOf(t, []int64{order, code}, []int64{0, impl.OK}, "CompareShares", share)
}

func TestPromise13Shares(t *testing.T) {
	for whole := int64(1); whole < 130; whole++ {
		for part := int64(0); part <= whole; part++ {
			checkShare(t, part, whole)
		}
	}
	wholes := []int64{1, 2, 3, 999999937, 999999999, impl.Billion - 1, impl.Billion, 1 << 29, 701408733, 433494437}
	for _, whole := range wholes {
		for _, part := range append(wholes, 0, 5, 7, 10, 1000, 500000000, 433494437, 267914296) {
			if part <= whole {
				checkShare(t, part, whole)
				checkShare(t, whole-part, whole)
			}
		}
	}
	r := rand.New(rand.NewSource(203))
	for range 2000 {
		whole := 1 + r.Int63n(impl.Billion)
		checkShare(t, r.Int63n(whole+1), whole)
	}
}

func TestPromise13SharesByHand(t *testing.T) {
	for _, x := range []struct{ part, whole, p, q int64 }{
		{0, 1, 0, 1}, {1, 1, 1, 1}, {0, 5, 0, 1}, {5, 5, 1, 1}, {4, 6, 2, 3}, {6, 4, 0, 0}, {3, 7, 3, 7}, {50, 60, 5, 6},
		{0, impl.Billion, 0, 1}, {impl.Billion, impl.Billion, 1, 1}, {1, impl.Billion, 1, impl.Billion}, {impl.Billion - 1, impl.Billion, impl.Billion - 1, impl.Billion}, {500000000, impl.Billion, 1, 2},
		{0, impl.Billion + 1, 0, 0}, {1, impl.Billion + 1, 0, 0}, {0, 0, 0, 0}, {1, 0, 0, 0}, {-1, 5, 0, 0}, {6, 5, 0, 0}, {0, -1, 0, 0}, {-1, -1, 0, 0}, {-2, -1, 0, 0}, {-1, 1, 0, 0}, {2, 1, 0, 0},
		{1<<63 - 1, 1<<63 - 1, 0, 0}, {-1 << 63, 1, 0, 0}, {0, -1 << 63, 0, 0}, {-1 << 63, -1 << 63, 0, 0}, {1, 1 << 32, 0, 0},
	} {
		share, code := impl.ShareOf(x.part, x.whole)
		want := int64(impl.OK)
		if x.q == 0 {
			want = impl.ErrRange
		}
		same(t, label("ShareOf", x), []any{share, code}, []any{impl.Share{P: x.p, Q: x.q}, want})
	}
}

// goodShares and wrongShares are what ShareOf returns, and what it does not return for any numbers.
func goodShares() []impl.Share {
	list := []impl.Share{{P: 0, Q: 1}, {P: 1, Q: 1}, {P: 1, Q: impl.Billion}, {P: impl.Billion - 1, Q: impl.Billion}, {P: impl.Billion - 2, Q: impl.Billion - 1}, {P: 1, Q: impl.Billion - 1}, {P: 433494437, Q: 701408733}, {P: 267914296, Q: 433494437}}
	for q := int64(1); q < 14; q++ {
		for p := int64(1); p < q; p++ {
			if shareIn(p, q).Q == q {
				list = append(list, impl.Share{P: p, Q: q})
			}
		}
	}
	return list
}

func wrongShares() []impl.Share {
	return []impl.Share{
		{}, {P: 1}, {P: 0, Q: 2}, {P: 0, Q: impl.Billion}, {P: 2, Q: 2}, {P: 2, Q: 4}, {P: 3, Q: 9}, {P: 6, Q: 4}, {P: 2, Q: 1}, {P: 3, Q: 2}, {P: -1, Q: 2}, {P: 1, Q: -2}, {P: -1, Q: -2}, {P: -1, Q: 1}, {P: 0, Q: -1}, {P: -1, Q: -1},
		{P: 1, Q: impl.Billion + 1}, {P: impl.Billion, Q: impl.Billion}, {P: impl.Billion, Q: impl.Billion + 1}, {P: impl.Billion + 1, Q: impl.Billion}, {P: 2, Q: impl.Billion},
		{P: 1<<63 - 1, Q: 1<<63 - 1}, {P: -1 << 63, Q: 1}, {P: 0, Q: -1 << 63}, {P: -1 << 63, Q: -1 << 63}, {P: 1, Q: 1<<63 - 1}, {P: 1 << 32, Q: 1<<32 + 1},
	}
}

func TestPromise13ComparedShares(t *testing.T) {
	for _, s := range goodShares() {
		for _, u := range goodShares() {
			order, code := impl.CompareShares(s, u)
			want := big.NewRat(s.P, s.Q).Cmp(big.NewRat(u.P, u.Q))
			sameOf(t, []int64{order, code}, []int64{int64(want), impl.OK}, "CompareShares", s, u)
		}
		for _, u := range wrongShares() {
			order, code := impl.CompareShares(s, u)
			checkCode(t, label("CompareShares", s, u), []any{order, code}, impl.ErrInvalid)
			order, code = impl.CompareShares(u, s)
			checkCode(t, label("CompareShares", u, s), []any{order, code}, impl.ErrInvalid)
			order, code = impl.CompareShares(u, u)
			checkCode(t, label("CompareShares", u), []any{order, code}, impl.ErrInvalid)
		}
	}
	r := rand.New(rand.NewSource(204))
	for range 5000 {
		s := shareIn(r.Int63n(100), 100+r.Int63n(impl.Billion-99))
		u := impl.Share{P: s.P, Q: s.Q + 1}
		if u.Q > impl.Billion || shareIn(u.P, u.Q) != u {
			continue
		}
		order, code := impl.CompareShares(s, u)
		want := big.NewRat(s.P, s.Q).Cmp(big.NewRat(u.P, u.Q))
		sameOf(t, []int64{order, code}, []int64{int64(want), impl.OK}, "CompareShares", s, u)
	}
}
