package store

import (
	"math/rand"
	"testing"
)

// text is any text of so many bytes.
func text(r *rand.Rand, n int) string {
	b := make([]byte, n)
	r.Read(b)
	return string(b)
}

// bent is a text with 4 bytes changed.
func bent(s string, at int, by uint32) string {
	b := []byte(s)
	for k := range 4 {
		b[at+k] ^= byte(by >> (24 - 8*k))
	}
	return string(b)
}

// TestP13SealRows: rests that are known from elsewhere.
func TestP13SealRows(t *testing.T) {
	for s, want := range map[string]uint32{"": 0, "123456789": 0xfc891918, "\x00\x00\x00\x00": 0x38fb2284} {
		if got := seal(s); got != want {
			t.Errorf("%q: %#x, want %#x", s, got, want)
		}
	}
}

// TestP13Sealed: what is sealed is found again, at any length, and is not much longer.
func TestP13Sealed(t *testing.T) {
	r := rand.New(rand.NewSource(1))
	for n := range 800 {
		s := text(r, n)
		file := sealed(s)
		if got := unsealed(file); got != s {
			t.Fatalf("%x: %x", s, got)
		}
		if len(file) > n+64 {
			t.Fatalf("P15: %d bytes have become %d", n, len(file))
		}
	}
}

// TestP13Bent: 4 bytes that are bent are told, wherever they stand, the seal's own too.
func TestP13Bent(t *testing.T) {
	r := rand.New(rand.NewSource(2))
	for _, n := range []int{1, 4, 7, 28, 100, 724} {
		file := sealed(text(r, n))
		for at := range len(file) - 3 {
			by := []uint32{0xffffffff, 0x80000001, 0x04c11db7, 0xff000000, 0x000000ff, 0x00ffff00, r.Uint32() | 1, r.Uint32() | 1<<31}
			for bit := range 32 {
				by = append(by, 1<<bit)
			}
			for _, b := range by {
				if got := unsealed(bent(file, at, b)); got != "" {
					t.Fatalf("%x, bent at %d by %#x: %x", file, at, b, got)
				}
			}
		}
	}
}

// TestP13Foreign: texts that were never sealed.
func TestP13Foreign(t *testing.T) {
	r := rand.New(rand.NewSource(3))
	file := sealed(text(r, 100))
	for n := range len(file) {
		if got := unsealed(file[:n]); got != "" {
			t.Errorf("the first %d bytes: %x", n, got)
		}
		if got := unsealed(file[n+1:]); got != "" {
			t.Errorf("the bytes from %d on: %x", n+1, got)
		}
		if got := unsealed(string(make([]byte, n))); got != "" {
			t.Errorf("%d noughts: %x", n, got)
		}
		if got := unsealed(text(r, n)); got != "" {
			t.Errorf("%d bytes: %x", n, got)
		}
		if got := unsealed(file + text(r, n+1)); got != "" {
			t.Errorf("%d bytes more: %x", n+1, got)
		}
	}
}
