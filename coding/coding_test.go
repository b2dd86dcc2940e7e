package coding_test

import (
	"math"
	"math/rand"
	"slices"
	"strings"
	"testing"

	"strata/api"
	"strata/coding"
)

func ops() []api.Op {
	return []api.Op{
		{Key: "a", Value: "1"},
		{Key: "a"},
		{Key: "a", Delete: true},
		{Key: "\x00", Value: "\xff\x00"},
		{Key: strings.Repeat("\xff", api.MaxKey), Delete: true},
		{Key: strings.Repeat("k", api.MaxKey), Value: strings.Repeat("v", api.MaxValue)},
	}
}

func TestAnOpIsReadAgain(t *testing.T) {
	for _, op := range ops() {
		text := string(coding.AppendOp([]byte("ahead"), op))[len("ahead"):]
		if len(text) < coding.MinOp || len(text) > coding.MaxOp || len(text) != coding.OpSize(op) {
			t.Errorf("%v has %d bytes, and OpSize is %d", op, len(text), coding.OpSize(op))
		}
		for _, behind := range []string{"", "\x00", "something else"} {
			if got, size := coding.TakeOp(text + behind); got != op || size != len(text) {
				t.Errorf("TakeOp(%q) = %v, %d, want %v, %d", text+behind, got, size, op, len(text))
			}
		}
		for n := range len(text) {
			if got, size := coding.TakeOp(text[:n]); got != (api.Op{}) || size != 0 {
				t.Errorf("TakeOp(%q) = %v, %d, want none", text[:n], got, size)
			}
		}
	}
}

func TestTheValueOfADeletionIsNotWritten(t *testing.T) {
	with := api.Op{Key: "a", Value: strings.Repeat("v", 1000), Delete: true}
	if text := string(coding.AppendOp(nil, with)); text != "\x81a" || coding.OpSize(with) != 2 {
		t.Errorf("AppendOp = %q, OpSize = %d", text, coding.OpSize(with))
	}
}

func TestWhatIsNoOpIsNotRead(t *testing.T) {
	for _, text := range []string{
		"", "\x00\x00", "\x80\x80", "\x00\x01v", "\x80k", "\x01\x41k" + strings.Repeat("v", 65),
		"\x11\x00" + strings.Repeat("k", 17), "\x91" + strings.Repeat("k", 17), "\xff" + strings.Repeat("k", 200),
	} {
		if got, size := coding.TakeOp(text); got != (api.Op{}) || size != 0 {
			t.Errorf("TakeOp(%q) = %v, %d, want none", text, got, size)
		}
	}
}

func TestANumberIsReadAgain(t *testing.T) {
	for _, n := range []int{0, 1, 255, 256, 65535, 1 << 32, 1<<62 + 12345, math.MaxInt, -1, math.MinInt} {
		text := string(coding.AppendNumber([]byte("ahead"), n))[len("ahead"):]
		if got := coding.TakeNumber(text + "behind"); got != n || len(text) != coding.NumberSize {
			t.Errorf("TakeNumber(%q) = %d, want %d", text, got, n)
		}
	}
}

func TestASealedTextIsReadAgain(t *testing.T) {
	for _, body := range []string{"", "a", "\x00", strings.Repeat("\xff", 1000)} {
		text := coding.Seal([]byte(body))
		if got, whole := coding.Unseal(text); got != body || !whole || len(text) != coding.SealSize+len(body) {
			t.Errorf("Unseal(%q) = %q, %v, want %q", text, got, whole, body)
		}
	}
}

func TestASealedTextThatWasChangedIsTold(t *testing.T) {
	text := coding.Seal([]byte("some body"))
	for i := range text {
		for _, flip := range []byte{1, 0x80, 0xff} {
			changed := []byte(text)
			changed[i] ^= flip
			if _, whole := coding.Unseal(string(changed)); whole {
				t.Errorf("%q counts as whole", changed)
			}
		}
		if _, whole := coding.Unseal(text[:i]); whole {
			t.Errorf("%q counts as whole", text[:i])
		}
	}
}

func TestTakeOpEndsOnAllTexts(t *testing.T) {
	r := rand.New(rand.NewSource(1))
	for range 20000 {
		text := make([]byte, r.Intn(100))
		for i := range text {
			text[i] = byte(r.Intn(256) >> uint(r.Intn(8)))
		}
		op, size := coding.TakeOp(string(text))
		if size > len(text) || size > 0 && !slices.Equal(coding.AppendOp(nil, op), text[:size]) {
			t.Errorf("TakeOp(%q) = %v, %d", text, op, size)
		}
	}
}
