package journal_test

import (
	"math/rand"
	"slices"
	"strings"
	"testing"

	"strata/api"
	"strata/journal"
)

// batches are some at the edges of what a batch may be.
func batches() [][]api.Op {
	long := api.Op{Key: strings.Repeat("k", api.MaxKey), Value: strings.Repeat("v", api.MaxValue)}
	return [][]api.Op{
		{{Key: "a", Value: "1"}},
		{{Key: "a", Value: ""}},
		{{Key: "a", Delete: true}},
		{{Key: "\x00", Value: "\xff"}, {Key: "\xff", Delete: true}, {Key: "\x80\x00", Value: "\x00\x00"}},
		{long},
		slices.Repeat([]api.Op{long}, api.MaxBatch),
		slices.Repeat([]api.Op{{Key: "d", Delete: true}}, api.MaxBatch),
	}
}

func TestWhatWasWrittenIsReadAgain(t *testing.T) {
	for _, ops := range batches() {
		record := journal.Encode(ops)
		for _, behind := range []string{"", "\x00", record, "something else"} {
			got, size, e := journal.Decode(record + behind)
			if !slices.Equal(got, ops) || size != len(record) || e != api.OK {
				t.Errorf("Decode(%q) = %v, %d, %d, want %v, %d", record+behind, got, size, e, ops, len(record))
			}
		}
	}
}

func TestTheValueOfADeleteIsNotWritten(t *testing.T) {
	with := journal.Encode([]api.Op{{Key: "a", Value: strings.Repeat("v", 1000), Delete: true}})
	if without := journal.Encode([]api.Op{{Key: "a", Delete: true}}); with != without {
		t.Errorf("Encode = %q and %q", with, without)
	}
}

func TestARecordThatIsCutOffIsNotRead(t *testing.T) {
	for _, ops := range batches() {
		record := journal.Encode(ops)
		for n := range len(record) {
			if got, size, e := journal.Decode(record[:n]); got != nil || size != 0 || e != api.OK {
				t.Errorf("Decode(%q) = %v, %d, %d, want nothing", record[:n], got, size, e)
			}
		}
	}
}

func TestARecordThatWasChangedIsBroken(t *testing.T) {
	for _, ops := range batches() {
		record := journal.Encode(ops)
		for i := 2; i < len(record); i++ {
			changed := []byte(record)
			changed[i] ^= 1
			if got, size, e := journal.Decode(string(changed)); got != nil || size != 0 || e != api.ErrBroken {
				t.Errorf("Decode(%q) = %v, %d, %d, want nothing, %d", changed, got, size, e, api.ErrBroken)
			}
		}
	}
}

func TestALengthThatNoBatchHasIsBroken(t *testing.T) {
	for _, text := range []string{"\x00\x00", "\x00\x01", "\xff\xff", "hello", "\x02\x91", "\x10\x00"} {
		if got, size, e := journal.Decode(text); got != nil || size != 0 || e != api.ErrBroken {
			t.Errorf("Decode(%q) = %v, %d, %d, want nothing, %d", text, got, size, e, api.ErrBroken)
		}
	}
}

// sealed is a record with the right length and sum, whatever its body is.
func sealed(body string) string {
	sum := uint32(2166136261)
	for _, c := range []byte(body) {
		sum = (sum ^ uint32(c)) * 16777619
	}
	head := []byte{byte(len(body) >> 8), byte(len(body)), byte(sum >> 24), byte(sum >> 16), byte(sum >> 8), byte(sum)}
	return string(head) + body
}

func TestABodyThatIsNoBatchIsBroken(t *testing.T) {
	if got, _, e := journal.Decode(sealed("\x01\x01kv")); len(got) != 1 || e != api.OK {
		t.Fatalf("Decode of a batch that was put together by hand = %v, %d", got, e)
	}
	for _, body := range []string{
		"\x00\x00", "\x80\x80", "\x01\x02kv", "\x01\x01kv\x01", "\x02\x01kv", "\x82k", "\x81",
		"\x11\x00" + strings.Repeat("k", 17), "\x91" + strings.Repeat("k", 17),
		"\x01\x41k" + strings.Repeat("v", 65), strings.Repeat("\x81k", 9), "\x81k\x00\x00",
	} {
		if got, size, e := journal.Decode(sealed(body)); got != nil || size != 0 || e != api.ErrBroken {
			t.Errorf("Decode of the body %q = %v, %d, %d", body, got, size, e)
		}
	}
}

func TestDecodeEndsOnAllTexts(t *testing.T) {
	r := rand.New(rand.NewSource(1))
	for range 20000 {
		text := make([]byte, r.Intn(40))
		for i := range text {
			text[i] = byte(r.Intn(256) >> uint(r.Intn(8)))
		}
		for _, text := range []string{string(text), sealed(string(text))} {
			if ops, size, e := journal.Decode(text); (e != api.OK || size == 0) && ops != nil || size > len(text) {
				t.Errorf("Decode(%q) = %v, %d, %d", text, ops, size, e)
			}
		}
	}
}
