package manifest_test

import (
	"math"
	"math/rand"
	"reflect"
	"testing"

	"strata/api"
	"strata/coding"
	"strata/manifest"
)

func manifests() []manifest.Manifest {
	return []manifest.Manifest{
		{Next: 1},
		{Next: 7, Log: 3},
		{Next: 9, Log: 2, Tables: []manifest.Place{{Number: 1, Level: 0}}},
		{Next: 1 << 40, Log: 1 << 50, Tables: []manifest.Place{{Number: 8, Level: 3}, {Number: 1<<40 - 1, Level: 3}, {Number: 2, Level: 1}, {Number: 9, Level: 0}}},
	}
}

func TestAManifestIsReadAgain(t *testing.T) {
	for _, m := range manifests() {
		got, e := manifest.Decode(manifest.Encode(m))
		if !reflect.DeepEqual(got, m) || e != api.OK {
			t.Errorf("Decode(Encode(%v)) = %v, %d", m, got, e)
		}
	}
}

func refused(t *testing.T, text string) {
	t.Helper()
	if got, e := manifest.Decode(text); !reflect.DeepEqual(got, manifest.Manifest{}) || e != api.ErrBroken {
		t.Errorf("Decode(%q) = %v, %d, want nothing, %d", text, got, e, api.ErrBroken)
	}
}

func TestAManifestThatWasChangedIsBroken(t *testing.T) {
	for _, m := range manifests() {
		text := manifest.Encode(m)
		for i := range text {
			changed := []byte(text)
			changed[i] ^= 1
			refused(t, string(changed))
			refused(t, text[:i])
		}
		refused(t, text+"\x00")
	}
}

func TestWhatNoStoreHasIsBroken(t *testing.T) {
	for _, m := range []manifest.Manifest{
		{Next: 0},
		{Next: -1},
		{Next: math.MaxInt},
		{Next: 1, Log: -1},
		{Next: 1, Log: math.MaxInt},
		{Next: 2, Tables: []manifest.Place{{Number: 2}}},
		{Next: 2, Tables: []manifest.Place{{Number: 0}}},
		{Next: 2, Tables: []manifest.Place{{Number: -1}}},
		{Next: 2, Tables: []manifest.Place{{Number: 1, Level: -1}}},
		{Next: 2, Tables: []manifest.Place{{Number: 1, Level: math.MaxInt}}},
		{Next: 9, Tables: []manifest.Place{{Number: 1}, {Number: 2}, {Number: 1}}},
		{Next: 9, Tables: []manifest.Place{{Number: 1, Level: 1}, {Number: 2, Level: 0}, {Number: 3, Level: 1}}},
	} {
		refused(t, manifest.Encode(m))
	}
	for _, body := range []string{"", "something", "sixteen bytes or", "seventeen bytes o", "twenty-four bytes or some"} {
		refused(t, coding.Seal([]byte(body)))
	}
}

func TestDecodeEndsOnAllTexts(t *testing.T) {
	r := rand.New(rand.NewSource(1))
	for range 20000 {
		body := make([]byte, r.Intn(80))
		for i := range body {
			body[i] = byte(r.Intn(256) >> uint(r.Intn(30)))
		}
		for _, text := range []string{string(body), coding.Seal(body)} {
			m, e := manifest.Decode(text)
			if e == api.OK && manifest.Encode(m) != text {
				t.Errorf("Decode(%q) = %v", text, m)
			}
		}
	}
}
