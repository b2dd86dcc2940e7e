// Package manifest: how a store writes down which tables and which log it has.
package manifest

import (
	"strata/api"
	"strata/coding"
)

// Manifest says which files of a disk count.
type Manifest struct {
	Next   int // the number of the next table
	Log    int // the number of the log
	Tables []Place
}

// Place is where a table stands: the tables are in order, the oldest first.
type Place struct {
	Number, Level int
}

const (
	headSize  = 2 * coding.NumberSize
	placeSize = 2 * coding.NumberSize
	tooMuch   = 1 << 62 // far from where numbers wrap round
)

// Encode tells the text of a manifest.
func Encode(m Manifest) string {
	body := coding.AppendNumber(nil, m.Next)
	body = coding.AppendNumber(body, m.Log)
	for _, place := range m.Tables {
		body = coding.AppendNumber(body, place.Number)
		body = coding.AppendNumber(body, place.Level)
	}
	return coding.Seal(body)
}

// Decode reads the text of a manifest; ErrBroken, if it is none.
func Decode(text string) (Manifest, api.Errno) {
	body, whole := coding.Unseal(text)
	if !whole || len(body) < headSize || (len(body)-headSize)%placeSize != 0 {
		return Manifest{}, api.ErrBroken
	}
	m := Manifest{Next: coding.TakeNumber(body), Log: coding.TakeNumber(body[coding.NumberSize:])}
	for body = body[headSize:]; body != ""; body = body[placeSize:] {
		place := Place{Number: coding.TakeNumber(body), Level: coding.TakeNumber(body[coding.NumberSize:])}
		m.Tables = append(m.Tables, place)
	}
	if !mayBe(m) {
		return Manifest{}, api.ErrBroken
	}
	return m, api.OK
}

func mayBe(m Manifest) bool {
	if m.Next < 1 || m.Next >= tooMuch || m.Log < 0 || m.Log >= tooMuch {
		return false
	}
	numbers := map[int]struct{}{}
	level := tooMuch
	for _, place := range m.Tables {
		if place.Number < 1 || place.Number >= m.Next || place.Level < 0 || place.Level > level {
			return false
		}
		numbers[place.Number] = struct{}{}
		level = place.Level
	}
	return len(numbers) == len(m.Tables)
}
