// Package coding: how ops and numbers stand in the files of a store, and how a text is sealed.
package coding

import "strata/api"

const (
	NumberSize = 8
	SealSize   = 4
	MinOp      = 2
	MaxOp      = 2 + api.MaxKey + api.MaxValue
)

const deletes = 0x80

// AppendOp puts an op behind a text: a byte for the key's length and whether it deletes; the value's length, if it does not; the key; the value.
func AppendOp(text []byte, op api.Op) []byte {
	if op.Delete {
		text = append(text, byte(len(op.Key))|deletes)
		return append(text, op.Key...)
	}
	text = append(text, byte(len(op.Key)), byte(len(op.Value)))
	text = append(text, op.Key...)
	return append(text, op.Value...)
}

// OpSize tells how many bytes AppendOp puts behind a text.
func OpSize(op api.Op) int {
	if op.Delete {
		return 1 + len(op.Key)
	}
	return 2 + len(op.Key) + len(op.Value)
}

// TakeOp reads the op with which a text begins (of pieces of the text), and how many bytes it has: 0, if it begins with none.
func TakeOp(text string) (api.Op, int) {
	if len(text) < MinOp {
		return api.Op{}, 0
	}
	op := api.Op{Delete: text[0]&deletes != 0}
	head, key, value := 1, int(text[0]&^deletes), 0
	if !op.Delete {
		head, value = 2, int(text[1])
	}
	size := head + key + value
	if key < 1 || key > api.MaxKey || value > api.MaxValue || len(text) < size {
		return api.Op{}, 0
	}
	op.Key, op.Value = text[head:head+key], text[head+key:size]
	return op, size
}

// AppendNumber puts a number behind a text, the highest byte first.
func AppendNumber(text []byte, n int) []byte {
	for shift := 8 * (NumberSize - 1); shift >= 0; shift -= 8 {
		text = append(text, byte(uint64(n)>>shift))
	}
	return text
}

// TakeNumber reads the number with which a text of at least NumberSize bytes begins.
func TakeNumber(text string) int {
	n := uint64(0)
	for i := range NumberSize {
		n = n<<8 | uint64(text[i])
	}
	return int(n)
}

// Seal tells a body with its sum ahead of it.
func Seal(body []byte) string {
	n := sum(string(body))
	text := make([]byte, 0, SealSize+len(body))
	text = append(text, byte(n>>24), byte(n>>16), byte(n>>8), byte(n))
	return string(append(text, body...))
}

// Unseal tells the body of a sealed text, and whether it is as it was when it was sealed.
func Unseal(text string) (string, bool) {
	if len(text) < SealSize {
		return "", false
	}
	n := uint32(text[0])<<24 | uint32(text[1])<<16 | uint32(text[2])<<8 | uint32(text[3])
	body := text[SealSize:]
	return body, sum(body) == n
}

// sum tells apart the texts that a store wrote and those that were changed behind its back (FNV-1a).
func sum(text string) uint32 {
	n := uint32(2166136261)
	for i := range len(text) {
		n = (n ^ uint32(text[i])) * 16777619
	}
	return n
}
