package world

import (
	"cmp"

	"coppice/api"
	"coppice/script"
)

// judge tells whether a step is one: its kind is, and all that its kind doesn't use is zero.
func judge(op api.Op) api.Errno {
	if script.Word(op.Kind) == "" {
		return api.ErrKind
	}
	// Which fields a kind uses script knows: where another one is not zero, it has no text for the step.
	_, err := script.Print(api.Script{Ops: []api.Op{outline(op)}})
	return err
}

// outline is a step with the same fields zero, all others so small that script minds nothing else about them.
func outline(op api.Op) api.Op {
	return api.Op{
		Kind:  op.Kind,
		A:     cmp.Compare(op.A, 0),
		B:     cmp.Compare(op.B, 0),
		C:     cmp.Compare(op.C, 0),
		Key:   op.Key[:min(len(op.Key), 1)],
		Value: op.Value[:min(len(op.Value), 1)],
		Hi:    op.Hi[:min(len(op.Hi), 1)],
		Fates: make([]api.Fate, min(len(op.Fates), 1)),
	}
}
