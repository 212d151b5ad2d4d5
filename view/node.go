package view

import (
	"iter"

	"wardship/api"
	"wardship/entry"
	"wardship/path"
	"wardship/version"
)

// rootNode is how the root is seen.
func rootNode() api.Node { return api.Node{Path: path.Join(), Dir: true} }

// lostNode is how lost+found is seen.
func lostNode() api.Node { return api.Node{Path: path.Join(path.Lost), Dir: true} }

// isAt tells whether a directory is the root, or lost+found, by its path: neither is an object.
func isAt(dir api.Node, at string) bool { return dir.Obj == (api.ID{}) && dir.Path == at }

// inside goes over what is seen in a directory, in order.
func (t *tree) inside(dir api.Node) iter.Seq[api.Node] {
	if isAt(dir, path.Join(path.Lost)) {
		return t.rescued
	}
	return func(yield func(api.Node) bool) {
		l := entry.In(t.places[dir.Obj], dir.Obj)
		for i, name := range entry.Shown(l) {
			if !yield(t.node(below(dir, name), l[i].Obj, l[i].ID)) {
				return
			}
		}
		if isAt(dir, path.Join()) && len(t.lost) > 0 {
			yield(lostNode())
		}
	}
}

// rescued yields what is seen in lost+found.
func (t *tree) rescued(yield func(api.Node) bool) {
	for _, number := range t.lost {
		name := path.Tag(t.objects[number].Name, number)
		if !yield(t.node(below(lostNode(), name), number, api.ID{})) {
			return
		}
	}
}

// below is the path of what is seen in a directory by a name.
func below(dir api.Node, name string) string {
	if isAt(dir, path.Join()) {
		return path.Join(name)
	}
	return dir.Path + path.Join(name)
}

// node is how an object is seen at a path, by an entry or, with the zero number, in lost+found.
func (t *tree) node(at string, number, by api.ID) api.Node {
	o := t.objects[number]
	n := api.Node{Path: at, Obj: number, Entry: by, Dir: o.Dir}
	// A directory has no versions.
	heads := version.Heads(o.Versions)
	for _, v := range heads {
		n.Heads = append(n.Heads, v.ID)
	}
	if len(heads) == 1 {
		n.Data = heads[0].Data
	}
	return n
}
