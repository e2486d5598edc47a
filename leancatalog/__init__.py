"""A catalog of database objects that lean on one another."""
